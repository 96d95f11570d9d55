import PyProof.Rows.All
import Wide.All
import OpenK.AllK
import Wide.FinOn
import Lean
import PyProof.EqAt
import PyProof.EqKinds
import PyProof.TupleCall
import PySem.Challenge.RW_whence_k11_worth
noncomputable section
set_option Elab.async false
set_option linter.all false
set_option bootstrap.genMatcherCode false
set_option maxRecDepth 100000
namespace L2
open PySem PySem.Spec PyProof.Rows
abbrev Key:=Sum Int Str
def aXc:Key->Value->Bool
 | .inl k,v=>Value.isInt k v
 | .inr x,v=>Value.isStrOf x v
def bU9 (w:World):Key->Int
 | .inl k=>hashInt k
 | .inr x=>hashStr w x
theorem aCf: ∀{k:Key} {v:Value},aXc k v=true->(∃i t,k=Sum.inl i/\v=Value.int i t)\/(∃x t,k=Sum.inr x/\v=Value.str x t)
 | .inl i,v,h=>by
  obtain⟨t,e⟩:=Value.isInt_shape (k:=i) (v:=v) h;exact .inl ⟨i,t,rfl,e⟩
 | .inr x,v,h=>by
  obtain⟨t,e⟩:=Value.isStrOf_shape (x:=x) (v:=v) h;exact .inr ⟨x,t,rfl,e⟩
theorem bDm (i:Int)(t:Tok):aXc (.inl i) (.int i t)=true:=by simp[aXc,Value.isInt]
theorem bDl (x:Str)(t:Tok):aXc (.inr x) (.str x t)=true:=by simp[aXc,Value.isStrOf]
theorem bP1 (a b:Int):decide ((Sum.inl a:Key)=Sum.inl b)=(a==b):=by
 by_cases e:a=b
 ·subst e;simp
 ·have h:¬(Sum.inl a:Key)=Sum.inl b:=fun q=>e (Sum.inl.inj q)
  rw[decide_eq_false h];exact (beq_eq_false_iff_ne.mpr e).symm
theorem bPy (a b:Str):decide ((Sum.inr a:Key)=Sum.inr b)=decide (a=b):=by
 by_cases e:a=b
 ·subst e;simp
 ·have h:¬(Sum.inr a:Key)=Sum.inr b:=fun q=>e (Sum.inr.inj q)
  rw[decide_eq_false h,decide_eq_false e]
theorem bP0 (a:Int)(b:Str):decide ((Sum.inl a:Key)=Sum.inr b)=false:=decide_eq_false (fun q=>nomatch q)
theorem bPz (a:Str)(b:Int):decide ((Sum.inr a:Key)=Sum.inl b)=false:=decide_eq_false (fun q=>nomatch q)
def aB8 (prog:Program)(w:World):PySem.KeyKind prog w Key where
 is:=aXc
 hash:=bU9 w
 inj:=fun v a b ha hb=>by
  rcases aCf ha with⟨i,t,rfl,rfl⟩ |⟨x,t,rfl,rfl⟩
  ·rcases aCf hb with⟨j,u,rfl,e⟩ |⟨y,u,rfl,e⟩
   ·injection e with e1 _;rw[e1]
   ·exact nomatch e
  ·rcases aCf hb with⟨j,u,rfl,e⟩ |⟨y,u,rfl,e⟩
   ·exact nomatch e
   ·injection e with e1 _;rw[e1]
 byValue:=fun k v h=>by
  rcases aCf h with⟨i,t,rfl,rfl⟩ |⟨x,t,rfl,rfl⟩<;>rfl
 pyHash:=fun hv h=>by
  rcases aCf hv with⟨i,t,rfl,rfl⟩ |⟨x,t,rfl,rfl⟩
  ·exact wpAny_pyHash_int h
  ·exact wpAny_pyHash_str h
 eqBool:=fun hu hv h=>by
  rcases aCf hu with⟨i,t,rfl,rfl⟩ |⟨x,t,rfl,rfl⟩
  ·rcases aCf hv with⟨j,u,rfl,rfl⟩ |⟨y,u,rfl,rfl⟩
   ·rw[bP1] at h;exact wpAny_eqBool_int h
   ·rw[bP0] at h;exact SeqAt.EqAt.int_str i t y u _ _ _ _ h
  ·rcases aCf hv with⟨j,u,rfl,rfl⟩ |⟨y,u,rfl,rfl⟩
   ·rw[bPz] at h;exact SeqAt.EqAt.str_int x t j u _ _ _ _ h
   ·rw[bPy] at h;exact wpAny_eqBool_str h
 «strs»:=fun k x t v h=>by
  rcases aCf h with⟨i,u,rfl,e⟩ |⟨y,u,rfl,e⟩
  ·exact nomatch e
  ·injection e with e1 _
   subst e1;cases v<;>rfl
theorem aXa (prog:Program)(w:World)(i:Int)(t:Tok):(aB8 prog w).is (.inl i) (.int i t)=true:=bDm i t
theorem aW9 (prog:Program)(w:World)(x:Str)(t:Tok):(aB8 prog w).is (.inr x) (.str x t)=true:=bDl x t
inductive V where
 | non | bl (b:Bool) | int (i:Int) | str (x:Str) | byt (b:Array UInt8) | flt (b:UInt64) | ref (a:Addr) | ty (n:String)
 deriving DecidableEq
def RelV:V->Value->Prop
 | .non,u=>u=Value.none
 | .bl b,u=>u=Value.bool b
 | .int i,u=> ∃t,u=Value.int i t
 | .str x,u=> ∃t,u=Value.str x t
 | .byt b,u=> ∃t,u=Value.bytes b t
 | .flt b,u=> ∃t,u=Value.float b t
 | .ref a,u=>u=Value.ref a
 | .ty n,u=>u=Value.type n
abbrev Vals:List V->List Value->Prop:=Paired RelV
theorem Vals.length {xs:List V}{us:List Value}(r:Vals xs us):xs.length=us.length:=Paired.length r
theorem Vals.get: ∀{xs:List V} {us:List Value} {i:Nat} {x:V},Vals xs us->xs[i]? =some x->∃u,us[i]? =some u/\RelV x u
 | _,_,_,_,.nil,e=>by simp at e
 | _,_,0,_,.cons r _,e=>by simp at e;subst e;exact⟨_,rfl,r⟩
 | _,_,i+1,x,.cons _ t,e=>by
  obtain⟨u,h1,h2⟩:=Vals.get (i:=i) (x:=x) t (by simpa using e);exact⟨u,by simpa using h1,h2⟩
theorem Vals.append: ∀{xs ys:List V} {us ws:List Value},Vals xs us->Vals ys ws->Vals (xs++ys) (us++ws)
 | _,_,_,_,.nil,s=>s
 | _,_,_,_,.cons r t,s=> .cons r (Vals.append t s)
theorem Vals.take: ∀{xs:List V} {us:List Value} (n:Nat),Vals xs us->Vals (xs.take n) (us.take n)
 | _,_,0,_=> .nil
 | _,_,_+1,.nil=> .nil
 | _,_,n+1,.cons r t=> .cons r (Vals.take n t)
theorem Vals.drop: ∀{xs:List V} {us:List Value} (n:Nat),Vals xs us->Vals (xs.drop n) (us.drop n)
 | _,_,0,r=>r
 | _,_,_+1,.nil=> .nil
 | _,_,n+1,.cons _ t=>Vals.drop n t
def aTl:Option V->Option Value->Prop
 | some v,some u=>RelV v u
 | none,none=>True
 | _,_=>False
def KV {κ:Type}:List (κ×V)->List (κ×Value)->Prop:=Paired fun (p:κ×V) (q:κ×Value)=>p.1=q.1/\RelV p.2 q.2
def kV:Key->V
 | .inl i=> .int i
 | .inr x=> .str x
inductive HO where
 | lst (xs:List V)
 | tup (xs:List V)
 | dK (kvs:List (Key×V)) | dT (kvs:List (List Key×V))
 | set (S:Str->Bool) (n:Nat)
 | ins (C dx:Addr) (fs:List (Str×V))
 | own (x:Addr)
 | xd (fs:List (Str×V))
 | met (f x:Addr)
 | rng (lo hi:Int)
 | frz (o:Obj) (u:HO)
 | tbl (ps:Array Value)
 | ext (φ:Heap->Prop)
abbrev Hp:=Addr->Option HO
def upd (H:Hp)(a:Addr)(o:HO):Hp:=fun b=>if b=a then some o else H b
theorem aAy {H:Hp}{a:Addr}{o:HO}:upd H a o a=some o:=by unfold upd;rw[if_pos rfl]
theorem aA6 {H:Hp}{a b:Addr}{o:HO}(h:b≠a):upd H a o b=H b:=by unfold upd;rw[if_neg h]
theorem bSs {H:Hp}{a b:Addr}{o u:HO}(h:H a=some o)(h':H b=some u)(d:o≠u):a≠b:=by
 intro e;subst e;rw[h] at h';exact d (Option.some.inj h')
theorem aDv {H:Hp}{a b:Addr}{o:HO}(h:H a=some o)(h':H b=none):a≠b:=by
 intro e;subst e;rw[h] at h';cases h'
def bVg (w:World)(o:Obj):Prop:= ∃es ep t,o.data= .set es ep t/\(w.params.followText "set-order"=true\/t.led=true)/\(es.size=0\/t.plain=false)
def bA7 (w:World)(h:Heap)(a:Addr):Prop:= ∃o,h.get? a=some o/\bVg w o
def bFo (h:Heap)(a:Addr)(its:Array Value):Prop:= ∃o,h.get? a=some o/\o.cls= .type "tuple"/\(∃n,o.data= .seq its n)/\o.dict=none
theorem bFo.tup {h:Heap}{a:Addr}{its:Array Value}(x:bFo h a its):IsTup h a its:=let ⟨o,e,c,d,_⟩:=x;⟨o,e,c,d⟩
theorem bFo.lt {h:Heap}{a:Addr}{its:Array Value}(x:bFo h a its):a<h.objs.size:=let ⟨_,e,_⟩:=x;Heap.lt_size e
theorem bFo.new (h:Heap)(its:Array Value):bFo (h.push {cls:= .type "tuple",data:= .seq its}) h.objs.size its:=⟨_,Heap.get?_push_size _ rfl,rfl,⟨_,rfl⟩,rfl⟩
section
variable (P:Program)(w:World)
def aDb (H:Hp)(h:Heap)(a:Addr):HO->Prop
 | .lst xs=>xs.length<=sizeLine/\∃(its:List Value) (n:Nat),Vals xs its/\h.get? a=some {cls:= .type "list",data:= .seq its.toArray n}
 | .tup xs=>xs.length<=sizeLine/\∃its:List Value,Vals xs its/\bFo h a its.toArray
 | .dK kvs=>kvs.length<=sizeLine/\(a==sysModules)=false/\∃vs,KV kvs vs/\h.DictOf (aB8 P w) a vs
 | .dT kvs=>kvs.length<=sizeLine/\(a==sysModules)=false/\∃xs:List (List Key×Addr×Value),
   Paired (fun (p:List Key×V) (q:List Key×Addr×Value)=>p.1=q.1/\H q.2.1=some (.tup (p.1.map kV))/\RelV p.2 q.2.2) kvs xs/\
   ∃o es ep,h.get? a=some o/\o.ExactDict/\o.data= .dict es ep/\es.toList=xs.map (entryOfKey (tupleKind (aB8 P w)))/\(xs.map (·.1)).Nodup
 | .set S n=>h.SetOf (PySem.strKind P w) a S n/\bA7 w h a
 | .ins C dx fs=>H dx=some (.own a)/\fs.length<=1000/\dx≠a/\h.get? a=some (PySem.W.instObj C dx)/\
   ∃mA,h.Ns1 dx mA/\(∀f,aTl (fs.lookup f) (mA f))/\PySem.Within mA (fs.map (·.1))
 | .own _=> ∃o,h.get? a=some o
 | .xd fs=> ∃mA,h.Ns1 a mA/\∀f,aTl (fs.lookup f) (mA f)
 | .rng lo hi=> ∃t u v,h.get? a=some {cls:= .type "range",data:= .fields #[.int lo t,.int hi u,.int 1 v]}
 | .frz o u=>h.get? a=some o/\aDb H h a u
 | .tbl ps=>h.get? a=some {cls:= .none,data:= .fields ps}
 | .met f x=>h.get? a=some (PySem.W.methodObj (.ref f) (.ref x))
 | .ext φ=>φ h/\(∃o,h.get? a=some o)/\∀h1 h2:Heap,φ h1->(∀o,h1.get? a=some o->h2.get? a=some o)->φ h2
def HOk (H:Hp)(h:Heap):Prop:= ∀a o,H a=some o->aDb P w H h a o
end
section
variable {P:Program}{w:World}{H H':Hp}{h h':Heap}{a:Addr}{o:HO}
theorem aDb.lt (x:aDb P w H h a o):a<h.objs.size:=by
 cases o with
 | lst xs=>obtain⟨_,_,_,_,e⟩:=x;exact Heap.lt_size e
 | tup xs=>obtain⟨_,_,_,p⟩:=x;exact p.lt
 | dK kvs=>obtain⟨_,_,_,_,o,_,_,e,_⟩:=x;exact Heap.lt_size e
 | dT kvs=>obtain⟨_,_,_,_,o,_,_,e,_⟩:=x;exact Heap.lt_size e
 | set S n=>obtain⟨⟨o,_,_,_,e,_⟩,_⟩:=x;exact Heap.lt_size e
 | ins C dx fs=>obtain⟨_,_,_,e,_⟩:=x;exact Heap.lt_size e
 | own y=>obtain⟨_,e⟩:=x;exact Heap.lt_size e
 | xd fs=>obtain⟨_,⟨_,_,_,e,_⟩,_⟩:=x;exact Heap.lt_size e
 | rng lo hi=>obtain⟨_,_,_,e⟩:=x;exact Heap.lt_size e
 | frz ob u=>obtain⟨e,_⟩:=x;exact Heap.lt_size e
 | tbl ps=>exact Heap.lt_size (show h.get? a=some _ from x)
 | met f y=>exact Heap.lt_size (show h.get? a=some _ from x)
 | ext φ=>obtain⟨_,⟨_,e⟩,_⟩:=x;exact Heap.lt_size e
theorem Paired.bQ9 {α β:Type}{F G:α->β->Prop}: ∀{l₁:List α} {l₂:List β},Paired F l₁ l₂->(∀a b,F a b->G a b)->Paired G l₁ l₂
 | _,_,.nil,_=> .nil
 | _,_,.cons r t,f=> .cons (f _ _ r) (Paired.bQ9 t f)
theorem aDb.stay (x:aDb P w H h a o)(k: ∀b u,(b=a\/H b=some (.own a))->h.get? b=some u->h'.get? b=some u)
  (ho: ∀b,H b=some (.own a)->H' b=some (.own a)) (ht: ∀b xs,H b=some (.tup xs)->H' b=some (.tup xs)):aDb P w H' h' a o:=by
 induction o with
 | lst xs=>obtain⟨z,its,n,r,e⟩:=x;exact⟨z,its,n,r,k _ _ (.inl rfl) e⟩
 | tup xs=>obtain⟨z,its,r,ob,e,c⟩:=x;exact⟨z,its,r,ob,k _ _ (.inl rfl) e,c⟩
 | dK kvs=>obtain⟨z,y,vs,r,ob,es,ep,e,c⟩:=x;exact⟨z,y,vs,r,ob,es,ep,k _ _ (.inl rfl) e,c⟩
 | dT kvs=>
  obtain⟨z,y,xs,r,ob,es,ep,e,c⟩:=x;exact⟨z,y,xs,Paired.bQ9 r fun p q z=>⟨z.1,ht _ _ z.2.1,z.2.2⟩,ob,es,ep,k _ _ (.inl rfl) e,c⟩
 | set S n=>obtain⟨⟨ob,es,ep,t,e,c⟩,o',e',c'⟩:=x;exact⟨⟨ob,es,ep,t,k _ _ (.inl rfl) e,c⟩,o',k _ _ (.inl rfl) e',c'⟩
 | ins C dx fs=>
  obtain⟨d,z,ne,e,mA,⟨od,es,ep,e2,c⟩,r⟩:=x;exact⟨ho _ d,z,ne,k _ _ (.inl rfl) e,mA,⟨od,es,ep,k _ _ (.inr d) e2,c⟩,r⟩
 | own y=>obtain⟨ob,e⟩:=x;exact⟨ob,k _ _ (.inl rfl) e⟩
 | xd fs=>obtain⟨mA,⟨od,es,ep,e,c⟩,r⟩:=x;exact⟨mA,⟨od,es,ep,k _ _ (.inl rfl) e,c⟩,r⟩
 | rng lo hi=>obtain⟨t,u,v,e⟩:=x;exact⟨t,u,v,k _ _ (.inl rfl) e⟩
 | frz ob u ih=>obtain⟨e,q⟩:=x;exact⟨k _ _ (.inl rfl) e,ih q⟩
 | tbl ps=>
  have e:h.get? a=some {cls:= .none,data:= .fields ps}:=x;show h'.get? a=some {cls:= .none,data:= .fields ps};exact k a _ (.inl rfl) e
 | met f y=>
  have e:h.get? a=some (PySem.W.methodObj (.ref f) (.ref y)):=x;show h'.get? a=some (PySem.W.methodObj (.ref f) (.ref y));exact k a _ (.inl rfl) e
 | ext φ=>obtain⟨p,⟨o,e⟩,st⟩:=x;exact⟨st _ _ p fun o q=>k _ _ (.inl rfl) q,⟨o,k _ _ (.inl rfl) e⟩,st⟩
theorem HOk.lt (x:HOk P w H h)(e:H a=some o):a<h.objs.size:=(x a o e).lt
theorem HOk.fresh (x:HOk P w H h)(e:h.objs.size<=a):H a=none:=by
 cases q:H a with
 | none=>rfl
 | some u=>exact absurd (Nat.lt_of_lt_of_le (x.lt q) e) (Nat.lt_irrefl _)
theorem HOk.kept (x:HOk P w H h)(k: ∀b u,h.get? b=some u->h'.get? b=some u):HOk P w H h':=fun a o e=>
 (x a o e).stay (fun b u _ q=>k b u q) (fun _ q=>q) fun _ _ q=>q
theorem HOk.laid (x:HOk P w H h)(k: ∀b u,h.get? b=some u->h'.get? b=some u)(hp:h.objs.size<=a)(new:aDb P w (upd H a o) h' a o):HOk P w (upd H a o) h':=fun b u e=>by
 have hn:=x.fresh hp;by_cases hb:b=a
 ·subst hb;rw[aAy] at e;cases e;exact new
 ·rw[aA6 hb] at e
  exact (x b u e).stay (fun c v _ q=>k c v q) (fun c q=>by rw[aA6 (aDv q hn)];exact q) fun c xs q=>by rw[aA6 (aDv q hn)];exact q
end
def Rd (H:Hp)(a:Addr)(u:HO):Prop:=H a=some u\/∃o,H a=some (.frz o u)
theorem Rd.ok {P:Program}{w:World}{H:Hp}{h:Heap}{a:Addr}{u:HO}(r:Rd H a u)(x:HOk P w H h):aDb P w H h a u:=by
 rcases r with r |⟨o,r⟩
 ·exact x a u r
 ·obtain⟨_,q⟩:=x a _ r
  exact q
def Mut:Option HO->Prop
 | some (.lst _)=>True
 | some (.dK _)=>True
 | some (.dT _)=>True
 | some (.set _ _)=>True
 | some (.ins _ _ _)=>True
 | some (.ext _)=>True
 | _=>False
section
variable {P:Program}{w:World}{H:Hp}{h h':Heap}{x e:Addr}{o':HO}
theorem HOk.write (ok:HOk P w H h)(mu:Mut (H x))(he:e=x\/H e=some (.own x))(k: ∀b u,b≠e->h.get? b=some u->h'.get? b=some u)(heo: ∃u,h'.get? e=some u)
  (new:aDb P w (upd H x o') h' x o'):HOk P w (upd H x o') h':=fun b u q=>by
 have bTu: ∀c y,H c=some (.own y)->c≠x:=fun c y r z=>by subst z;rw[r] at mu;exact mu
 have bU0: ∀c xs,H c=some (.tup xs)->c≠x:=fun c xs r z=>by subst z;rw[r] at mu;exact mu
 by_cases hb:b=x
 ·subst hb;rw[aAy] at q;cases q;exact new
 ·rw[aA6 hb] at q
  by_cases hbe:b=e
  ·have q':H b=some (.own x):=by
    rcases he with z | z
    ·exact absurd (hbe.trans z) hb
    ·rw[hbe];exact z
   rw[q] at q';cases q';obtain⟨v,hv⟩:=heo;exact⟨v,by rw[hbe];exact hv⟩
  ·refine (ok b u q).stay (fun c v hc r=>k c v ?_ r) (fun c r=>by rw[aA6 (bTu c b r)];exact r) fun c xs r=>by rw[aA6 (bU0 c xs r)];exact r
   rcases hc with rfl | hc
   ·exact hbe
   ·rintro rfl
    rcases he with z | z
    ·exact bTu c b hc z
    ·rw[hc] at z;cases z;exact hb rfl
end
structure Un (fs ex:List Addr)(H H':Hp)(h h':Heap):Prop where
 keep: ∀b o,h.get? b=some o->H b=none->b∉fs->b∉ex->h'.get? b=some o
 slot: ∀b o,h.get? b=some o->H b=none->b∈fs->b∉ex->∃sl,h'.get? b=some {o with slots:=sl}
 free: ∀b o,h.get? b=some o->H b=none->b∉ex->H' b=none
 there: ∀b o,h.get? b=some o->b∉ex->∃o',h'.get? b=some o'
 tups: ∀b xs,H b=some (.tup xs)->H' b=some (.tup xs)
 aU5: ∀b o u,H b=some (.frz o u)->H' b=some (.frz o u)
 aVy: ∀b ps,H b=some (.tbl ps)->∃more,H' b=some (.tbl (ps++more))
section
variable {fs fs' ex ex':List Addr}{H H1 H2:Hp}{h h1 h2 h':Heap}{a x e:Addr}{o:HO}
theorem Un.any (u:Un fs ex H H1 h h1){b:Addr}{ob:Obj}(q:h.get? b=some ob)(n:H b=none)(hx:b∉ex): ∃sl,h1.get? b=some {ob with slots:=sl}:=by
 by_cases hb:b∈fs
 ·exact u.slot b ob q n hb hx
 ·exact⟨ob.slots,u.keep b ob q n hb hx⟩
theorem Un.trans (a:Un fs ex H H1 h h1)(b:Un fs ex H1 H2 h1 h2):Un fs ex H H2 h h2 where
 keep:=fun c ob q n hc hx=>b.keep c ob (a.keep c ob q n hc hx) (a.free c ob q n hx) hc hx
 slot:=fun c ob q n hc hx=>by
  obtain⟨sl,e1⟩:=a.slot c ob q n hc hx;obtain⟨sl',e2⟩:=b.slot c _ e1 (a.free c ob q n hx) hc hx;exact⟨sl',e2⟩
 free:=fun c ob q n hx=>by
  obtain⟨o',e1⟩:=a.there c ob q hx;exact b.free c o' e1 (a.free c ob q n hx) hx
 there:=fun c ob q hx=>by
  obtain⟨o',e1⟩:=a.there c ob q hx;exact b.there c o' e1 hx
 tups:=fun c xs q=>b.tups c xs (a.tups c xs q)
 aU5:=fun c ob xs q=>b.aU5 c ob xs (a.aU5 c ob xs q)
 aVy:=fun c ps q=>by
  obtain⟨m1,e1⟩:=a.aVy c ps q;obtain⟨m2,e2⟩:=b.aVy c _ e1;exact⟨m1++m2,by rw[e2,Array.append_assoc]⟩
theorem Un.kept (k: ∀b u,h.get? b=some u->h'.get? b=some u):Un fs ex H H h h':=
 ⟨fun b ob q _ _ _=>k b ob q,fun b ob q _ _ _=>⟨ob.slots,k b ob q⟩,fun _ _ _ n _=>n,fun b ob q _=>⟨ob,k b ob q⟩,fun _ _ q=>q,fun _ _ _ q=>q,fun _ ps q=>⟨#[],by rw[q];simp⟩⟩
theorem Un.refl:Un fs ex H H h h:=Un.kept fun _ _ q=>q
theorem Un.laid (k: ∀b u,h.get? b=some u->h'.get? b=some u)(hp:h.objs.size<=a)(hn:H a=none):Un fs ex H (upd H a o) h h' where
 keep:=fun b u q _ _ _=>k b u q
 slot:=fun b u q _ _ _=>⟨u.slots,k b u q⟩
 free:=fun b u q n _=>by rw[aA6 (Nat.ne_of_lt (Nat.lt_of_lt_of_le (Heap.lt_size q) hp))];exact n
 there:=fun b u q _=>⟨u,k b u q⟩
 tups:=fun b xs q=>by rw[aA6 (aDv q hn)];exact q
 aU5:=fun b u xs q=>by rw[aA6 (aDv q hn)];exact q
 aVy:=fun b ps q=>⟨#[],by rw[aA6 (aDv q hn),q];simp⟩
theorem Un.write (mu:Mut (H x))(he:e=x\/H e=some (.own x))(k: ∀b u,b≠e->h.get? b=some u->h'.get? b=some u)(heo: ∃u,h'.get? e=some u):Un fs ex H (upd H x o) h h':=by
 have hx: ∀b,H b=none->b≠x:=fun b n z=>by subst z;rw[n] at mu;exact mu
 have hb: ∀b,H b=none->b≠e:=fun b n z=>by
  subst z;rcases he with r | r
  ·exact hx b n r
  ·rw[n] at r;cases r
 have hm: ∀b u,H b=some u->¬Mut (some u)->b≠x:=fun b u q nm z=>by subst z;rw[q] at mu;exact nm mu
 refine⟨fun b u q n _ _=>k b u (hb b n) q,fun b u q n _ _=>⟨u.slots,k b u (hb b n) q⟩,fun b u q n _=>by rw[aA6 (hx b n)];exact n,fun b u q _=> ?_,
  fun b xs q=>by rw[aA6 (hm b _ q fun z=>z)];exact q,fun b u xs q=>by rw[aA6 (hm b _ q fun z=>z)];exact q,fun b ps q=>⟨#[],by rw[aA6 (hm b _ q fun z=>z),q];simp⟩⟩
 by_cases hbe:b=e
 ·subst hbe;exact heo
 ·exact⟨u,k b u hbe q⟩
theorem Un.mono (u:Un fs ex H H1 h h1)(hs: ∀b∈fs,b∈fs')(hx: ∀b∈ex,b∈ex'):Un fs' ex' H H1 h h1:=
 ⟨fun b ob q n hb he=>u.keep b ob q n (fun z=>hb (hs b z)) fun z=>he (hx b z),fun _ _ q n _ he=>u.any q n fun z=>he (hx _ z),fun b ob q n he=>u.free b ob q n fun z=>he (hx b z),fun b ob q he=>u.there b ob q fun z=>he (hx b z),u.tups,u.aU5,u.aVy⟩
end
def trk (h:Heap)(H:Hp):List Addr:=(List.range h.objs.size).filter fun a=>(H a).isSome
def bHv (h:Heap)(H:Hp):Heap:=PySem.W.hideAll h (trk h H)
theorem bD6 (h:Heap)(H:Hp):(bHv h H).objs.size=h.objs.size:=PySem.W.hideAll_size _ _
theorem bHu {h:Heap}{H:Hp}{b:Addr}{o:Obj}(e:h.get? b=some o)(n:H b=none):(bHv h H).get? b=some o:=
 PySem.W.hideAll_get _ e fun hm=>by
  have q:(H b).isSome=true:=(List.mem_filter.mp hm).2;rw[n] at q;simp at q
theorem bLm {h:Heap}{H:Hp}{b:Addr}{o:Obj}(e:(bHv h H).get? b=some o):h.get? b=some o/\H b=none:=by
 have e':h.get? b=some o:=PySem.W.of_hideAll (trk h H) e;refine⟨e',?_⟩;cases q:H b with
 | none=>rfl
 | some x=>
  have hm:b∈trk h H:=List.mem_filter.mpr ⟨List.mem_range.mpr (Heap.lt_size e'),by simp[q]⟩;have z:(bHv h H).get? b=none:=PySem.W.hideAll_none (trk h H) hm;rw[z] at e;cases e
def bM3 (g h:Heap)(L:Addr):List (Addr×Obj):=(List.range h.objs.size).filterMap fun a=>if a=L\/(g.get? a).isSome=true then none else (h.get? a).map fun o=>(a,o)
def rest (g h:Heap)(L d:Addr):List (Addr×Obj):=(bM3 g h L).filter fun p=>decide (p.1≠d)
structure Mod (K:PySem.W.Frag)(mg:Str->Option Value)(base:Heap):Prop where
 kin:K.In base
 glob:base.Ns mainGlobals mg
 blt: ∃mb,base.Ns builtinsNs mb/\∀x:Str,x≠"__name__"->mb x=bootBuiltins x
 nolimit:base.NoLimit
structure Cx where
 prog:Program
 w:World
 K:PySem.W.Frag
 mg:Str->Option Value
 base:Heap
 A:Around
 N:List Str
 s₀:Shared
 H₀:Hp
 env:Env
 outer:List Env
 stack:List Env
 ex:List Addr
 fn:Str->Bool
 calm:Bool
 pn:List (Addr×Obj)
 xe:Value->Shared->Prop
def frs (l:List Env):List Addr:=l.filterMap (·.frame)
abbrev Cx.fs (X:Cx):List Addr:=frs X.outer
def Vis (sc:Scope)(x:Str):Prop:=sc.names.lookup x=some .local\/sc.names.lookup x=some .cell\/sc.names.lookup x=some .free
def Loc (sc:Scope)(x:Str):Prop:=sc.names.lookup x=some .local\/sc.names.lookup x=some .cell
def Look (env:Env)(h:Heap)(m:Str->Option Value)(x:Str)(u:Value):Prop:=
 (env.kindOf x=some .local/\m x=some u)\/((env.kindOf x=some .cell\/env.kindOf x=some .free)/\∃c,env.cells.lookup x=some c/\h.IsCell c (some u))
structure Cx.Ok (X:Cx):Prop where
 mod:Mod X.K X.mg X.base
 kind:X.env.scope.kind= .function
 glob:X.env.globals=mainGlobals
 blt:X.env.builtins=builtinsNs
 above:X.s₀.heap.objs.size<=X.env.locals
 inj: ∀x y c,X.env.cells.lookup x=some c->X.env.cells.lookup y=some c->x=y
 has: ∀x,(X.env.kindOf x=some .cell\/X.env.kindOf x=some .free)->∃c,X.env.cells.lookup x=some c
 cab: ∀x c,X.fn x=true->X.env.cells.lookup x=some c->X.s₀.heap.objs.size<=c
 hd:X.calm=true->X.A.handled=none
 frames:X.A.frames=some X.stack
 stk:X.stack=X.outer\/(X.stack=X.env::X.outer/\X.env.frame=some X.env.locals)
 exf: ∀b∈X.ex,b≠X.env.locals/\∀x c,X.env.cells.lookup x=some c->c≠b
 bs: ∀b o,X.base.get? b=some o->X.s₀.heap.get? b=some o/\X.H₀ b=none
 bsz:X.base.objs.size<=X.s₀.heap.objs.size
 bI5: ∀b o,X.base.get? b=some o->b∉X.ex
 bJo: ∀b∈X.ex,b∉X.fs
 aXi:X.s₀.heap.FunFrames X.base X.outer
 frf: ∀b∈X.fs,X.H₀ b=none
structure Inv (X:Cx)(pins:List (Addr×Obj))(σ:List (Option V))(H:Hp)(s:Shared):Prop where
 ok:X.Ok
 os:s.os=X.s₀.os
 bare:AllBare s.gens
 base:Un X.fs X.ex X.H₀ H X.s₀.heap s.heap
 loc: ∃m,s.heap.Ns X.env.locals m/\∀(i:Nat) (x:Str) (v:V),X.N[i]? =some x->σ[i]? =some (some v)->Vis X.env.scope x->∃u,RelV v u/\Look X.env s.heap m x u
 cell: ∀x c,X.env.cells.lookup x=some c->∃v,s.heap.IsCell c v
 free:H X.env.locals=none
 aI4: ∀x c,X.env.cells.lookup x=some c->H c=none
 pin: ∀p∈X.pn++pins,s.heap.get? p.1=some p.2/\H p.1=none/\p.1≠X.env.locals/\p.1∉X.fs/\∀v,p.2.data≠ .cell v
 hok:HOk X.prog X.w H s.heap
 len:σ.length=X.N.length
section
variable {X:Cx}{pins:List (Addr×Obj)}{σ:List (Option V)}{H H':Hp}{s:Shared}{h':Heap}
theorem Cx.Ok.bU2 (ok:X.Ok){b:Addr}{o:Obj}(e:X.base.get? b=some o):b∉X.fs:=fun hb=>by
 have:=(ok.aXi.mem hb).1;rw[e] at this;cases this
theorem Inv.bs (I:Inv X pins σ H s): ∀b o,X.base.get? b=some o->s.heap.get? b=some o/\H b=none:=fun b o e=>
 ⟨I.base.keep b o (I.ok.bs b o e).1 (I.ok.bs b o e).2 (I.ok.bU2 e) (I.ok.bI5 b o e),I.base.free b o (I.ok.bs b o e).1 (I.ok.bs b o e).2 (I.ok.bI5 b o e)⟩
theorem Inv.bk (I:Inv X pins σ H s): ∀b o,X.base.get? b=some o->s.heap.get? b=some o:=fun b o e=>(I.bs b o e).1
theorem Inv.mod (I:Inv X pins σ H s):Mod X.K X.mg X.base:=I.ok.mod
theorem Inv.kIn (I:Inv X pins σ H s):X.K.In s.heap:=I.ok.mod.kin.keeps I.bk
theorem Inv.lt (I:Inv X pins σ H s):X.env.locals<s.heap.objs.size:=let ⟨_,hn,_⟩:=I.loc;hn.lt
theorem Inv.sz (I:Inv X pins σ H s):X.s₀.heap.objs.size<=s.heap.objs.size:=Nat.le_trans I.ok.above (Nat.le_of_lt I.lt)
theorem Inv.bU1 (I:Inv X pins σ H s){a:Addr}(h:s.heap.objs.size<=a):a∉X.fs:=fun hb=>by
 obtain⟨_,o,ho,_⟩:=I.ok.aXi.mem hb;exact absurd (Nat.lt_of_lt_of_le (Heap.lt_size ho) (Nat.le_trans I.sz h)) (Nat.lt_irrefl _)
theorem Inv.cne (I:Inv X pins σ H s): ∀x c,X.env.cells.lookup x=some c->c≠X.env.locals:=fun x c e z=>by
 obtain⟨v,o,ho,hd⟩:=I.cell x c e;obtain⟨m,⟨o',es,ep,ho',hd',_⟩,_⟩:=I.loc;rw[z,ho'] at ho;cases ho;rw[hd'] at hd;cases hd
theorem Inv.aXi (I:Inv X pins σ H s):s.heap.FunFrames X.base X.outer:=by
 have all: ∀(l:List Env),(∀b∈frs l,b∈X.fs)->X.s₀.heap.FunFrames X.base l->s.heap.FunFrames X.base l:=by
  intro l
  induction l with
  | nil=>intro _ _;trivial
  | cons env r ih=>
   intro hs hl;obtain⟨hk,⟨L,o,hf,hn,ho,hd⟩,hr⟩:=hl;have hL:L∈X.fs:=hs L (by unfold frs;rw[List.filterMap_cons,hf];exact List.mem_cons_self);obtain⟨sl,e⟩:=I.base.slot L o ho (I.ok.frf L hL) hL fun z=>I.ok.bJo L z hL
   exact⟨hk,⟨L,_,hf,hn,e,hd⟩,ih (fun b hb=>hs b (by unfold frs;rw[List.filterMap_cons,hf];exact List.mem_cons_of_mem _ hb)) hr⟩
 exact all X.outer (fun _ hb=>hb) I.ok.aXi
theorem Inv.stack (I:Inv X pins σ H s):s.heap.FunFrames X.base X.stack:=by
 rcases I.ok.stk with e |⟨e,hf⟩
 ·rw[e];exact I.aXi
 ·rw[e]
  obtain⟨m,hn,_⟩:=I.loc;refine .cons (by rw[I.ok.kind];decide) hf hn ?_ I.aXi;exact Heap.get?_none_of_le (Nat.le_trans I.ok.bsz I.ok.above)
theorem Inv.aYa (I:Inv X pins σ H s): ∀b∈frs X.stack,b∈X.env.locals::X.fs:=fun b hb=>by
 rcases I.ok.stk with e |⟨e,hf⟩
 ·rw[e] at hb;exact List.mem_cons_of_mem _ hb
 ·rw[e] at hb
  unfold frs at hb;rw[List.filterMap_cons,hf] at hb;exact hb
theorem Inv.aLo (I:Inv X pins σ H s): ∀b∈frs X.stack,H b=none:=fun b hb=>by
 rcases List.mem_cons.mp (I.aYa b hb) with e | hb
 ·rw[e];exact I.free
 ·obtain⟨_,o,ho,_⟩:=I.ok.aXi.mem hb
  exact I.base.free b o ho (I.ok.frf b hb) fun z=>I.ok.bJo b z hb
theorem Inv.step {g':Array GenState}{t':Nat}{d':Drawn}{ch:List Addr}(I:Inv X pins σ H s)
  (hch: ∀b∈ch,(b∈X.ex\/X.s₀.heap.objs.size<=b)/\b≠X.env.locals/\(∀x c,X.env.cells.lookup x=some c->c≠b)/\∀p∈X.pn++pins,p.1≠b)
  (keep: ∀b o,b≠X.env.locals->b∉X.fs->b∉ch->s.heap.get? b=some o->H b=none->h'.get? b=some o)
  (slot: ∀b o,b≠X.env.locals->b∈X.fs->b∉ch->s.heap.get? b=some o->H b=none->∃sl,h'.get? b=some {o with slots:=sl}) (free: ∀b o,b∉ch->s.heap.get? b=some o->H b=none->H' b=none)
  (there: ∀b o,b∉ch->s.heap.get? b=some o->∃o',h'.get? b=some o')
  (tups: ∀b xs,H b=some (.tup xs)->H' b=some (.tup xs)) (aU5: ∀b o u,H b=some (.frz o u)->H' b=some (.frz o u)) (aVy: ∀b ps,H b=some (.tbl ps)->∃more,H' b=some (.tbl (ps++more)))
  (ns: ∀m,s.heap.Ns X.env.locals m->h'.Ns X.env.locals m) (hok:HOk X.prog X.w H' h') (hg:AllBare g'):
  Inv X pins σ H' {s with heap:=h',gens:=g',drawn:=d',toks:=t'}:=by
 have neL: ∀b o,X.s₀.heap.get? b=some o->b≠X.env.locals:=fun b o e=>Nat.ne_of_lt (Nat.lt_of_lt_of_le (Heap.lt_size e) I.ok.above)
 have neC: ∀b o,X.s₀.heap.get? b=some o->b∉X.ex->b∉ch:=fun b o e hx hb=>by
  rcases (hch b hb).1 with z | z
  ·exact hx z
  ·exact absurd (Nat.lt_of_lt_of_le (Heap.lt_size e) z) (Nat.lt_irrefl _)
 have cellK: ∀x c,X.env.cells.lookup x=some c->∀v,s.heap.IsCell c v->h'.IsCell c v:=fun x c e v ⟨o,ho,hd⟩=>by
  have nch:c∉ch:=fun z=>(hch c z).2.2.1 x c e rfl
  by_cases hc:c∈X.fs
  ·obtain⟨sl,q⟩:=slot c o (I.cne x c e) hc nch ho (I.aI4 x c e)
   exact⟨_,q,hd⟩
  ·exact⟨o,keep c o (I.cne x c e) hc nch ho (I.aI4 x c e),hd⟩
 refine⟨I.ok,I.os,hg,⟨fun b o e n hb hx=> ?_,fun b o e n hb hx=> ?_,fun b o e n hx=> ?_,fun b o e hx=> ?_,fun b xs e=>tups b xs (I.base.tups b xs e),fun b o xs e=>aU5 b o xs (I.base.aU5 b o xs e),fun b ps e=> ?_⟩,?_,fun x c e=> ?_,?_,fun x c e=> ?_,fun p hp=> ?_,hok,I.len⟩
 ·exact keep b o (neL b o e) hb (neC b o e hx) (I.base.keep b o e n hb hx) (I.base.free b o e n hx)
 ·obtain⟨sl,e1⟩:=I.base.slot b o e n hb hx
  obtain⟨sl',e2⟩:=slot b _ (neL b o e) hb (neC b o e hx) e1 (I.base.free b o e n hx);exact⟨sl',e2⟩
 ·obtain⟨o',e1⟩:=I.base.there b o e hx
  exact free b o' (neC b o e hx) e1 (I.base.free b o e n hx)
 ·obtain⟨o',e1⟩:=I.base.there b o e hx
  exact there b o' (neC b o e hx) e1
 ·obtain⟨m1,e1⟩:=I.base.aVy b ps e
  obtain⟨m2,e2⟩:=aVy b _ e1;exact⟨m1++m2,by rw[e2,Array.append_assoc]⟩
 ·obtain⟨m,hn,hl⟩:=I.loc
  refine⟨m,ns m hn,fun i x v e1 e2 e3=> ?_⟩;obtain⟨u,r,l⟩:=hl i x v e1 e2 e3;refine⟨u,r,?_⟩;rcases l with l |⟨k,c,e,z⟩
  ·exact .inl l
  ·exact .inr ⟨k,c,e,cellK x c e _ z⟩
 ·obtain⟨v,z⟩:=I.cell x c e
  exact⟨v,cellK x c e v z⟩
 ·obtain⟨m,⟨o,_,_,ho,_⟩,_⟩:=I.loc
  exact free _ o (fun z=>(hch _ z).2.1 rfl) ho I.free
 ·obtain⟨v,o,ho,hd⟩:=I.cell x c e
  exact free c o (fun z=>(hch c z).2.2.1 x c e rfl) ho (I.aI4 x c e)
 ·obtain⟨e,n,ne,nf,d⟩:=I.pin p hp
  have nch:p.1∉ch:=fun z=>(hch p.1 z).2.2.2 p hp rfl
  exact⟨keep p.1 p.2 ne nf nch e n,free p.1 p.2 nch e n,ne,nf,d⟩
theorem Inv.un {t':Nat}(I:Inv X pins σ H s)(u:Un X.fs [] H H' s.heap h')(hok:HOk X.prog X.w H' h'):Inv X pins σ H' {s with heap:=h',toks:=t'}:=by
 obtain⟨m,⟨o,es,ep,ho,r⟩,_⟩:=id I.loc;obtain⟨sl,hL⟩:=u.any ho I.free (by simp);exact I.step (g':=s.gens) (d':=s.drawn) (ch:=[]) (fun _ z=>nomatch z) (fun b o _ hb _ e n=>u.keep b o e n hb (by simp)) (fun b o _ hb _ e n=>u.slot b o e n hb (by simp)) (fun b o _ e n=>u.free b o e n (by simp)) (fun b o _ e=>u.there b o e (by simp)) u.tups u.aU5 u.aVy (fun m' hm=>by
  obtain⟨o',es',ep',ho',r'⟩:=hm;rw[ho] at ho';cases ho';exact⟨_,es',ep',hL,r'⟩) hok I.bare
theorem Inv.call {g':Array GenState}{t':Nat}{d':Drawn}{ch:List Addr}(I:Inv X pins σ H s)(u:Un (frs X.stack) ch H H' s.heap h')(hok:HOk X.prog X.w H' h')(hg:AllBare g')
  (hch: ∀b∈ch,(b∈X.ex\/X.s₀.heap.objs.size<=b)/\b≠X.env.locals/\(∀x c,X.env.cells.lookup x=some c->c≠b)/\∀p∈X.pn++pins,p.1≠b):
  Inv X pins σ H' {s with heap:=h',gens:=g',drawn:=d',toks:=t'}:=by
 obtain⟨m,⟨o,es,ep,ho,r⟩,_⟩:=id I.loc;obtain⟨sl,hL⟩:=u.any ho I.free fun z=>(hch _ z).2.1 rfl
 exact I.step (ch:=ch) hch (fun b o hL hb hc e n=>u.keep b o e n (fun z=>(List.mem_cons.mp (I.aYa b z)).elim hL hb) hc) (fun b o _ _ hc e n=>u.any e n hc) (fun b o hc e n=>u.free b o e n hc) (fun b o hc e=>u.there b o e hc) u.tups u.aU5 u.aVy (fun m' hm=>by
  obtain⟨o',es',ep',ho',r'⟩:=hm;rw[ho] at ho';cases ho';exact⟨_,es',ep',hL,r'⟩) hok hg
theorem Inv.turned {t':Nat}{it:Addr}(I:Inv X pins σ H s)(k: ∀b o,b≠it->s.heap.get? b=some o->h'.get? b=some o)(hn:H it=none)(hL:it≠X.env.locals)
  (h1:it∈X.ex\/X.s₀.heap.objs.size<=it) (h2: ∀x c,X.env.cells.lookup x=some c->c≠it) (h3: ∀p∈X.pn++pins,p.1≠it):Inv X pins σ H {s with heap:=h',toks:=t'}:=by
 have nit: ∀b u,H b=some u->b≠it:=fun b u e z=>by rw[z,hn] at e;cases e
 refine I.step (g':=s.gens) (d':=s.drawn) (ch:=[it]) (fun b hb=> ?_) (fun b o _ _ hc e _=>k b o (fun z=>hc (by simp[z])) e) (fun b o _ _ hc e _=>⟨o.slots,k b o (fun z=>hc (by simp[z])) e⟩) (fun _ _ _ _ n=>n)
  (fun b o hc e=>⟨o,k b o (fun z=>hc (by simp[z])) e⟩) (fun _ _ e=>e) (fun _ _ _ e=>e) (fun b ps e=>⟨#[],by rw[e];simp⟩) (fun m hm=> ?_) (fun b u e=> ?_) I.bare
 ·have e:b=it:=by simpa using hb
  subst e;exact⟨h1,hL,h2,h3⟩
 ·obtain⟨o,es,ep,ho,r⟩:=hm
  exact⟨o,es,ep,k _ o (Ne.symm hL) ho,r⟩
 ·refine (I.hok b u e).stay (fun c v hc q=>k c v ?_ q) (fun _ q=>q) fun _ _ q=>q
  rcases hc with z | z
  ·rw[z];exact nit b u e
  ·exact nit c _ z
theorem Inv.tok (I:Inv X pins σ H s)(t:Nat):Inv X pins σ H {s with toks:=t}:=I.un (h':=s.heap) (t':=t) Un.refl I.hok
theorem Inv.kept {t':Nat}(I:Inv X pins σ H s)(k: ∀b u,s.heap.get? b=some u->h'.get? b=some u):Inv X pins σ H {s with heap:=h',toks:=t'}:=I.un (Un.kept k) (I.hok.kept k)
theorem Inv.laid {a:Addr}{o:HO}{t':Nat}(I:Inv X pins σ H s)(k: ∀b u,s.heap.get? b=some u->h'.get? b=some u)(hp:s.heap.objs.size<=a)(new:aDb X.prog X.w (upd H a o) h' a o):
  Inv X pins σ (upd H a o) {s with heap:=h',toks:=t'}:=I.un (Un.laid k hp (I.hok.fresh hp)) (I.hok.laid k hp new)
theorem Inv.write {x e:Addr}{o:HO}{t':Nat}(I:Inv X pins σ H s)(mu:Mut (H x))(he:e=x\/H e=some (.own x))(k: ∀b u,b≠e->s.heap.get? b=some u->h'.get? b=some u)(heo: ∃u,h'.get? e=some u)
  (new:aDb X.prog X.w (upd H x o) h' x o):Inv X pins σ (upd H x o) {s with heap:=h',toks:=t'}:=I.un (Un.write mu he k heo) (I.hok.write mu he k heo new)
theorem Inv.weak {σ':List (Option V)}(I:Inv X pins σ H s)(hl:σ'.length=σ.length)(w: ∀(i:Nat) v,σ'[i]? =some (some v)->σ[i]? =some (some v)):Inv X pins σ' H s:=
 ⟨I.ok,I.os,I.bare,I.base,let ⟨m,hn,hl'⟩:=I.loc;⟨m,hn,fun i x v e1 e2 e3=>hl' i x v e1 (w i v e2) e3⟩,I.cell,I.free,I.aI4,I.pin,I.hok,hl.trans I.len⟩
theorem Inv.aWq {bAc:List (Addr×Obj)}(I:Inv X pins σ H s)(h: ∀p∈bAc,s.heap.get? p.1=some p.2/\H p.1=none/\p.1≠X.env.locals/\p.1∉X.fs/\∀v,p.2.data≠ .cell v):Inv X bAc σ H s:=
 ⟨I.ok,I.os,I.bare,I.base,I.loc,I.cell,I.free,I.aI4,fun p hp=>(List.mem_append.mp hp).elim (fun z=>I.pin p (List.mem_append_left _ z)) (h p),I.hok,I.len⟩
theorem aSo {N:List Str}(hN:N.Nodup){i j:Nat}{x:Str}(a:N[i]? =some x)(b:N[j]? =some x):i=j:=by
 obtain⟨h1,e1⟩:=List.getElem?_eq_some_iff.mp a;obtain⟨h2,e2⟩:=List.getElem?_eq_some_iff.mp b;exact (List.getElem_inj hN).mp (e1.trans e2.symm)
theorem aNt {M:Model}{A:Around}{E:Value->Shared->Prop}{i:Nat}{x:Str}{v:V}{u:Value}{Q:Unit->Shared->Prop}(I:Inv X pins σ H s)(hN:X.N.Nodup)(hi:X.N[i]? =some x)(hx:Loc X.env.scope x)(r:RelV v u)
  (h: ∀s',Inv X pins (σ.set i (some v)) H s'->(∃a,Heap.SameBut a s.heap s'.heap/\(a=X.env.locals\/X.env.cells.lookup x=some a))->Q () s') (hf:X.fn x=true\/X.env.scope.names.lookup x=some .local):wpAny M A (storeName X.env x u) Q E s:=by
 obtain⟨m,hn,hl⟩:=id I.loc;have hcls:(X.env.scope.kind== .class ||(X.env.scope.kind== .module&&X.env.locals !=X.env.globals))=false:=by rw[I.ok.kind];rfl
 have hiσ:i<σ.length:=by rw[I.len];exact (List.getElem?_eq_some_iff.mp hi).1
 have cne:=I.cne;have tracked: ∀{a:Addr} {h':Heap},(∃o,s.heap.get? a=some o/\H a=none)->Heap.SameBut a s.heap h'->HOk X.prog X.w H h':=fun {a h'} ha hs b ob e=>by
  obtain⟨_,_,hfree⟩:=ha;refine (I.hok b ob e).stay (fun c w' hc q=>(hs.2 c ?_).trans q) (fun _ q=>q) fun _ _ q=>q
  rintro rfl
  rcases hc with rfl | hc
  ·rw[hfree] at e;cases e
  ·rw[hfree] at hc;cases hc
 rcases hx with hk | hk
 ·refine wpAny_storeName_local hk hn (fun h' hn' hs=> ?_) hcls
  obtain⟨oL,_,_,hoL,_⟩:=id hn;refine h _ ⟨I.ok,I.os,I.bare,⟨fun b o e n hb hx=> ?_,fun b o e n hb hx=> ?_,I.base.free,fun b o e hx=> ?_,I.base.tups,I.base.aU5,I.base.aVy⟩,⟨_,hn',fun j y v' e1 e2 e3=> ?_⟩,fun y c e=> ?_,I.free,I.aI4,fun p hp=> ?_,tracked ⟨oL,hoL,I.free⟩ hs,by simpa using I.len⟩ ⟨_,hs,.inl rfl⟩
  ·exact (hs.2 b (Nat.ne_of_lt (Nat.lt_of_lt_of_le (Heap.lt_size e) I.ok.above))).trans (I.base.keep b o e n hb hx)
  ·obtain⟨sl,e1⟩:=I.base.slot b o e n hb hx
   exact⟨sl,(hs.2 b (Nat.ne_of_lt (Nat.lt_of_lt_of_le (Heap.lt_size e) I.ok.above))).trans e1⟩
  ·obtain⟨o',e1⟩:=I.base.there b o e hx
   exact⟨o',(hs.2 b (Nat.ne_of_lt (Nat.lt_of_lt_of_le (Heap.lt_size e) I.ok.above))).trans e1⟩
  ·by_cases hj:j=i
   ·subst hj
    rw[hi] at e1;cases e1;rw[List.getElem?_set_self hiσ] at e2;cases e2;exact⟨u,r,.inl ⟨hk,by simp⟩⟩
   ·rw[List.getElem?_set_ne (Ne.symm hj)] at e2
    obtain⟨u',r',q⟩:=hl j y v' e1 e2 e3;refine⟨u',r',?_⟩;rcases q with⟨k,e⟩ |⟨k,c,e,z⟩
    ·refine .inl ⟨k,?_⟩
     have:y≠x:=fun e=>hj (aSo hN e1 (e▸hi))
     simp[this,e]
    ·exact .inr ⟨k,c,e,z.sameBut hs (cne y c e)⟩
  ·obtain⟨w',z⟩:=I.cell y c e
   exact⟨w',z.sameBut hs (cne y c e)⟩
  ·obtain⟨e,n,ne,nf,d⟩:=I.pin p hp
   exact⟨(hs.2 p.1 ne).trans e,n,ne,nf,d⟩
 ·have hfn:X.fn x=true:=by
   rcases hf with z | z
   ·exact z
   ·rw[z] at hk;cases hk
  obtain⟨c,hc⟩:=I.ok.has x (.inl hk);obtain⟨w',z⟩:=I.cell x c hc;refine wpAny_storeName_cell I.ok.kind hk hc z (fun h' hc' hs=> ?_);obtain⟨oc,hoc,bVb⟩:=id z;refine h {s with heap:=h'} ⟨I.ok,I.os,I.bare,⟨fun b o e n hb hx=> ?_,fun b o e n hb hx=> ?_,I.base.free,fun b o e hx=> ?_,I.base.tups,I.base.aU5,I.base.aVy⟩,⟨m,hn.sameBut hs (Ne.symm (cne x c hc)),fun j y v' e1 e2 e3=> ?_⟩,fun y c' e=> ?_,I.free,I.aI4,fun p hp=> ?_,tracked ⟨oc,hoc,I.aI4 x c hc⟩ hs,by simpa using I.len⟩ ⟨c,hs,.inr hc⟩
  ·exact (hs.2 b (Nat.ne_of_lt (Nat.lt_of_lt_of_le (Heap.lt_size e) (I.ok.cab x c hfn hc)))).trans (I.base.keep b o e n hb hx)
  ·obtain⟨sl,e1⟩:=I.base.slot b o e n hb hx
   exact⟨sl,(hs.2 b (Nat.ne_of_lt (Nat.lt_of_lt_of_le (Heap.lt_size e) (I.ok.cab x c hfn hc)))).trans e1⟩
  ·obtain⟨o',e1⟩:=I.base.there b o e hx
   exact⟨o',(hs.2 b (Nat.ne_of_lt (Nat.lt_of_lt_of_le (Heap.lt_size e) (I.ok.cab x c hfn hc)))).trans e1⟩
  ·by_cases hj:j=i
   ·subst hj
    rw[hi] at e1;cases e1;rw[List.getElem?_set_self hiσ] at e2;cases e2;exact⟨u,r,.inr ⟨.inl hk,c,hc,hc'⟩⟩
   ·rw[List.getElem?_set_ne (Ne.symm hj)] at e2
    obtain⟨u',r',q⟩:=hl j y v' e1 e2 e3;refine⟨u',r',?_⟩;rcases q with q |⟨k,c',e,z'⟩
    ·exact .inl q
    ·refine .inr ⟨k,c',e,z'.sameBut hs ?_⟩
     rintro rfl
     exact hj (aSo hN e1 (I.ok.inj _ _ _ e hc▸hi))
  ·by_cases hcc:c'=c
   ·subst hcc;exact⟨_,hc'⟩
   ·obtain⟨w2,z2⟩:=I.cell y c' e
    exact⟨w2,z2.sameBut hs hcc⟩
  ·obtain⟨e,n,ne,nf,d⟩:=I.pin p hp
   refine⟨(hs.2 p.1 ?_).trans e,n,ne,nf,d⟩;intro q;rw[q,hoc] at e;have q':oc=p.2:=Option.some.inj e;exact d w' (by rw[<-q'];exact bVb)
theorem aM9 {M:Model}{A:Around}{E:Value->Shared->Prop}{i:Nat}{x:Str}{v:V}{u:Value}{Q:Unit->Shared->Prop}(I:Inv X pins σ H s)(hN:X.N.Nodup)(hi:X.N[i]? =some x)(hx:Loc X.env.scope x)(r:RelV v u)
  (h: ∀s',Inv X pins (σ.set i (some v)) H s'->Q () s') (hf:X.fn x=true\/X.env.scope.names.lookup x=some .local:=by first | exact .inl rfl | exact .inr rfl | assumption):wpAny M A (storeName X.env x u) Q E s:=
 aNt I hN hi hx r (fun s' I' _=>h s' I') hf
theorem Inv.call' {s':Shared}{ch:List Addr}(I:Inv X pins σ H s)(ho:s'.os=s.os)(u:Un (frs X.stack) ch H H' s.heap s'.heap)(hok:HOk X.prog X.w H' s'.heap)(hg:AllBare s'.gens)
  (hch: ∀b∈ch,(b∈X.ex\/X.s₀.heap.objs.size<=b)/\b≠X.env.locals/\(∀x c,X.env.cells.lookup x=some c->c≠b)/\∀p∈X.pn++pins,p.1≠b):Inv X pins σ H' s':=by
 obtain⟨h',g',d',t',o'⟩:=s';have e:o'=s.os:=ho;subst e;exact I.call (g':=g') (t':=t') (d':=d') u hok hg hch
end
abbrev XK:=Value->Option Addr->Hp->Prop
abbrev St:=List (Option V)
abbrev VK:=V->Hp->Prop
abbrev TE:=St->Hp->VK->Prop
abbrev TT:=St->Hp->(Bool->Hp->Prop)->Prop
abbrev TA:=St->Hp->(List V->Hp->Prop)->Prop
structure Ends where
 nx:St->Hp->Prop
 rt:VK
 bk:St->Hp->Prop:=fun _ _=>False
 ct:St->Hp->Prop:=fun _ _=>False
abbrev TS:=Ends->St->Hp->Prop
def EP (X:Cx)(pins:List (Addr×Obj))(σ:St)(Q:VK)(u:Value)(s':Shared):Prop:= ∃v H',Inv X pins σ H' s'/\RelV v u/\Q v H'
def TP (X:Cx)(pins:List (Addr×Obj))(σ:St)(Q:Bool->Hp->Prop)(b:Bool)(s':Shared):Prop:= ∃H',Inv X pins σ H' s'/\Q b H'
def AP (X:Cx)(pins:List (Addr×Obj))(σ:St)(Q:List V->Hp->Prop)(us:List Value)(s':Shared):Prop:= ∃vs H',Inv X pins σ H' s'/\Vals vs us/\Q vs H'
def SP (X:Cx)(pins:List (Addr×Obj))(D:Ends)(f:Flow)(s':Shared):Prop:=
 match f with
 | .next=> ∃σ' H',Inv X pins σ' H' s'/\D.nx σ' H'
 | .brk=> ∃σ' H',Inv X pins σ' H' s'/\D.bk σ' H'
 | .cont=> ∃σ' H',Inv X pins σ' H' s'/\D.ct σ' H'
 | .ret u=> ∃v σ' H',Inv X pins σ' H' s'/\RelV v u/\D.rt v H'
def PE (X:Cx)(e:Expr)(t:TE):Prop:=
 ∀(pins:List (Addr×Obj)) (s:Shared) (σ:St) (H:Hp) (Q:VK),Inv X pins σ H s->t σ H Q->wpAny (model X.prog X.w) X.A (eval e X.env) (EP X pins σ Q) X.xe s
def PT (X:Cx)(e:Expr)(t:TT):Prop:=
 ∀(pins:List (Addr×Obj)) (s:Shared) (σ:St) (H:Hp) (Q:Bool->Hp->Prop),Inv X pins σ H s->t σ H Q->wpAny (model X.prog X.w) X.A (isTrue e X.env (eval e X.env)) (TP X pins σ Q) X.xe s
def PW (X:Cx)(e:Expr)(t:TT):Prop:=
 ∀(whole:Sem Value) (pins:List (Addr×Obj)) (s:Shared) (σ:St) (H:Hp) (Q:Bool->Hp->Prop),Inv X pins σ H s->t σ H Q->wpAny (model X.prog X.w) X.A (isTrue e X.env whole) (TP X pins σ Q) X.xe s
theorem PW.pt {X:Cx}{e:Expr}{t:TT}(h:PW X e t):PT X e t:=h _
def PA (X:Cx)(es:List Expr)(t:TA):Prop:=
 ∀(pos:Pos) (pins:List (Addr×Obj)) (s:Shared) (σ:St) (H:Hp) (Q:List V->Hp->Prop),Inv X pins σ H s->t σ H Q->wpAny (model X.prog X.w) X.A (spliced (backTo pos (starEach es X.env))) (AP X pins σ Q) X.xe s
def PS (X:Cx)(st:Stmt)(t:TS):Prop:=
 ∀(pins:List (Addr×Obj)) (s:Shared) (σ:St) (H:Hp) (D:Ends),Inv X pins σ H s->t D σ H->wpAny (model X.prog X.w) X.A (exec st X.env) (SP X pins D) X.xe s
def PSs (X:Cx)(st:List Stmt)(t:TS):Prop:=
 ∀(pins:List (Addr×Obj)) (s:Shared) (σ:St) (H:Hp) (D:Ends),Inv X pins σ H s->t D σ H->wpAny (model X.prog X.w) X.A (execs st X.env) (SP X pins D) X.xe s
theorem thn {α:Type}{t:Sem α}{Q Q':α->Shared->Prop}{M:Model}{A:Around}{E:Value->Shared->Prop}{s:Shared}(h:wpAny M A t Q E s)(hQ: ∀a s,Q a s->Q' a s):wpAny M A t Q' E s:=wpAny_mono h hQ fun _ _ x=>x
section
variable {X:Cx}
def bTh (i:Nat):TE:=fun σ H Q=> ∃v,σ[i]? =some (some v)/\Q v H
def tC (v:V):TE:=fun _ H Q=>Q v H
theorem aGd {i:Nat}{x:Str}{pos:Pos}(hN:X.N[i]? =some x)(hv:Vis X.env.scope x)(hd:(x==("__debug__":Str))=false:=by decide)(hcd:(x==("__classdict__":Str))=false:=by decide):PE X (.Name x pos) (bTh i):=by
 intro pins s σ H Q I h;obtain⟨v,e,h⟩:=h;obtain⟨m,hn,hl⟩:=I.loc;obtain⟨u,r,l⟩:=hl i x v hN e hv;have fin:EP X pins σ Q u s:=⟨v,H,I,r,h⟩;rcases l with⟨hk,hm⟩ |⟨hk,c,hc,hcell⟩
 ·exact wpAny_Name (wpAny_loadName_local I.ok.kind hk hn hm fin) hd
 ·rcases hk with hk | hk
  ·exact wpAny_Name (wpAny_loadName_cell I.ok.kind hk hc hcell fin) hd
  ·exact wpAny_Name (wpAny_loadName_free I.ok.kind hk hc hcell fin hcd) hd
theorem bOu {i j pos}:PE X (.Constant (.int i) j pos) (tC (.int i)):=fun _ _ _ H _ I h=>wpAny_Constant_int ⟨.int i,H,I.tok _,⟨_,rfl⟩,h⟩
theorem bSd {b j pos}:PE X (.Constant (.bool b) j pos) (tC (.bl b)):=fun _ _ _ H _ I h=>Constant_bool ⟨.bl b,H,I,rfl,h⟩
theorem bOt {j pos}:PE X (.Constant .none j pos) (tC .non):=fun _ _ _ H _ I h=>Constant_none ⟨.non,H,I,rfl,h⟩
theorem bIw {x j pos}:PE X (.Constant (.str x) j pos) (tC (.str x)):=fun _ _ _ H _ I h=>Calls.Constant_str ⟨.str x,H,I.tok _,⟨_,rfl⟩,h⟩
def Gl (X:Cx)(x:Str):Prop:=X.env.kindOf x=some .globalImplicit
theorem aLz {E:Value->Shared->Prop}{pins:List (Addr×Obj)}{s:Shared}{σ:St}{H:Hp}{x:Str}{u:Value}{pos:Pos}{Q:Value->Shared->Prop}(I:Inv X pins σ H s)(hg:Gl X x)(hm:X.mg x=some u)(h:Q u s)
  (hd:(x==("__debug__":Str))=false:=by decide):wpAny (model X.prog X.w) X.A (eval (.Name x pos) X.env) Q E s:=
 Calls.Name_function_global I.ok.kind hg (Calls.loadGlobal_global (by rw[I.ok.glob];exact I.mod.glob.keeps I.bk) hm h) hd
theorem aQ4 {E:Value->Shared->Prop}{pins:List (Addr×Obj)}{s:Shared}{σ:St}{H:Hp}{x:Str}{u:Value}{pos:Pos}{Q:Value->Shared->Prop}(I:Inv X pins σ H s)(hg:Gl X x)(hm:X.mg x=none)(hv:bootBuiltins x=some u)(h:Q u s)
  (hn:x≠"__name__":=by decide) (hd:(x==("__debug__":Str))=false:=by decide):wpAny (model X.prog X.w) X.A (eval (.Name x pos) X.env) Q E s:=by
 obtain⟨mb,h1,h2⟩:=I.mod.blt;exact Calls.Name_function_global I.ok.kind hg (Calls.loadGlobal_builtin (by rw[I.ok.glob];exact I.mod.glob.keeps I.bk) hm (by rw[I.ok.blt];exact h1.keeps I.bk) ((h2 x hn).trans hv) h) hd
theorem bKw {x:Str}{v:V}{u:Value}{pos:Pos}(hg:Gl X x)(hm:X.mg x=some u)(r:RelV v u)(hd:(x==("__debug__":Str))=false:=by decide):PE X (.Name x pos) (tC v):=
 fun _ _ _ H _ I h=>aLz I hg hm ⟨v,H,I,r,h⟩ hd
theorem aR6 {x:Str}{v:V}{u:Value}{pos:Pos}(hg:Gl X x)(hm:X.mg x=none)(hv:bootBuiltins x=some u)(r:RelV v u)(hn:x≠"__name__":=by decide)(hd:(x==("__debug__":Str))=false:=by decide):PE X (.Name x pos) (tC v):=
 fun _ _ _ H _ I h=>aQ4 I hg hm hv ⟨v,H,I,r,h⟩ hn hd
variable {a b:Expr}{ta tb:TE}{pos:Pos}
variable {tA tB':TT}{rest:List Expr}
def bUj (t u:TT):TT:=fun σ H Q=>t σ H fun c H1=>if c=true then u σ H1 Q else Q false H1
def tOr (t u:TT):TT:=fun σ H Q=>t σ H fun c H1=>if c=true then Q true H1 else u σ H1 Q
def bUc (t:TT):TT:=fun σ H Q=>t σ H fun c H1=>Q (!c) H1
theorem bKn (ha:PT X a tA):PW X (.BoolOp .And [a] pos) tA:=by
 intro wh pins s σ H Q I h;refine isTrue_and (thn (ha pins s σ H Q I h) fun c s1 e=> ?_);cases c with
 | true=>exact isTrue_and_nil e
 | false=>exact e
theorem bOc (ha:PT X a tA):PW X (.BoolOp .Or [a] pos) tA:=by
 intro wh pins s σ H Q I h;refine isTrue_or (thn (ha pins s σ H Q I h) fun c s1 e=> ?_);cases c with
 | false=>exact isTrue_or_nil e
 | true=>exact e
theorem bOd (ha:PT X a tA)(hb:PW X (.BoolOp .And (b::rest) pos) tB'):PW X (.BoolOp .And (a::b::rest) pos) (bUj tA tB'):=by
 intro wh pins s σ H Q I h;refine isTrue_and (thn (ha pins s σ H _ I h) fun c s1 ⟨H1,I1,q1⟩=> ?_);cases c with
 | true=>exact hb wh pins s1 σ H1 Q I1 q1
 | false=>exact⟨H1,I1,q1⟩
theorem bR6 (ha:PT X a tA)(hb:PW X (.BoolOp .Or (b::rest) pos) tB'):PW X (.BoolOp .Or (a::b::rest) pos) (tOr tA tB'):=by
 intro wh pins s σ H Q I h;refine isTrue_or (thn (ha pins s σ H _ I h) fun c s1 ⟨H1,I1,q1⟩=> ?_);cases c with
 | true=>exact⟨H1,I1,q1⟩
 | false=>exact hb wh pins s1 σ H1 Q I1 q1
theorem bOh (ha:PT X a tA):PT X (.UnaryOp .Not a pos) (bUc tA):=by
 intro pins s σ H Q I h;exact isTrue_not (ha pins s σ H (fun c H1=>Q (!c) H1) I h)
def bRv (ta tb:TE):TE:=fun σ H Q=>ta σ H fun x H1=> ∃c,x= .bl c/\if c=true then tb σ H1 Q else Q (.bl false) H1
def bUb (ta tb:TE):TE:=fun σ H Q=>ta σ H fun x H1=> ∃c,x= .bl c/\if c=true then Q (.bl true) H1 else tb σ H1 Q
def bRq (ta:TE):TE:=fun σ H Q=>ta σ H fun x H1=> ∃c,x= .bl c/\Q (.bl (!c)) H1
theorem bOr {op}{t:TE}(h:PE X a t):PE X (.BoolOp op [a] pos) t:=fun pins s σ H Q I hw=>BoolOp_one (h pins s σ H Q I hw)
theorem bOx (ha:PE X a ta)(hb:PE X (.BoolOp .And (b::rest) pos) tb):PE X (.BoolOp .And (a::b::rest) pos) (bRv ta tb):=by
 intro pins s σ H Q I h;refine BoolOp_and (thn (ha pins s σ H _ I h) fun v s1 ⟨x,H1,I1,r1,q1⟩=> ?_);obtain⟨c,rfl,q1⟩:=q1;cases r1;refine wpAny_truthy_bool ?_;cases c with
 | true=>exact hb pins s1 σ H1 Q I1 q1
 | false=>exact⟨.bl false,H1,I1,rfl,q1⟩
theorem bSa (ha:PE X a ta)(hb:PE X (.BoolOp .Or (b::rest) pos) tb):PE X (.BoolOp .Or (a::b::rest) pos) (bUb ta tb):=by
 intro pins s σ H Q I h;refine BoolOp_or (thn (ha pins s σ H _ I h) fun v s1 ⟨x,H1,I1,r1,q1⟩=> ?_);obtain⟨c,rfl,q1⟩:=q1;cases r1;refine wpAny_truthy_bool ?_;cases c with
 | false=>exact hb pins s1 σ H1 Q I1 q1
 | true=>exact⟨.bl true,H1,I1,rfl,q1⟩
theorem bOs (ha:PE X a ta):PE X (.UnaryOp .Not a pos) (bRq ta):=by
 intro pins s σ H Q I h;refine UnaryOp_ (thn (ha pins s σ H _ I h) fun v s1 ⟨x,H1,I1,r1,q1⟩=> ?_);obtain⟨c,rfl,q1⟩:=q1;cases r1;exact not_of (wpAny_truthy_bool ⟨.bl (!c),H1,I1,rfl,q1⟩)
end
def SqL (K:PySem.W.Frag)(H:Hp)(a:Addr)(xs:List V):Prop:=
 Rd H a (.lst xs)\/
  ∃(o:Obj) (its:Array Value) (n:Nat),K.lookup a=some o/\o.cls= .type "list"/\o.dict=none/\o.data= .seq its n/\its.size<=sizeLine/\Vals xs its.toList
def SqT (K:PySem.W.Frag)(H:Hp)(a:Addr)(xs:List V):Prop:=
 Rd H a (.tup xs)\/
  ∃(o:Obj) (its:Array Value) (n:Nat),K.lookup a=some o/\o.cls= .type "tuple"/\o.dict=none/\o.data= .seq its n/\its.size<=sizeLine/\Vals xs its.toList
def bVf:Value->Option V
 | .none=>some .non
 | .bool b=>some (.bl b)
 | .int i _=>some (.int i)
 | .str x _=>some (.str x)
 | .bytes b _=>some (.byt b)
 | .float b _=>some (.flt b)
 | .ref a=>some (.ref a)
 | .type n=>some (.ty n)
 | _=>none
theorem RelV.abs {x:V}{u:Value}(r:RelV x u):bVf u=some x:=by
 cases x with
 | non=>cases r;rfl
 | bl _=>cases r;rfl
 | int _=>obtain⟨t,rfl⟩:=r;rfl
 | str _=>obtain⟨t,rfl⟩:=r;rfl
 | byt _=>obtain⟨t,rfl⟩:=r;rfl
 | flt _=>obtain⟨t,rfl⟩:=r;rfl
 | ref _=>cases r;rfl
 | ty _=>cases r;rfl
theorem RelV.inj {x y:V}{u:Value}(r:RelV x u)(q:RelV y u):x=y:=Option.some.inj (r.abs.symm.trans q.abs)
theorem Vals.inj: ∀{xs ys:List V} {us:List Value},Vals xs us->Vals ys us->xs=ys
 | _,_,_,.nil,.nil=>rfl
 | _,_,_,.cons r t,.cons r' t'=>by rw[r.inj r',Vals.inj t t']
section
variable {X:Cx}{pins:List (Addr×Obj)}{σ:St}{H:Hp}{s:Shared}{a:Addr}{xs ys:List V}
theorem SqL.of {K:PySem.W.Frag}(h:H a=some (.lst xs)):SqL K H a xs:= .inl (.inl h)
theorem SqT.of {K:PySem.W.Frag}(h:H a=some (.tup xs)):SqT K H a xs:= .inl (.inl h)
theorem Inv.list (I:Inv X pins σ H s)(h:SqL X.K H a xs): ∃its:List Value,Vals xs its/\PlainL s.heap a its.toArray/\xs.length<=sizeLine:=by
 rcases h with h |⟨o,its,n,hk,hc,hd,hs,hz,r⟩
 ·obtain⟨z,its,n,r,e⟩:=h.ok I.hok
  exact⟨its,r,⟨_,n,e,rfl,rfl,rfl⟩,z⟩
 ·refine⟨its.toList,r,⟨o,n,I.kIn a o hk,hc,hd,by simpa using hs⟩,?_⟩
  have e:=r.length;simp only[Array.length_toList] at e;omega
theorem Inv.tuple (I:Inv X pins σ H s)(h:SqT X.K H a xs): ∃its:List Value,Vals xs its/\IsTup s.heap a its.toArray/\xs.length<=sizeLine:=by
 rcases h with h |⟨o,its,n,hk,hc,_,hs,hz,r⟩
 ·obtain⟨z,its,r,p⟩:=h.ok I.hok
  exact⟨its,r,p.tup,z⟩
 ·refine⟨its.toList,r,⟨o,I.kIn a o hk,hc,n,by simpa using hs⟩,?_⟩
  have e:=r.length;simp only[Array.length_toList] at e;omega
theorem Inv.bHm (I:Inv X pins σ H s)(h:SqL X.K H a xs)(h':SqL X.K H a ys):xs=ys:=by
 obtain⟨its,r,⟨o,n,e,_,_,d⟩,_⟩:=I.list h;obtain⟨its',r',⟨o',n',e',_,_,d'⟩,_⟩:=I.list h';rw[e] at e';cases e';rw[d] at d'
 injection d' with d1 _
 have:its=its':=by simpa using congrArg Array.toList d1
 subst this;exact r.inj r'
theorem Inv.bBd (I:Inv X pins σ H s)(h:SqT X.K H a xs)(h':SqT X.K H a ys):xs=ys:=by
 obtain⟨its,r,⟨o,e,_,n,d⟩,_⟩:=I.tuple h;obtain⟨its',r',⟨o',e',_,n',d'⟩,_⟩:=I.tuple h';rw[e] at e';cases e';rw[d] at d'
 injection d' with d1 _
 have:its=its':=by simpa using congrArg Array.toList d1
 subst this;exact r.inj r'
end
abbrev Cx.wish (X:Cx)(E:Value->Shared->Prop):Cx:={X with xe:=E}
abbrev Cx.nox (X:Cx):Cx:=X.wish fun _ _=>False
theorem Cx.Ok.wish {X:Cx}(ok:X.Ok)(E:Value->Shared->Prop):(X.wish E).Ok:=
 ⟨ok.mod,ok.kind,ok.glob,ok.blt,ok.above,ok.inj,ok.has,ok.cab,ok.hd,ok.frames,ok.stk,ok.exf,ok.bs,ok.bsz,ok.bI5,ok.bJo,ok.aXi,ok.frf⟩
theorem Cx.Ok.aMe {X:Cx}{E:Value->Shared->Prop}(ok:(X.wish E).Ok):X.Ok:=
 ⟨ok.mod,ok.kind,ok.glob,ok.blt,ok.above,ok.inj,ok.has,ok.cab,ok.hd,ok.frames,ok.stk,ok.exf,ok.bs,ok.bsz,ok.bI5,ok.bJo,ok.aXi,ok.frf⟩
section
variable {X:Cx}{pins:List (Addr×Obj)}{σ:St}{H:Hp}{s:Shared}{E:Value->Shared->Prop}
theorem Inv.wish (I:Inv X pins σ H s)(E:Value->Shared->Prop):Inv (X.wish E) pins σ H s:=⟨I.ok.wish E,I.os,I.bare,I.base,I.loc,I.cell,I.free,I.aI4,I.pin,I.hok,I.len⟩
theorem Inv.aMe (I:Inv (X.wish E) pins σ H s):Inv X pins σ H s:=⟨I.ok.aMe,I.os,I.bare,I.base,I.loc,I.cell,I.free,I.aI4,I.pin,I.hok,I.len⟩
theorem SP.aMe {D:Ends}{f:Flow}{s':Shared}(h:SP (X.wish E) pins D f s'):SP X pins D f s':=by
 cases f with
 | next=>obtain⟨σ',H',I,q⟩:=h;exact⟨σ',H',I.aMe,q⟩
 | brk=>obtain⟨σ',H',I,q⟩:=h;exact⟨σ',H',I.aMe,q⟩
 | cont=>obtain⟨σ',H',I,q⟩:=h;exact⟨σ',H',I.aMe,q⟩
 | ret u=>obtain⟨v,σ',H',I,r,q⟩:=h;exact⟨v,σ',H',I.aMe,r,q⟩
theorem PSs.nox {st:List Stmt}{t:TS}(h:PSs X.nox st t):PSs X st t:=fun pins s σ H D I hw=>
 wpAny_mono (h pins s σ H D (I.wish _) hw) (fun _ _ q=>q.aMe) fun _ _ z=>False.elim z
end
section
variable {X:Cx}{st:Stmt}{rest:List Stmt}{t u:TS}{e:Expr}{te:TE}{pos:Pos}
def bRr:TS:=fun D σ H=>D.nx σ H
def bT9 (t u:TS):TS:=fun D σ H=>t {D with nx:=u D} σ H
theorem bKq:PSs X [] bRr:=fun _ _ σ H _ I h=>wpAny_execs_nil ⟨σ,H,I,h⟩
theorem bGl (h1:PS X st t)(h2:PSs X rest u):PSs X (st::rest) (bT9 t u):=by
 intro pins s σ H D I h;refine wpAny_execs_cons (thn (h1 pins s σ H {D with nx:=u D} I h) fun f s1 q=> ?_);cases f with
 | next=>
  obtain⟨σ',H',I',q⟩:=q;exact h2 pins s1 σ' H' D I' q
 | ret v=>exact q
 | brk=>exact q
 | cont=>exact q
theorem Inv.quiet {pins:List (Addr×Obj)}{σ:St}{H:Hp}{s:Shared}(I:Inv X pins σ H s):interactive X.env=false:=by simp[interactive,I.ok.kind]
def bRs (te:TE):TS:=fun D σ H=>te σ H fun _ H1=>D.nx σ H1
theorem aR5 (he:PE X e te)(hs:swapsWith e none pos.line X.env=pure false:=by rfl):PS X (.Expr e pos) (bRs te):=by
 intro pins s σ H D I h;exact wpAny_Expr_any (thn (he pins s σ H _ I h) fun v s1 ⟨x,H1,I1,r1,q1⟩=>⟨σ,H1,I1,q1⟩) I.quiet hs
def bUa (te:TE):TS:=fun D σ H=>te σ H D.rt
theorem bOi (he:PE X e te):PS X (.Return (some e) pos) (bUa te):=by
 intro pins s σ H D I h;exact wpAny_Return_some (thn (he pins s σ H _ I h) fun v s1 ⟨x,H1,I1,r1,q1⟩=>⟨x,σ,H1,I1,r1,q1⟩)
def bUf (c:TT)(t u:TS):TS:=fun D σ H=>c σ H fun b H1=>if b=true then t D σ H1 else u D σ H1
theorem bR7 {c:Expr}{a b:List Stmt}{tc:TT}(hc:PT X c tc)(ha:PSs X a t)(hb:PSs X b u):PS X (.If c a b pos) (bUf tc t u):=by
 intro pins s σ H D I h;refine wpAny_If (thn (hc pins s σ H _ I h) fun d s1 ⟨H1,I1,q1⟩=> ?_);cases d with
 | true=>exact ha pins s1 σ H1 D I1 q1
 | false=>exact hb pins s1 σ H1 D I1 q1
end
abbrev TG:=V->St->Hp->(St->Hp->Prop)->Prop
abbrev TGs:=List V->St->Hp->(St->Hp->Prop)->Prop
def PG (X:Cx)(target:Expr)(t:TG):Prop:=
 ∀(pins:List (Addr×Obj)) (s:Shared) (σ:St) (H:Hp) (v:V) (u:Value) (Q:St->Hp->Prop),Inv X pins σ H s->RelV v u->t v σ H Q->
  wpAny (model X.prog X.w) X.A (assign target X.env u) (fun _ s'=> ∃σ' H',Inv X pins σ' H' s'/\Q σ' H') X.xe s
def PGs (X:Cx)(ts:List Expr)(t:TGs):Prop:=
 ∀(pins:List (Addr×Obj)) (s:Shared) (σ:St) (H:Hp) (vs:List V) (us:List Value) (Q:St->Hp->Prop),Inv X pins σ H s->Vals vs us->t vs σ H Q->
  wpAny (model X.prog X.w) X.A (assignInOrder ((assignEach ts X.env).map (·.2)) us) (fun _ s'=> ∃σ' H',Inv X pins σ' H' s'/\Q σ' H') X.xe s
abbrev bVi:=V->V->V->Hp->(Hp->Prop)->Prop
section
variable {X:Cx}{pos:Pos}
def bQc (i:Nat):TG:=fun v σ H Q=>Q (σ.set i (some v)) H
theorem aLs {i:Nat}{x:Str}(hN:X.N.Nodup)(hi:X.N[i]? =some x)(hx:Loc X.env.scope x)(hf:X.fn x=true\/X.env.scope.names.lookup x=some .local:=by first | exact .inl rfl | exact .inr rfl | assumption):PG X (.Name x pos) (bQc i):=by
 intro pins s σ H v u Q I r h;exact wpAny_assign_Name (aM9 I hN hi hx r (fun s' I'=>⟨_,H,I',h⟩) hf)
def bVe:TGs:=fun vs σ H Q=>vs=[]/\Q σ H
def bS6 (t:TG)(u:TGs):TGs:=fun vs σ H Q=> ∃v r,vs=v::r/\t v σ H fun σ' H'=>u r σ' H' Q
theorem bCk:PGs X [] bVe:=by
 intro pins s σ H vs us Q I r h;obtain⟨e,h⟩:=h;subst e;cases r;exact assignInOrder_nil ⟨σ,H,I,h⟩
theorem aNd {e:Expr}{es:List Expr}{t:TG}{u:TGs}(h1:PG X e t)(h2:PGs X es u)
  (hs:(assignEach (e::es) X.env).map (·.2)=assign e X.env::(assignEach es X.env).map (·.2):=by rfl):PGs X (e::es) (bS6 t u):=by
 intro pins s σ H vs us Q I r h;obtain⟨v,vr,e1,h⟩:=h;subst e1;cases r with
 | cons r rr=>
  rw[hs];refine assignInOrder_cons (thn (h1 pins s σ H _ _ _ I r h) fun _ s1 ⟨σ1,H1,I1,q1⟩=> ?_);exact h2 pins s1 σ1 H1 _ _ Q I1 rr q1
def bVd (K:PySem.W.Frag)(n:Nat)(t:TGs):TG:=fun v σ H Q=> ∃a xs,v= .ref a/\SqT K H a xs/\xs.length=n/\t xs σ H Q
theorem bIu {es:List Expr}{k:Nat}{t:TGs}{n:Nat}(hc:X.calm=true)(h:PGs X es t)
  (hn:(assignEach es X.env).length=n:=by rfl) (hst:(assignEach es X.env).findIdx? (·.1)=none:=by rfl):PG X (.Tuple es k pos) (bVd X.K n t):=by
 intro pins s σ H v u Q I r hw;obtain⟨a,xs,e1,hq,hl,hw⟩:=hw;subst e1;cases r;obtain⟨its,rv,ht,hz⟩:=I.tuple hq;refine assign_Tuple_tuple (I.ok.hd hc) ht (by simp[hn,<-hl,rv.length]) hst fun h' hx=> ?_
 have I1:Inv X pins σ H {s with heap:=h'}:=I.kept (t':=s.toks) fun b o e=>hx b o (Nat.ne_of_lt (Heap.lt_size e)) e
 exact h pins _ σ H xs _ Q I1 (by simpa using rv) hw
def aXh (to ti:TE)(t:bVi):TG:=fun v σ H Q=>to σ H fun o H1=>ti σ H1 fun i H2=>t o i v H2 fun H3=>Q σ H3
def bUi (te:TE)(g:TG):TS:=fun D σ H=>te σ H fun x H1=>g x σ H1 D.nx
theorem aQs {i:Nat}{x:Str}{e:Expr}{te:TE}{pos':Pos}(hN:X.N.Nodup)(hi:X.N[i]? =some x)(hx:Loc X.env.scope x)(he:PE X e te)(hs:swapsWith e (some (.Name x pos')) pos.line X.env=pure false:=by rfl)(hf:X.fn x=true\/X.env.scope.names.lookup x=some .local:=by first | exact .inl rfl | exact .inr rfl | assumption):
  PS X (.Assign [.Name x pos'] e pos) (bUi te (bQc i)):=by
 intro pins s σ H D I h;refine wpAny_Assign_Name (thn (he pins s σ H _ I h) fun v s1 ⟨y,H1,I1,r1,q1⟩=> ?_) hs;exact aM9 I1 hN hi hx r1 (fun s2 I2=>⟨_,H1,I2,q1⟩) hf
end
section
variable {X:Cx}{pos:Pos}
def bNm (c:TT)(tb:TS):TS:=fun D σ H=> ∃W:Nat->St->Hp->Prop,(∃m,W m σ H)/\∀m σ H,W m σ H->
 c σ H fun b H1=>if b=true then∃N:St->Hp->Prop,(∀σ' H',N σ' H'->∃m',m'<m/\W m' σ' H')/\tb {D with nx:=N,ct:=N,bk:=D.nx} σ H1 else D.nx σ H1
theorem bGm {c:Expr}{body:List Stmt}{tc:TT}{tb:TS}(hp:PassesOwn (model X.prog X.w) X.A X.env X.xe)(hc:PT X c tc)(hb:PSs X body tb):PS X (.While c body [] pos) (bNm tc tb):=by
 intro pins s σ H D I h;obtain⟨W,⟨m0,w0⟩,turn⟩:=h;refine wpAny_While (codeAny_whileLoop (fun n s'=> ∃σ' H',Inv X pins σ' H' s'/\W n σ' H') ?_ m0 ⟨σ,H,I,w0⟩)
 rintro n s1 ⟨σ1,H1,I1,w1⟩
 refine wpAny_passesOwn hp (thn (hc pins s1 σ1 H1 _ I1 (turn n σ1 H1 w1)) fun b s2 ⟨H2,I2,q2⟩=> ?_);cases b with
 | true=>
  obtain⟨N,hN,q2⟩:=q2;rw[if_pos rfl];refine wpAny_passesOwn hp (thn (hb pins s2 σ1 H2 _ I2 q2) fun f s3 q3=> ?_);cases f with
  | next=>
   obtain⟨σ3,H3,I3,n3⟩:=q3;obtain⟨m',hm,w3⟩:=hN σ3 H3 n3;exact⟨m',hm,σ3,H3,I3,w3⟩
  | cont=>
   obtain⟨σ3,H3,I3,n3⟩:=q3;obtain⟨m',hm,w3⟩:=hN σ3 H3 n3;exact⟨m',hm,σ3,H3,I3,w3⟩
  | brk=>exact q3
  | ret v=>exact q3
 | false=>
  rw[if_neg Bool.false_ne_true];exact wpAny_execs_nil ⟨σ1,H2,I2,q2⟩
end
structure It where
 go:Nat->Hp->Prop
 yld:Nat->Hp->V->Hp->Prop
 stop:Nat->Hp->Prop
def bIf (X:Cx)(pins:List (Addr×Obj))(H:Hp)(b:Addr):Prop:=
 H b=none/\b≠X.env.locals/\b∉X.fs/\(b∈X.ex\/X.s₀.heap.objs.size<=b)/\(∀x c,X.env.cells.lookup x=some c->c≠b)/\∀p∈X.pn++pins,p.1≠b
theorem Inv.bNc {X:Cx}{pins:List (Addr×Obj)}{σ:St}{H H':Hp}{s:Shared}{b:Addr}(I:Inv X pins σ H s)(hb:s.heap.objs.size<=b)(hn:H' b=none):bIf X pins H' b:=by
 refine⟨hn,Nat.ne_of_gt (Nat.lt_of_lt_of_le I.lt hb),I.bU1 hb,.inr (Nat.le_trans I.sz hb),fun x c e z=> ?_,fun p hp z=> ?_⟩
 ·obtain⟨v,q⟩:=I.cell x c e
  exact absurd (Nat.lt_of_lt_of_le q.lt (by rw[z];exact hb)) (Nat.lt_irrefl _)
 ·exact absurd (Nat.lt_of_lt_of_le (Heap.lt_size (I.pin p hp).1) (by rw[z];exact hb)) (Nat.lt_irrefl _)
structure Turn (P:Program)(w:World)(K:PySem.W.Frag)(tg:Expr)(J:It)(fp:List Addr)(it:Addr)(tn:Nat->Heap->Prop):Prop where
 mem:it∈fp
 obj: ∀i h,tn i h->∀b∈fp,∃o,h.get? b=some o/\∀v,o.data≠ .cell v
 keep: ∀i h h',tn i h->(∀b∈fp,∀o,h.get? b=some o->h'.get? b=some o)->tn i h'
 item: ∀(X:Cx),X.prog=P->X.w=w->X.K=K->X.calm=true->∀(i:Nat) (pins:List (Addr×Obj)) (s:Shared) (σ:St) (H:Hp) (E:Value->Shared->Prop),Inv X pins σ H s->(∀b∈fp,bIf X pins H b)->tn i s.heap->J.go i H->
  wpAny (model P w) X.A (pyNext (.ref it)) (fun r s1=> ∃u,r=some u/\
   wpAny (model P w) X.A (letOwnedTupleGo tg (.ref it) u) (fun _ s2=> ∃x H',Inv X pins σ H' s2/\RelV x u/\J.yld i H x H'/\tn (i+1) s2.heap/\∀b∈fp,H' b=none) E s1) E s
 done: ∀(X:Cx),X.prog=P->X.w=w->X.K=K->X.calm=true->∀(i:Nat) (pins:List (Addr×Obj)) (s:Shared) (σ:St) (H:Hp) (E:Value->Shared->Prop),Inv X pins σ H s->(∀b∈fp,bIf X pins H b)->tn i s.heap->J.stop i H->
  wpAny (model P w) X.A (pyNext (.ref it)) (fun r s1=>r=none/\Inv X pins σ H s1) E s
 self: ∀(A:Around) (i:Nat) (s:Shared) (Q:Value->Shared->Prop) (E:Value->Shared->Prop),tn i s.heap->Q (.ref it) s->wpAny (model P w) A (pyIter (.ref it)) Q E s
abbrev TI:=St->Hp->(It->Hp->Prop)->Prop
def PIE (X:Cx)(pins:List (Addr×Obj))(σ:St)(tg:Expr)(R:It->Hp->Prop)(itv:Value)(s2:Shared):Prop:=
 ∃(it:Addr) (fp:List Addr) (tn:Nat->Heap->Prop) (J:It) (H':Hp),itv= .ref it/\Inv X pins σ H' s2/\Turn X.prog X.w X.K tg J fp it tn/\tn 0 s2.heap/\(∀b∈fp,bIf X pins H' b)/\R J H'
def PI (X:Cx)(tg iter:Expr)(wi:TI):Prop:=
 ∀(pins:List (Addr×Obj)) (s:Shared) (σ:St) (H:Hp) (R:It->Hp->Prop),Inv X pins σ H s->wi σ H R->
  wpAny (model X.prog X.w) X.A (eval iter X.env) (fun v s1=>wpAny (model X.prog X.w) X.A (pyIter v) (PIE X pins σ tg R) X.xe s1) X.xe s
theorem bHw {M:Model}{A:Around}{E:Value->Shared->Prop}{s:Shared}{tg:Expr}{it:Addr}{u:Value}{o:Obj}{n:String}{vs:Array Value}{Q:Unit->Shared->Prop}(ho:s.heap.get? it=some o)(hc:o.cls= .type n)(hd:o.data= .fields vs)
  (hn:["enumerate","zip","dict_itemiterator","dict_reverseitemiterator","odict_iterator","itertools.zip_longest","itertools.pairwise"].contains n=false) (hQ:Q () s):wpAny M A (letOwnedTupleGo tg (.ref it) u) Q E s:=by
 unfold letOwnedTupleGo;cases tg<;>first
  | exact wpAny_pure hQ
  |(cases u<;>first
    | exact wpAny_pure hQ
    |(refine wpAny_bind (wpAny_load ho ?_)
      rw[hc,hd];show wpAny M A (if (["enumerate","zip","dict_itemiterator","dict_reverseitemiterator","odict_iterator","itertools.zip_longest","itertools.pairwise"].contains n&&vs[0]? ==some (rawInt _))=true then _ else _) Q E s;rw[if_neg (by intro h;rw[hn,Bool.false_and] at h;cases h)];exact wpAny_pure hQ))
def Itl (K:PySem.W.Frag)(a:Addr):It:=
 ⟨fun i H=> ∃xs x,SqL K H a xs/\xs[i]? =some x,fun i H x H'=>H'=H/\∀xs,SqL K H a xs->xs[i]? =some x,fun i H=> ∃xs,SqL K H a xs/\xs.length<=i⟩
def Itt (K:PySem.W.Frag)(a:Addr):It:=
 ⟨fun i H=> ∃xs x,SqT K H a xs/\xs[i]? =some x,fun i H x H'=>H'=H/\∀xs,SqT K H a xs->xs[i]? =some x,fun i H=> ∃xs,SqT K H a xs/\xs.length<=i⟩
def Itr (lo:Int)(n:Nat):It:=⟨fun i _=>i<n,fun i H x H'=>H'=H/\x= .int (lo+i),fun i _=>n<=i⟩
theorem bBc {P:Program}{w:World}{K:PySem.W.Frag}{tg:Expr}(a it:Addr):Turn P w K tg (Itl K a) [it] it (fun i h=>h.IsListIter it a i) where
 mem:=by simp
 obj:=fun i h st b hb=>by
  have e:b=it:=by simpa using hb
  subst e;obtain⟨o,e,c,d⟩:=st;exact⟨o,e,fun v z=>by rw[d] at z;cases z⟩
 keep:=fun i h h' st k=>st.at fun o e=>k it (by simp) o e
 item:=by
  intro X hP hw hK hc i pins s σ H E I hf st hg;subst hP hw hK;obtain⟨xs,x,hq,hx⟩:=hg;obtain⟨its,rv,p,hz⟩:=I.list hq;obtain⟨u,hu,ru⟩:=rv.get hx;obtain⟨f0,f1,f2,f3,f4,f5⟩:=hf it (by simp);refine wpAny_pyNext_list_item st p.isList (x:=u) (by simpa using hu) fun h' st' sb=> ?_
  have I1:Inv X pins σ H {s with heap:=h'}:=I.turned (t':=s.toks) (fun b o hb e=>(sb.2 b hb).trans e) f0 f1 f3 f4 f5;obtain⟨o,e,c,d⟩:=id st';exact⟨u,rfl,bHw (s:={s with heap:=h'}) e c d (by decide) ⟨x,H,I1,ru,⟨rfl,fun ys hy=>by rw[I.bHm hy hq];exact hx⟩,st',fun b hb=>(hf b hb).1⟩⟩
 done:=by
  intro X hP hw hK hc i pins s σ H E I hf st hg;subst hP hw hK;obtain⟨xs,hq,hx⟩:=hg;obtain⟨its,rv,p,hz⟩:=I.list hq;obtain⟨f0,f1,f2,f3,f4,f5⟩:=hf it (by simp);have hl:=rv.length;exact wpAny_pyNext_list_end (I.ok.hd hc) st p.isList (by simp;omega) fun h' eb=>⟨rfl,I.turned (t':=s.toks) (fun b o hb e=>eb b o hb e) f0 f1 f3 f4 f5⟩
 self:=fun _ _ _ _ _ st h=>wpAny_pyIter_listiter st h
theorem aZw {P:Program}{w:World}{K:PySem.W.Frag}{tg:Expr}(a it:Addr):Turn P w K tg (Itt K a) [it] it (fun i h=>h.IsTupleIter it a i) where
 mem:=by simp
 obj:=fun i h st b hb=>by
  have e:b=it:=by simpa using hb
  subst e;obtain⟨o,e,c,d⟩:=st;exact⟨o,e,fun v z=>by rw[d] at z;cases z⟩
 keep:=fun i h h' st k=>st.at fun o e=>k it (by simp) o e
 item:=by
  intro X hP hw hK hc i pins s σ H E I hf st hg;subst hP hw hK;obtain⟨xs,x,hq,hx⟩:=hg;obtain⟨its,rv,p,hz⟩:=I.tuple hq;obtain⟨u,hu,ru⟩:=rv.get hx;obtain⟨f0,f1,f2,f3,f4,f5⟩:=hf it (by simp);refine wpAny_pyNext_tuple_item st (show s.heap.IsTuple a its.toArray from p) (x:=u) (by simpa using hu) fun h' st' sb=> ?_
  have I1:Inv X pins σ H {s with heap:=h'}:=I.turned (t':=s.toks) (fun b o hb e=>(sb.2 b hb).trans e) f0 f1 f3 f4 f5;obtain⟨o,e,c,d⟩:=id st';exact⟨u,rfl,bHw (s:={s with heap:=h'}) e c d (by decide) ⟨x,H,I1,ru,⟨rfl,fun ys hy=>by rw[I.bBd hy hq];exact hx⟩,st',fun b hb=>(hf b hb).1⟩⟩
 done:=by
  intro X hP hw hK hc i pins s σ H E I hf st hg;subst hP hw hK;obtain⟨xs,hq,hx⟩:=hg;obtain⟨its,rv,p,hz⟩:=I.tuple hq;obtain⟨f0,f1,f2,f3,f4,f5⟩:=hf it (by simp);have hl:=rv.length;exact wpAny_pyNext_tuple_end (I.ok.hd hc) st (show s.heap.IsTuple a its.toArray from p) (by simp;omega) fun h' eb=>⟨rfl,I.turned (t':=s.toks) (fun b o hb e=>eb b o hb e) f0 f1 f3 f4 f5⟩
 self:=fun _ _ _ _ _ st h=>wpAny_pyIter_tupleiter st h
theorem aZx {P:Program}{w:World}{K:PySem.W.Frag}{tg:Expr}(it:Addr)(lo:Int)(n:Nat):Turn P w K tg (Itr lo n) [it] it (fun i h=>IsRangeIter h it (lo+(i:Nat)*1) ((n:Int)-(i:Nat)) 1) where
 mem:=by simp
 obj:=fun i h st b hb=>by
  have e:b=it:=by simpa using hb
  subst e;exact⟨_,st,fun v z=>by
   have z':Data.fields _=Data.cell v:=z;cases z'⟩
 keep:=fun i h h' st k=>k it (by simp) _ st
 item:=by
  intro X hP hw hK hc i pins s σ H E I hf st hg;subst hP hw hK;obtain⟨f0,f1,f2,f3,f4,f5⟩:=hf it (by simp);have W:=Walks.range (prog:=X.prog) (w:=X.w) (I.ok.hd hc) it lo 1 n;refine W.item i s _ _ hg st fun v h' tk hv st' kk=> ?_
  obtain⟨t,rfl⟩:=hv;have I1:Inv X pins σ H {s with heap:=h',toks:=tk}:=I.turned (fun b o hb e=>kk b o (by simpa using hb) e) f0 f1 f3 f4 f5;refine⟨_,rfl,bHw (s:={s with heap:=h',toks:=tk}) (n:="range_iterator") st' rfl rfl (by decide) ⟨.int (lo+i),H,I1,⟨t,?_⟩,⟨rfl,rfl⟩,st',fun b hb=>(hf b hb).1⟩⟩;rw[Int.mul_one]
 done:=by
  intro X hP hw hK hc i pins s σ H E I hf st hg;subst hP hw hK;obtain⟨f0,f1,f2,f3,f4,f5⟩:=hf it (by simp);exact wpAny_pyNext_range_end (I.ok.hd hc) st (by have:n<=i:=hg;omega) fun h' eb=>⟨rfl,I.turned (t':=s.toks) (fun b o hb e=>eb b o hb e) f0 f1 f3 f4 f5⟩
 self:=fun _ _ _ _ _ st h=>wpAny_pyIter_rangeiter st h
section
variable {X:Cx}{tg:Expr}
theorem bGg {pins:List (Addr×Obj)}{σ:St}{H:Hp}{s:Shared}{R:It->Hp->Prop}{E:Value->Shared->Prop}{lo hi:Int}{t u v:Tok}{tk:Nat}(I:Inv X pins σ H s)(h1: -(2^62)<=lo)(h2:lo<2^62)(h3: -(2^62)<=hi)(h4:hi<2^62)
  (q:R (Itr lo (hi-lo).toNat) H):wpAny (model X.prog X.w) X.A (pyIter (.ref s.heap.objs.size)) (PIE X pins σ tg R) E {s with heap:=s.heap.push {cls:= .type "range",data:= .fields #[.int lo t,.int hi u,.int 1 v]},toks:=tk}:=by
 refine wpAny_pyIter_range (IsRange.new ..) (small_one h1 h2 h3 h4) ?_;have I1:Inv X pins σ H {s with heap:=s.heap.push {cls:= .type "range",data:= .fields #[.int lo t,.int hi u,.int 1 v]},toks:=tk}:=I.kept fun b o e=>Heap.get?_push_of_some _ e
 refine⟨(s.heap.push {cls:= .type "range",data:= .fields #[.int lo t,.int hi u,.int 1 v]}).objs.size,[(s.heap.push {cls:= .type "range",data:= .fields #[.int lo t,.int hi u,.int 1 v]}).objs.size],_,_,H,rfl,
  I1.kept (t':=tk) fun b o e=>Heap.get?_push_of_some _ e,aZx _ lo (hi-lo).toNat,?_,fun b hb=> ?_,q⟩
 ·have e1:lo+((0:Nat):Int)*1=lo:=by simp
  have e2:(((hi-lo).toNat:Nat):Int)-((0:Nat):Int)=Builtin.Range.rangeSize lo hi 1:=by rw[rangeSize_one];split<;>omega
  show IsRangeIter _ _ (lo+((0:Nat):Int)*1) ((((hi-lo).toNat:Nat):Int)-((0:Nat):Int)) 1;rw[e1,e2];exact Heap.get?_push_size _ rfl
 ·have e:b=(s.heap.push {cls:= .type "range",data:= .fields #[.int lo t,.int hi u,.int 1 v]}).objs.size:=by simpa using hb
  subst e;exact I1.bNc (Nat.le_refl _) (I1.hok.fresh (Nat.le_refl _))
def bS1 (ta:TA):TI:=fun σ H R=>ta σ H fun vs H1=> ∃j:Int,vs=[.int j]/\ -(2^62)<=j/\j<2^62/\R (Itr 0 j.toNat) H1
theorem aUb {a:Expr}{ta:TA}{p pos:Pos}(hg:Gl X "range")(hm:X.mg "range"=none)(ha:PA X [a] ta)(hs:starEach [a] X.env=[(false,eval a X.env)]:=by rfl):PI X tg (.Call (.Name "range" p) [a] [] pos) (bS1 ta):=by
 intro pins s σ H R I h;refine Call_ (aQ4 I hg hm boot_range (PyProof.Rows.callWith_type1 (thn (ha pos pins s σ H _ I h) fun us s1 ⟨vs,H1,I1,r1,q1⟩=> ?_) hs rfl));obtain⟨j,e,q1,q2,q⟩:=q1;subst e;cases r1 with
 | cons r rr=>
  cases rr;obtain⟨t,rfl⟩:=r;exact call_range_1 (bGg I1 (by omega) (by omega) q1 q2 (by simpa using q))
def bUg (wi:TI)(g:TG)(tb:TS):TS:=fun D σ H=>wi σ H fun J H1=> ∃W:Nat->Nat->St->Hp->Prop,(∃m,W 0 m σ H1)/\∀i m σ H,W i m σ H->
 (J.stop i H/\D.nx σ H)\/(J.go i H/\∃N:St->Hp->Prop,(∀σ' H',N σ' H'->∃m',m'<m/\W (i+1) m' σ' H')/\∀x H',J.yld i H x H'->g x σ H' fun σ2 H2=>tb {D with nx:=N,ct:=N,bk:=D.nx} σ2 H2)
def aQt (fp:List Addr)(h:Heap):List (Addr×Obj):=fp.filterMap fun b=>(h.get? b).map fun o=>(b,o)
theorem aLx {fp:List Addr}{h:Heap}{b:Addr}{o:Obj}(hb:b∈fp)(e:h.get? b=some o):(b,o)∈aQt fp h:=List.mem_filterMap.mpr ⟨b,hb,by rw[e];rfl⟩
theorem bC5 {fp:List Addr}{h:Heap}{p:Addr×Obj}(hp:p∈aQt fp h):p.1∈fp/\h.get? p.1=some p.2:=by
 obtain⟨b,hb,e⟩:=List.mem_filterMap.mp hp;cases q:h.get? b with
 | none=>rw[q] at e;cases e
 | some o=>
  rw[q] at e;have e':(b,o)=p:=Option.some.inj e;subst e';exact⟨hb,q⟩
theorem Inv.pinned {pins:List (Addr×Obj)}{σ:St}{H:Hp}{s:Shared}{fp:List Addr}(I:Inv X pins σ H s)(hf: ∀b∈fp,bIf X pins H b)(ho: ∀b∈fp,∃o,s.heap.get? b=some o/\∀v,o.data≠ .cell v):Inv X (pins++aQt fp s.heap) σ H s:=
 I.aWq fun p hp=>(List.mem_append.mp hp).elim (fun z=>I.pin p (List.mem_append_right _ z)) fun z=>by
  obtain⟨hb,e⟩:=bC5 z;obtain⟨f0,f1,f2,_⟩:=hf p.1 hb;obtain⟨o,e',d⟩:=ho p.1 hb;rw[e] at e';cases e';exact⟨e,f0,f1,f2,d⟩
theorem Inv.aRo {pins pl:List (Addr×Obj)}{σ:St}{H:Hp}{s:Shared}(I:Inv X (pins++pl) σ H s):Inv X pins σ H s:=I.aWq fun p hp=>I.pin p (List.mem_append_right _ (List.mem_append_left _ hp))
theorem bOj {iter:Expr}{body:List Stmt}{wi:TI}{g:TG}{tb:TS}{pos:Pos}(hp:PassesOwn (model X.prog X.w) X.A X.env X.xe)(hc:X.calm=true)(hi:PI X tg iter wi)(hg:PG X tg g)(hb:PSs X body tb)
  (hs: ∀x,foldedSetIterable iter X.env x=pure x:=by intro _;rfl):PS X (.For tg iter body [] pos) (bUg wi g tb):=by
 intro pins s σ H D I h;refine wpAny_For (thn (hi pins s σ H _ I h) fun v s1 h1=>thn h1 fun itv s2 h2=> ?_) hs;obtain⟨it,fp,tn,J,H2,e,I2,T,st2,f2,W,⟨m0,w0⟩,turn⟩:=h2;subst e;have stat: ∀{H':Hp},(∀b∈fp,H' b=none)->∀b∈fp,bIf X pins H' b:=fun hn b hb=>⟨hn b hb,(f2 b hb).2⟩
 refine codeAny_forLoop_any (fun n s'=> ∃i σ' H',Inv X pins σ' H' s'/\tn i s'.heap/\(∀b∈fp,H' b=none)/\W i n σ' H') ?_ m0 ⟨0,σ,H2,I2,st2,fun b hb=>(f2 b hb).1,w0⟩
 rintro n s3 ⟨i,σ3,H3,I3,st3,fr3,w3⟩
 rcases turn i n σ3 H3 w3 with⟨stop,qn⟩ |⟨go,N,hN,step⟩
 ·refine wpAny_passesOwn hp (thn (T.done X rfl rfl rfl hc i pins s3 σ3 H3 X.xe I3 (stat fr3) st3 stop) fun r s4 ⟨hr,I4⟩=> ?_)
  subst hr;exact wpAny_execs_nil ⟨σ3,H3,I4,qn⟩
 ·refine wpAny_passesOwn hp (thn (T.item X rfl rfl rfl hc i pins s3 σ3 H3 X.xe I3 (stat fr3) st3 go) fun r s4 ⟨u,hr,h4⟩=> ?_)
  subst hr;refine wpAny_passesOwn hp (thn h4 fun _ s5 ⟨x,H5,I5,r5,y5,st5,fr5⟩=> ?_);have I5':=I5.pinned (stat fr5) (T.obj _ _ st5);refine wpAny_passesOwn hp (thn (hg _ s5 σ3 H5 x u _ I5' r5 (step x H5 y5)) fun _ s6 ⟨σ6,H6,I6,q6⟩=> ?_);refine wpAny_passesOwn hp (thn (hb _ s6 σ6 H6 _ I6 q6) fun f s7 q7=> ?_);have again: ∀{σ7:St} {H7:Hp},Inv X (pins++aQt fp s5.heap) σ7 H7 s7->N σ7 H7->∃m,m<n/\∃i σ' H',Inv X pins σ' H' s7/\tn i s7.heap/\(∀b∈fp,H' b=none)/\W i m σ' H':=fun {σ7 H7} I7 n7=>by
   obtain⟨m',hm,w7⟩:=hN σ7 H7 n7;refine⟨m',hm,i+1,σ7,H7,I7.aRo,T.keep _ _ _ st5 fun b hb o e=>(I7.pin (b,o) (List.mem_append_right _ (List.mem_append_right _ (aLx hb e)))).1,fun b hb=> ?_,w7⟩;obtain⟨o,e,d⟩:=T.obj _ _ st5 b hb;exact (I7.pin (b,o) (List.mem_append_right _ (List.mem_append_right _ (aLx hb e)))).2.1
  cases f with
  | next=>obtain⟨σ7,H7,I7,n7⟩:=q7;exact again I7 n7
  | cont=>obtain⟨σ7,H7,I7,n7⟩:=q7;exact again I7 n7
  | brk=>obtain⟨σ7,H7,I7,q7⟩:=q7;exact⟨σ7,H7,I7.aRo,q7⟩
  | ret v=>obtain⟨x7,σ7,H7,I7,r7,q7⟩:=q7;exact⟨x7,σ7,H7,I7.aRo,r7,q7⟩
end
abbrev R2:=V->V->Hp->VK->Prop
def OpR (X:Cx)(f:Value->Value->Sem Value)(r:R2):Prop:=
 ∀(pins:List (Addr×Obj)) (s:Shared) (σ:St) (H:Hp) (x y:V) (v u:Value) (Q:VK),Inv X pins σ H s->RelV x v->RelV y u->r x y H Q->
  wpAny (model X.prog X.w) X.A (f v u) (EP X pins σ Q) X.xe s
def UnR (X:Cx)(f:Value->Sem Value)(r:V->Hp->VK->Prop):Prop:=
 ∀(pins:List (Addr×Obj)) (s:Shared) (σ:St) (H:Hp) (x:V) (v:Value) (Q:VK),Inv X pins σ H s->RelV x v->r x H Q->
  wpAny (model X.prog X.w) X.A (f v) (EP X pins σ Q) X.xe s
def aJe (X:Cx)(f:Value)(r:List V->Hp->VK->Prop):Prop:=
 ∀(pins:List (Addr×Obj)) (s:Shared) (σ:St) (H:Hp) (xs:List V) (us:List Value) (Q:VK),Inv X pins σ H s->Vals xs us->r xs H Q->
  wpAny (model X.prog X.w) X.A (call f us) (EP X pins σ Q) X.xe s
def bVh (X:Cx)(r:V->Hp->(Bool->Hp->Prop)->Prop):Prop:=
 ∀(pins:List (Addr×Obj)) (s:Shared) (σ:St) (H:Hp) (x:V) (v:Value) (Q:Bool->Hp->Prop),Inv X pins σ H s->RelV x v->r x H Q->
  wpAny (model X.prog X.w) X.A (truthy v) (TP X pins σ Q) X.xe s
def tOp (r:R2)(ta tb:TE):TE:=fun σ H Q=>ta σ H fun x H1=>tb σ H1 fun y H2=>r x y H2 Q
def tUn (r:V->Hp->VK->Prop)(ta:TE):TE:=fun σ H Q=>ta σ H fun x H1=>r x H1 Q
def rI (C:Int->Int->Prop)(g:Int->Int->V):R2:=fun x y H Q=> ∃i j,x= .int i/\y= .int j/\C i j/\Q (g i j) H
def rI0 (g:Int->Int->V):R2:=fun x y H Q=> ∃i j,x= .int i/\y= .int j/\Q (g i j) H
def rU (g:Int->V):V->Hp->VK->Prop:=fun x H Q=> ∃i,x= .int i/\Q (g i) H
section
variable {X:Cx}{a b c:Expr}{ta tb tc:TE}{pos:Pos}
theorem bTc (ha:PE X a ta)(hb:PE X b tb){pins:List (Addr×Obj)}{s:Shared}{σ:St}{H:Hp}{R:V->V->Hp->Prop}(I:Inv X pins σ H s)
  (h:ta σ H fun x H1=>tb σ H1 fun y H2=>R x y H2) {Q:Value->Shared->Prop} {f:Value->Value->Sem Value}
  (hf: ∀v u s2 x y H2,Inv X pins σ H2 s2->RelV x v->RelV y u->R x y H2->wpAny (model X.prog X.w) X.A (f v u) Q X.xe s2):
  wpAny (model X.prog X.w) X.A (eval a X.env) (fun v s₁=>wpAny (model X.prog X.w) X.A (eval b X.env) (fun u s₂=>wpAny (model X.prog X.w) X.A (f v u) Q X.xe s₂) X.xe s₁) X.xe s:=by
 refine thn (ha pins s σ H _ I h) fun v s1 ⟨x,H1,I1,r1,q1⟩=> ?_
 refine thn (hb pins s1 σ H1 _ I1 q1) fun u s2 ⟨y,H2,I2,r2,q2⟩=> ?_
 exact hf v u s2 x y H2 I2 r1 r2 q2
theorem bSb {op:Operator}{r:R2}(ho:OpR X (binaryOp op) r)(ha:PE X a ta)(hb:PE X b tb):PE X (.BinOp a op b pos) (tOp r ta tb):=by
 intro pins s σ H Q I h;exact wpAny_BinOp (bTc ha hb I h fun v u s2 x y H2 I2 rx ry q=>ho pins s2 σ H2 x y v u Q I2 rx ry q)
theorem bR9 {op:UnaryOp}{r:V->Hp->VK->Prop}(ho:UnR X (unaryOp op) r)(ha:PE X a ta):PE X (.UnaryOp op a pos) (tUn r ta):=by
 intro pins s σ H Q I h;exact UnaryOp_ (thn (ha pins s σ H _ I h) fun v s1 ⟨x,H1,I1,r1,q1⟩=>ho pins s1 σ H1 x v Q I1 r1 q1)
theorem opI {f:Value->Value->Sem Value}{C:Int->Int->Prop}{g:Int->Int->Int}
  (rule: ∀(i j:Int) (t u:Tok) (s:Shared) (Q:Value->Shared->Prop) (E:Value->Shared->Prop),C i j->Q (.int (g i j) s.toks) {s with toks:=s.toks+1}->wpAny (model X.prog X.w) X.A (f (.int i t) (.int j u)) Q E s):
  OpR X f (rI C fun i j=> .int (g i j)):=by
 intro pins s σ H x y v u Q I rx ry h;obtain⟨i,j,rfl,rfl,hc,q⟩:=h;obtain⟨t,rfl⟩:=rx;obtain⟨t',rfl⟩:=ry;exact rule i j t t' s _ _ hc ⟨.int (g i j),H,I.tok _,⟨_,rfl⟩,q⟩
theorem bTs {f:Value->Value->Sem Value}{g:Int->Int->Int}
  (rule: ∀(i j:Int) (t u:Tok) (s:Shared) (Q:Value->Shared->Prop) (E:Value->Shared->Prop),Q (.int (g i j) s.toks) {s with toks:=s.toks+1}->wpAny (model X.prog X.w) X.A (f (.int i t) (.int j u)) Q E s):
  OpR X f (rI0 fun i j=> .int (g i j)):=by
 intro pins s σ H x y v u Q I rx ry h;obtain⟨i,j,rfl,rfl,q⟩:=h;obtain⟨t,rfl⟩:=rx;obtain⟨t',rfl⟩:=ry;exact rule i j t t' s _ _ ⟨.int (g i j),H,I.tok _,⟨_,rfl⟩,q⟩
theorem bSp {f:Value->Value->Sem Value}{g:Int->Int->Bool}
  (rule: ∀(i j:Int) (t u:Tok) (s:Shared) (Q:Value->Shared->Prop) (E:Value->Shared->Prop),Q (.bool (g i j)) s->wpAny (model X.prog X.w) X.A (f (.int i t) (.int j u)) Q E s):
  OpR X f (rI0 fun i j=> .bl (g i j)):=by
 intro pins s σ H x y v u Q I rx ry h;obtain⟨i,j,rfl,rfl,q⟩:=h;obtain⟨t,rfl⟩:=rx;obtain⟨t',rfl⟩:=ry;exact rule i j t t' s _ _ ⟨.bl (g i j),H,I,rfl,q⟩
def bVk (i j:Int):Prop:=0<j/\j<1073741824
def bVj (i j:Int):Prop:=0<=j/\j<=1000000/\i.natAbs<2^64
theorem bPc:OpR X (binaryOp .Add) (rI0 fun i j=> .int (i+j)):=bTs fun _ _ _ _ _ _ _ q=>add_int q
theorem bO7:OpR X (binaryOp .Sub) (rI0 fun i j=> .int (i-j)):=bTs fun _ _ _ _ _ _ _ q=>sub_int q
theorem bLh:OpR X (binaryOp .FloorDiv) (rI bVk fun i j=> .int (i/j)):=opI fun i j _ _ _ _ _ hc q=>by
 have h1:(0:Int)<j:=hc.1;have h2:j<1073741824:=hc.2;exact floordiv_int (by omega) (by rw[Int.fdiv_eq_ediv_of_nonneg i (by omega)];exact q) (.inl (PyProof.noPylong_small (by omega)))
theorem bO9:OpR X (binaryOp .Mod) (rI (fun _ j=>0<j) fun i j=> .int (i%j)):=opI fun i j _ _ _ _ _ hc q=>by
 have h1:(0:Int)<j:=hc;exact mod_int' (by omega) (by rw[Int.fmod_eq_emod_of_nonneg i (by omega)];exact q)
theorem bO8:OpR X (binaryOp .Pow) (rI bVj fun i j=> .int (i^j.toNat)):=opI fun _ _ _ _ _ _ _ hc q=>pow_int_small hc.1 hc.2.1 hc.2.2 q
theorem unI {f:Value->Sem Value}{g:Int->Int}
  (rule: ∀(i:Int) (t:Tok) (s:Shared) (Q:Value->Shared->Prop) (E:Value->Shared->Prop),Q (.int (g i) s.toks) {s with toks:=s.toks+1}->wpAny (model X.prog X.w) X.A (f (.int i t)) Q E s):
  UnR X f (rU fun i=> .int (g i)):=by
 intro pins s σ H x v Q I rx h;obtain⟨i,rfl,q⟩:=h;obtain⟨t,rfl⟩:=rx;exact rule i t s _ _ ⟨.int (g i),H,I.tok _,⟨_,rfl⟩,q⟩
theorem bNg:UnR X (unaryOp .USub) (rU fun i=> .int (-i)):=unI fun _ _ _ _ _ q=>neg_int q
end
def bRy:V->V->Bool
 | .non,.non=>true | .non,.int _=>true | .int _,.non=>true | .non,.bl _=>true | .bl _,.non=>true | .non,.str _=>true | .str _,.non=>true
 | .int _,.int _=>true | .bl _,.bl _=>true | .str _,.str _=>true | .byt _,.byt _=>true
 | .int _,.str _=>true | .str _,.int _=>true | .bl _,.str _=>true | .str _,.bl _=>true
 | _,_=>false
def rEq:R2:=fun x y H Q=>bRy x y=true/\Q (.bl (decide (x=y))) H
def rNe:R2:=fun x y H Q=>bRy x y=true/\Q (.bl (!decide (x=y))) H
theorem bEp {i j:Int}:decide (V.int i=V.int j)=(i==j):=by
 rw[Bool.eq_iff_iff];simp
theorem bJt {i j:Bool}:decide (V.bl i=V.bl j)=(i==j):=by
 rw[Bool.eq_iff_iff];simp
theorem bEo {i j:Str}:decide (V.str i=V.str j)=(i==j):=by
 rw[Bool.eq_iff_iff];simp
theorem bEq {i j:Array UInt8}:decide (V.byt i=V.byt j)=(i.toList==j.toList):=by
 rw[Bool.eq_iff_iff];cases i;cases j;simp
section
variable {X:Cx}{a b c:Expr}{ta tb tc:TE}{pos:Pos}
theorem aBy {pins:List (Addr×Obj)}{σ:St}{H:Hp}{s:Shared}{Q:VK}{k k':Bool}(I:Inv X pins σ H s)(q:Q (.bl k) H)(e:k=k'):EP X pins σ Q (.bool k') s:=by
 subst e;exact⟨.bl k,H,I,rfl,q⟩
theorem bPb:OpR X (compareOp .Eq) rEq:=by
 intro pins s σ H x y v u Q I rx ry h;obtain⟨hs,q⟩:=h;cases x with
 | non=>
  cases rx;cases y with
  | non=>cases ry;exact PySem.EqNone.eq_none_none (aBy I q (by simp))
  | bl j=>cases ry;exact PySem.EqNone.eq_none_bool (aBy I q (by simp))
  | int j=>obtain⟨t',rfl⟩:=ry;exact PySem.EqNone.eq_none_int (aBy I q (by simp))
  | str j=>obtain⟨t',rfl⟩:=ry;exact PySem.EqNone.eq_none_str (aBy I q (by simp))
  | _=>exact absurd (show false=true from hs) Bool.false_ne_true
 | bl i=>
  cases rx;cases y with
  | non=>cases ry;exact PySem.EqNone.eq_bool_none (aBy I q (by simp))
  | bl j=>cases ry;exact eq_bool (aBy I q bJt)
  | str j=>obtain⟨t',rfl⟩:=ry;exact PySem.EqMixed.eq_bool_str (aBy I q (by simp))
  | _=>exact absurd (show false=true from hs) Bool.false_ne_true
 | int i=>
  obtain⟨t,rfl⟩:=rx;cases y with
  | non=>cases ry;exact PySem.EqNone.eq_int_none (aBy I q (by simp))
  | int j=>obtain⟨t',rfl⟩:=ry;exact eq_int (aBy I q bEp)
  | str j=>obtain⟨t',rfl⟩:=ry;exact PySem.EqMixed.eq_int_str (aBy I q (by simp))
  | _=>exact absurd (show false=true from hs) Bool.false_ne_true
 | str i=>
  obtain⟨t,rfl⟩:=rx;cases y with
  | non=>cases ry;exact PySem.EqNone.eq_str_none (aBy I q (by simp))
  | bl j=>cases ry;exact PySem.EqMixed.eq_str_bool (aBy I q (by simp))
  | int j=>obtain⟨t',rfl⟩:=ry;exact PySem.EqMixed.eq_str_int (aBy I q (by simp))
  | str j=>obtain⟨t',rfl⟩:=ry;exact eq_str (aBy I q bEo)
  | _=>exact absurd (show false=true from hs) Bool.false_ne_true
 | byt i=>
  obtain⟨t,rfl⟩:=rx;cases y with
  | byt j=>obtain⟨t',rfl⟩:=ry;exact PySem.W.eq_bytes (aBy I q bEq)
  | _=>exact absurd (show false=true from hs) Bool.false_ne_true
 | _=>cases y<;>exact absurd (show false=true from hs) Bool.false_ne_true
theorem bSl:OpR X (compareOp .NotEq) rNe:=by
 intro pins s σ H x y v u Q I rx ry h;obtain⟨hs,q⟩:=h;cases x with
 | non=>
  cases rx;cases y with
  | non=>cases ry;exact PySem.EqNone.ne_none_none (aBy I q (by simp))
  | bl j=>cases ry;exact PySem.EqNone.ne_none_bool (aBy I q (by simp))
  | int j=>obtain⟨t',rfl⟩:=ry;exact PySem.EqNone.ne_none_int (aBy I q (by simp))
  | str j=>obtain⟨t',rfl⟩:=ry;exact PySem.EqNone.ne_none_str (aBy I q (by simp))
  | _=>exact absurd (show false=true from hs) Bool.false_ne_true
 | bl i=>
  cases rx;cases y with
  | non=>cases ry;exact PySem.EqNone.ne_bool_none (aBy I q (by simp))
  | bl j=>cases ry;exact ne_bool (aBy I q (congrArg not bJt))
  | str j=>obtain⟨t',rfl⟩:=ry;exact PySem.EqMixed.ne_bool_str (aBy I q (by simp))
  | _=>exact absurd (show false=true from hs) Bool.false_ne_true
 | int i=>
  obtain⟨t,rfl⟩:=rx;cases y with
  | non=>cases ry;exact PySem.EqNone.ne_int_none (aBy I q (by simp))
  | int j=>obtain⟨t',rfl⟩:=ry;exact ne_int (aBy I q (congrArg not bEp))
  | str j=>obtain⟨t',rfl⟩:=ry;exact PySem.EqMixed.ne_int_str (aBy I q (by simp))
  | _=>exact absurd (show false=true from hs) Bool.false_ne_true
 | str i=>
  obtain⟨t,rfl⟩:=rx;cases y with
  | non=>cases ry;exact PySem.EqNone.ne_str_none (aBy I q (by simp))
  | bl j=>cases ry;exact PySem.EqMixed.ne_str_bool (aBy I q (by simp))
  | int j=>obtain⟨t',rfl⟩:=ry;exact PySem.EqMixed.ne_str_int (aBy I q (by simp))
  | str j=>obtain⟨t',rfl⟩:=ry;exact ne_str (aBy I q (congrArg not bEo))
  | _=>exact absurd (show false=true from hs) Bool.false_ne_true
 | byt i=>
  obtain⟨t,rfl⟩:=rx;cases y with
  | byt j=>obtain⟨t',rfl⟩:=ry;exact PySem.W.ne_bytes (aBy I q (congrArg not bEq))
  | _=>exact absurd (show false=true from hs) Bool.false_ne_true
 | _=>cases y<;>exact absurd (show false=true from hs) Bool.false_ne_true
theorem bSm:OpR X (compareOp .Lt) (rI0 fun i j=> .bl (decide (i<j))):=bSp fun _ _ _ _ _ _ _ q=>lt_int q
theorem bSn:OpR X (compareOp .Gt) (rI0 fun i j=> .bl (decide (j<i))):=bSp fun _ _ _ _ _ _ _ q=>gt_int q
theorem bSo:OpR X (compareOp .GtE) (rI0 fun i j=> .bl (decide (j<=i))):=bSp fun _ _ _ _ _ _ _ q=>ge_int q
theorem bI3:OpR X (compareOp .Is) (fun x y H Q=>y= .non/\Q (.bl (decide (x= .non))) H):=by
 intro pins s σ H x y v u Q I rx ry h;obtain⟨rfl,q⟩:=h;cases ry;refine is_none_gen (aBy I q ?_);cases x<;>first
  |(cases rx;rfl)
  |(obtain⟨t,rfl⟩:=rx;rfl)
theorem OpR.or {f:Value->Value->Sem Value}{r r':R2}(h:OpR X f r)(h':OpR X f r'):OpR X f (fun x y H Q=>r x y H Q\/r' x y H Q):=by
 intro pins s σ H x y v u Q I rx ry q;rcases q with q | q
 ·exact h pins s σ H x y v u Q I rx ry q
 ·exact h' pins s σ H x y v u Q I rx ry q
theorem aK4 (b:Expr){op:CmpOp}(h:op≠ .In:=by decide)(h2:op≠ .NotIn:=by decide):behindInMarks op b=false:=by
 have e1:(op==CmpOp.In)=false:=by cases op<;>first | rfl | exact absurd rfl h
 have e2:(op==CmpOp.NotIn)=false:=by cases op<;>first | rfl | exact absurd rfl h2
 cases b<;>simp[behindInMarks,e1,e2]
theorem bKy {op:CmpOp}{r:R2}(ho:OpR X (compareOp op) r)(ha:PE X a ta)(hb:PE X b tb)(hm:behindInMarks op b=false):PE X (.Compare a [op] [b] pos) (tOp r ta tb):=by
 intro pins s σ H Q I h;exact wpAny_Compare1 (bTc ha hb I h fun v u s2 x y H2 I2 rx ry q=>ho pins s2 σ H2 x y v u Q I2 rx ry q) hm
def bRo (t:TE):TT:=fun σ H Q=>t σ H fun x H'=> ∃k,x= .bl k/\Q k H'
theorem bKp {op:CmpOp}{r:R2}(ho:OpR X (compareOp op) r)(ha:PE X a ta)(hb:PE X b tb)(hm:behindInMarks op b=false):PT X (.Compare a [op] [b] pos) (bRo (tOp r ta tb)):=by
 intro pins s σ H Q I h;refine wpAny_isTrue_Compare1 (thn (ha pins s σ H _ I h) fun v s1 ⟨x,H1,I1,r1,q1⟩=>thn (hb pins s1 σ H1 _ I1 q1) fun u s2 ⟨y,H2,I2,r2,q2⟩=>
  thn (ho pins s2 σ H2 x y v u _ I2 r1 r2 q2) fun c s3 ⟨z,H3,I3,r3,k,e,q3⟩=> ?_) hm
 subst e;cases r3;exact wpAny_truthy_bool ⟨H3,I3,q3⟩
def bTd (K:PySem.W.Frag)(x:V)(H:Hp)(k:Bool):Prop:=
 match x with
 | .non=>k=false
 | .bl b=>k=b
 | .int i=>k=(i !=0)
 | .str y=>y.length<=sizeLine/\k=((y.length:Int) !=0)
 | .byt y=>y.size<=sizeLine/\k=((y.size:Int) !=0)
 | .ref p=>(∃xs,SqL K H p xs/\k= !xs.isEmpty)\/(∃xs,SqT K H p xs/\k= !xs.isEmpty)\/∃kvs,H p=some (.dK kvs)/\k= !kvs.isEmpty
 | _=>False
theorem bAu {κ:Type}{kvs:List (κ×V)}{vs:List (κ×Value)}(r:KV kvs vs):(!vs.isEmpty)= !kvs.isEmpty:=by
 cases r<;>rfl
theorem aQ7 {xs:List V}{its:List Value}(r:Vals xs its):(!its.toArray.isEmpty)= !xs.isEmpty:=by
 cases r<;>simp
theorem aUu:(sizeLine:Nat)<2^63:=by rw[sizeLine_eq];decide
theorem bNj:bVh X (fun x H Q=> ∃k,bTd X.K x H k/\Q k H):=by
 intro pins s σ H x v Q I rx h;obtain⟨k,e,q⟩:=h;have hl:=aUu;have hs:sizeLine=16777216:=sizeLine_eq;cases x with
 | non=>
  cases rx;have e':k=false:=e;subst e';exact truthy_none ⟨H,I,q⟩
 | bl b=>
  cases rx;have e':k=b:=e;subst e';exact wpAny_truthy_bool ⟨H,I,q⟩
 | int i=>
  obtain⟨t,rfl⟩:=rx;have e':k=(i !=0):=e;subst e';exact PySem.P.truthy_int ⟨H,I,q⟩
 | str y=>
  obtain⟨t,rfl⟩:=rx;obtain⟨hy,e'⟩:y.length<=sizeLine/\k=((y.length:Int) !=0):=e;subst e';exact PySem.P.truthy_str (by omega) ⟨H,I.tok _,q⟩
 | byt y=>
  obtain⟨t,rfl⟩:=rx;obtain⟨hy,e'⟩:y.size<=sizeLine/\k=((y.size:Int) !=0):=e;subst e';exact PySem.W.truthy_bytes (by omega) ⟨H,I.tok _,q⟩
 | ref p=>
  cases rx;have e':(∃xs,SqL X.K H p xs/\k= !xs.isEmpty)\/(∃xs,SqT X.K H p xs/\k= !xs.isEmpty)\/∃kvs,H p=some (.dK kvs)/\k= !kvs.isEmpty:=e;rcases e' with⟨xs,hx,e'⟩ |⟨xs,hx,e'⟩ |⟨kvs,hx,e'⟩
  ·subst e'
   obtain⟨its,r,pl,hz⟩:=I.list hx;have hlen:=r.length;exact wpAny_truthy_list pl.isList (by simp only[List.size_toArray];omega) ⟨H,I.tok _,by rw[aQ7 r];exact q⟩
  ·subst e'
   obtain⟨its,r,pl,hz⟩:=I.tuple hx;have hlen:=r.length;exact truthy_tuple pl (by simp only[List.size_toArray];omega) ⟨H,I.tok _,by rw[aQ7 r];exact q⟩
  ·subst e'
   obtain⟨hz,hS,vs,r,m⟩:kvs.length<=sizeLine/\(p==sysModules)=false/\∃vs,KV kvs vs/\s.heap.DictOf (aB8 X.prog X.w) p vs:=I.hok p _ hx;have hlen:kvs.length=vs.length:=Paired.length r;exact wpAny_truthy_dict hS m (by omega) ⟨H,I.tok _,by rw[bAu r];exact q⟩
 | _=>exact (show False from e).elim
theorem bGk (ha:PE X a ta)(he: ∀whole,isTrue a X.env whole=(do let v<-whole;standAt a.pos;holding [v] (truthy v))):
  PT X a (fun σ H Q=>ta σ H fun x H'=> ∃k,bTd X.K x H' k/\Q k H'):=by
 intro pins s σ H Q I h;exact isTrue_plain (thn (ha pins s σ H _ I h) fun v s1 ⟨x,H1,I1,r1,q1⟩=>bNj pins s1 σ H1 x v Q I1 r1 q1) (he _)
theorem bAg:OpR X (binaryOp .Add) (fun x y H Q=> ∃i j,x= .str i/\y= .str j/\i.length+j.length<=sizeLine/\Q (.str (i++j)) H):=by
 intro pins s σ H x y v u Q I rx ry h;obtain⟨i,j,rfl,rfl,hz,q⟩:=h;obtain⟨t,rfl⟩:=rx;obtain⟨t',rfl⟩:=ry;exact add_str (fun t' tk=>⟨.str (i++j),H,I.tok _,⟨_,rfl⟩,q⟩) hz
theorem vals1 {x:V}{us:List Value}(r:Vals [x] us): ∃u,us=[u]/\RelV x u:=by
 cases r with
 | cons r1 r2=>cases r2;exact⟨_,rfl,r1⟩
theorem vals2 {x y:V}{us:List Value}(r:Vals [x,y] us): ∃u w',us=[u,w']/\RelV x u/\RelV y w':=by
 cases r with
 | cons r1 r2=>
  cases r2 with
  | cons r3 r4=>cases r4;exact⟨_,_,rfl,r1,r3⟩
theorem bE0 (hc:X.calm=true):aJe X (.builtin "min") (fun xs H Q=> ∃i j,xs=[.int i,.int j]/\Q (.int (if j<i then j else i)) H):=by
 intro pins s σ H xs us Q I r h;obtain⟨i,j,rfl,q⟩:=h;obtain⟨u,w',rfl,⟨t,rfl⟩,⟨t',rfl⟩⟩:=vals2 r;refine min_two_ints (I.ok.hd hc) fun h' tk k=>⟨_,H,I.kept k,?_,q⟩
 by_cases hj:j<i
 ·rw[if_pos hj,if_pos hj];exact⟨_,rfl⟩
 ·rw[if_neg hj,if_neg hj];exact⟨_,rfl⟩
end
structure bM6 (h:Heap)(x dx C:Addr)(mA:Str->Option Value):Prop where
 obj:h.get? x=some (PySem.W.instObj C dx)
 ns:h.Ns1 dx mA
 ne:dx≠x
theorem bDf {h:Heap}{dx:Addr}{mA:Str->Option Value}(n:h.Ns1 dx mA): ∃od,h.get? dx=some od/\∀name,PySem.W.lookIn name od=some (mA name):=by
 obtain⟨o,es,ep,ho,hd,hk,_,hm⟩:=n;refine⟨o,ho,fun name=> ?_⟩;have e:=hm name;unfold nsFind findBy at e;rw[<-Array.find?_toList] at e;unfold PySem.W.lookIn;rw[hd]
 dsimp only
 split
 ·rename_i y q
  rw[q] at e;exact congrArg some e
 ·rename_i q
  rw[q] at e;have a:es.toList.any (·.refKey)=false:=by
   rw[List.any_eq_false];intro y hy;obtain⟨z,t,hkey⟩:=hk y (Array.mem_toList_iff.mp hy);simp[DictEntry.refKey,hkey]
  have a':¬es.toList.any (·.refKey)=true:=by rw[a];exact Bool.false_ne_true
  rw[if_neg a'];exact congrArg some e
theorem bM6.look {h:Heap}{x dx C:Addr}{mA:Str->Option Value}(I:bM6 h x dx C mA): ∃od,PySem.W.InstAt h x (PySem.W.instObj C dx) C (some od)/\∀name,PySem.W.lookIn name od=some (mA name):=
 let ⟨od,ho,hl⟩:=bDf I.ns
 ⟨od,⟨I.obj,rfl,rfl,ho⟩,hl⟩
section
variable {prog:Program}{w:World}{A:Around}{E:Value->Shared->Prop}{s:Shared}{K:PySem.W.Frag}{x dx C f:Addr}{mA:Str->Option Value}{name:Str}{v:Value}
theorem get_map {expr:Bool}{Q:Value->Shared->Prop}(X:K.In s.heap)(I:bM6 s.heap x dx C mA)(hg:PySem.W.plainGet K C name=true)(hh:PySem.W.hasDictIn K C=true)
  (ha:PySem.W.findIn K (.ref C) name=some none) (hv:mA name=some v) (hv':PySem.W.handedIn v=true) (h:Q v {s with toks:=s.toks+1}):
  wpAny (model prog w) A (getAttr (.ref x) name expr) Q E s:=by
 obtain⟨od,J,hl⟩:=I.look;exact PySem.W.get_value X J (PySem.W.plainGet_of hg).1 (PySem.W.findObj_own hh ha rfl (by rw[hl,hv])) hv' h
theorem bHx {pl:Sem Bool}{Q:Value×List Value->Shared->Prop}(X:K.In s.heap)(I:bM6 s.heap x dx C mA)(hg:PySem.W.plainGet K C name=true)
  (hf:PySem.W.findIn K (.ref C) name=some (some (.ref f))) (ht:PySem.W.isFn K (.ref f)=true) (hv:mA name=none) (h:Q (.ref f,[.ref x]) s):
  wpAny (model prog w) A (getMethod (.ref x) name pl) Q E s:=by
 obtain⟨od,J,hl⟩:=I.look;exact PySem.W.method_fn X J (PySem.W.plainGet_of hg).1 (PySem.W.plainGet_of hg).2 hf (beq_iff_eq.mp ht) (by show (PySem.W.lookIn name od).map (·.isSome)=some false;rw[hl,hv];rfl) h
theorem bKg {ns:List Str}{Q:Unit->Shared->Prop}(X:K.In s.heap)(I:bM6 s.heap x dx C mA)
  (hs:PySem.W.findIn K (.ref C) "__setattr__"=some (some (.builtin "object.__setattr__"))) (hp:PySem.W.plainOver K C=true) (ht:PySem.W.takerIn K C name=some none) (hh:PySem.W.hasDictIn K C=true)
  (hw:PySem.Within mA ns) (hsz:ns.length<=sizeLine)
  (h: ∀h',bM6 h' x dx C (fun y=>if y=name then some v else mA y)->Heap.SameBut dx s.heap h'->Q () {s with heap:=h',toks:=s.toks+2}):
  wpAny (model prog w) A (setAttr (.ref x) name v) Q E s:=by
 obtain⟨od,J,hl⟩:=I.look;refine PySem.W.set_plain X J hs (PySem.W.osa_open (s:={s with toks:=s.toks+1}) (r:=none) X J hp ht fun b=> ?_);obtain⟨cd,hc,hd'⟩:=PySem.W.any_some hh;have hx:s.heap.get? x=some ⟨.ref C,some dx,.plain,#[]⟩:=I.obj;refine wpAny_bind (wpAny_pure (wpAny_bind (wpAny_bind (wpAny_loadPart hx (wpAny_bind (PySem.W.Looks.here (s:={s with toks:=s.toks+1}) (PySem.W.looks_clsIn X hc) ?_))))));rw[hd'];refine wpAny_pure (a:=some dx) (wpAny_bind (wpAny_pure (wpAny_bind ?_)));refine wpAny_nsSet1 (s:={s with toks:=s.toks+1}) I.ns fun h' hn2 hs2=> ?_
 obtain⟨oD,esD,epD,hoD,hdD,hcD⟩:=hn2.count (PySem.Within.cons name v hw);refine wpAny_bind (wpAny_lookBehind hoD (by rw[hdD];exact pastItsLine_dict (Nat.le_trans hcD (by rw[List.length_cons];omega))) ?_);exact wpAny_pure (h _ ⟨(hs2.2 _ (Ne.symm I.ne)).trans I.obj,hn2,I.ne⟩ hs2)
theorem bHl {R:Result->Shared->Prop}{vs:List Value}{kw:List (Str×Value)}(X:K.In s.heap)(hm:PySem.W.makesIn K C=true)
  (hi:PySem.W.findIn K (.ref C) "__init__"=some (some (.ref f))) (hf:PySem.W.typeIn K (.ref f)=some (.type "function"))
  (h:codeAny (model prog w) (A.under (.builtin "type.__call__" ⟨.ref C::vs,kw⟩)) (.call (.ref f) ⟨.ref (s.heap.objs.size+1)::vs,kw⟩) (PySem.W.InitBack (s.heap.objs.size+1) R)
   {s with heap:=(s.heap.push PySem.W.emptyDict).push (PySem.W.instObj C s.heap.objs.size)}):
  codeAny (model prog w) A (.call (.ref C) ⟨vs,kw⟩) R s:=by
 obtain⟨hh,g,d,t,os⟩:=s;exact PySem.W.make_core (PySem.W.makes_of X hm) (PySem.W.looks_findIn X hi) (fun self=>PySem.W.bind_fn X self hf) (.inl rfl) h
end
def aQr (f:Str)(v:V):List (Str×V)->List (Str×V)
 | []=> [(f,v)]
 |(g,x)::r=>if g=f then (g,v)::r else (g,x)::aQr f v r
theorem aOq (f g:Str)(v:V): ∀fs:List (Str×V),(aQr f v fs).lookup g=if g=f then some v else fs.lookup g
 | []=>by
  show List.lookup g [(f,v)]=_;by_cases h:g=f
  ·have hb:(g==f)=true:=beq_iff_eq.mpr h
   simp only[List.lookup,hb,if_pos h]
  ·have hb:(g==f)=false:=beq_eq_false_iff_ne.mpr h
   simp only[List.lookup,hb,if_neg h]
 |(k,x)::r=>by
  have ih:=aOq f g v r;rw[show aQr f v ((k,x)::r)=(if k=f then (k,v)::r else (k,x)::aQr f v r) from rfl];by_cases hk:k=f
  ·rw[if_pos hk]
   by_cases h:g=k
   ·have hb:(g==k)=true:=beq_iff_eq.mpr h
    simp only[List.lookup,hb,if_pos (h.trans hk)]
   ·have hb:(g==k)=false:=beq_eq_false_iff_ne.mpr h
    simp only[List.lookup,hb,if_neg (fun e:g=f=>h (e.trans hk.symm))]
  ·rw[if_neg hk]
   by_cases h:g=k
   ·have hb:(g==k)=true:=beq_iff_eq.mpr h
    simp only[List.lookup,hb,if_neg (fun e:g=f=>hk (h.symm.trans e))]
   ·have hb:(g==k)=false:=beq_eq_false_iff_ne.mpr h
    simp only[List.lookup,hb];exact ih
theorem aOy (f:Str)(v:V): ∀fs:List (Str×V),f∈(aQr f v fs).map (·.1)/\∀g,g∈fs.map (·.1)->g∈(aQr f v fs).map (·.1)
 | []=>⟨by simp[aQr],fun g h=>by simp at h⟩
 |(k,x)::r=>by
  obtain⟨i1,i2⟩:=aOy f v r;rw[show aQr f v ((k,x)::r)=(if k=f then (k,v)::r else (k,x)::aQr f v r) from rfl];by_cases hk:k=f
  ·rw[if_pos hk]
   subst hk;exact⟨by simp,fun g h=>by simpa using h⟩
  ·rw[if_neg hk]
   refine⟨?_,fun g h=> ?_⟩
   ·rw[List.map_cons]
    exact List.mem_cons_of_mem _ i1
   ·rw[List.map_cons] at h⊢
    rcases List.mem_cons.mp h with e | e
    ·exact List.mem_cons.mpr (.inl e)
    ·exact List.mem_cons_of_mem _ (i2 g e)
theorem aOu (f:Str)(v:V): ∀fs:List (Str×V),(aQr f v fs).length<=fs.length+1
 | []=>by simp[aQr]
 |(k,x)::r=>by
  have ih:=aOu f v r;rw[show aQr f v ((k,x)::r)=(if k=f then (k,v)::r else (k,x)::aQr f v r) from rfl];by_cases hk:k=f
  ·rw[if_pos hk,List.length_cons,List.length_cons];omega
  ·rw[if_neg hk,List.length_cons,List.length_cons];omega
theorem aTl.some_of {v:V}{o:Option Value}(r:aTl (some v) o): ∃u,o=some u/\RelV v u:=by
 cases o with
 | none=>exact (show False from r).elim
 | some u=>exact⟨u,rfl,r⟩
theorem aTl.none_of {o:Option Value}(r:aTl none o):o=none:=by
 cases o with
 | none=>rfl
 | some u=>exact (show False from r).elim
theorem bD7 {v:V}{u:Value}(r:RelV v u):PySem.W.handedIn u=true:=by
 cases v with
 | non=>cases (show u=Value.none from r);rfl
 | bl b=>cases (show u=Value.bool b from r);rfl
 | int i=>obtain⟨t,e⟩:=(show∃t,u=Value.int i t from r);cases e;rfl
 | str x=>obtain⟨t,e⟩:=(show∃t,u=Value.str x t from r);cases e;rfl
 | byt b=>obtain⟨t,e⟩:=(show∃t,u=Value.bytes b t from r);cases e;rfl
 | flt b=>obtain⟨t,e⟩:=(show∃t,u=Value.float b t from r);cases e;rfl
 | ref a=>cases (show u=Value.ref a from r);rfl
 | ty n=>cases (show u=Value.type n from r);rfl
section
variable {P:Program}{w:World}{H H':Hp}{h h':Heap}{a C dx:Addr}{fs fs':List (Str×V)}
theorem aXf (hok:HOk P w H h)(e:H a=some (.ins C dx fs)): ∃mA,bM6 h a dx C mA/\(∀f,aTl (fs.lookup f) (mA f))/\PySem.Within mA (fs.map (·.1))/\fs.length<=1000/\H dx=some (.own a):=by
 obtain⟨d,z,ne,ob,mA,n,r,q⟩:=(show aDb P w H h a (.ins C dx fs) from hok a _ e);exact⟨mA,⟨ob,n,ne⟩,r,q,z,d⟩
end
structure Cls (K:PySem.W.Frag)(C:Addr):Prop where
 pg:PySem.W.plainGet K C Str.empty=true
 hd:PySem.W.hasDictIn K C=true
 po:PySem.W.plainOver K C=true
 sa:PySem.W.findIn K (.ref C) "__setattr__"=some (some (.builtin "object.__setattr__"))
theorem Cls.get {K:PySem.W.Frag}{C:Addr}(c:Cls K C)(f:Str):PySem.W.plainGet K C f=true:=c.pg
def aGm (K:PySem.W.Frag)(C:Addr)(f:Str):Prop:=PySem.W.findIn K (.ref C) f=some none
theorem aGm.taker {K:PySem.W.Frag}{C:Addr}{f:Str}(n:aGm K C f):PySem.W.takerIn K C f=some none:=by
 unfold PySem.W.takerIn;rw[show PySem.W.findIn K (.ref C) f=some none from n];rfl
structure Meth (K:PySem.W.Frag)(C:Addr)(m:Str)(f:Addr):Prop where
 at_:PySem.W.findIn K (.ref C) m=some (some (.ref f))
 fn:PySem.W.isFn K (.ref f)=true
 kp:PySem.W.keepIn K (.ref f)=true
section
variable {X:Cx}{pins:List (Addr×Obj)}{σ:St}{H:Hp}{s:Shared}{a C dx:Addr}{fs:List (Str×V)}{f:Str}{v:V}{A:Around}{E:Value->Shared->Prop}
theorem bAx {b:Bool}{Q:Value->Shared->Prop}(I:Inv X pins σ H s)(e:H a=some (.ins C dx fs))(c:Cls X.K C)(n:aGm X.K C f)(l:fs.lookup f=some v)
  (h: ∀u s',Inv X pins σ H s'->RelV v u->Q u s'):wpAny (model X.prog X.w) A (getAttr (.ref a) f b) Q E s:=by
 obtain⟨mA,O,r,_,_,_⟩:=aXf I.hok e;obtain⟨u,hu,ru⟩:=aTl.some_of (v:=v) (o:=mA f) (by rw[<-l];exact r f);exact get_map I.kIn O (c.get f) c.hd n hu (bD7 ru) (h u _ (I.tok _) ru)
theorem bAw {m:Str}{g:Addr}{pl:Sem Bool}{Q:Value×List Value->Shared->Prop}(I:Inv X pins σ H s)(e:H a=some (.ins C dx fs))(c:Cls X.K C)(k:Meth X.K C m g)(l:fs.lookup m=none)
  (h:Q (.ref g,[.ref a]) s):wpAny (model X.prog X.w) A (getMethod (.ref a) m pl) Q E s:=by
 obtain⟨mA,O,r,_,_,_⟩:=aXf I.hok e;have hn:mA m=none:=aTl.none_of (by rw[<-l];exact r m);exact bHx I.kIn O (c.get m) k.at_ k.fn hn h
theorem aZ4 {y:V}{u:Value}{Q:Unit->Shared->Prop}(I:Inv X pins σ H s)(e:H a=some (.ins C dx fs))(c:Cls X.K C)(n:aGm X.K C f)(hl:fs.length<1000)(ry:RelV y u)
  (h: ∀s',Inv X pins σ (upd H a (.ins C dx (aQr f y fs))) s'->Q () s'):wpAny (model X.prog X.w) A (setAttr (.ref a) f u) Q E s:=by
 obtain⟨mA,O,r,wi,_,ho⟩:=aXf I.hok e;have hz:(fs.map (·.1)).length<=sizeLine:=by rw[List.length_map,sizeLine_eq];omega
 refine bKg I.kIn O c.sa c.po n.taker c.hd wi hz fun h' O' sb=>h _ ?_
 have hd: ∃o,h'.get? dx=some o:=let ⟨o,_,_,e',_⟩:=O'.ns;⟨o,e'⟩;refine I.write (x:=a) (e:=dx) (by rw[e];exact True.intro) (.inr ho) (fun b q hb z=>(sb.2 b hb).trans z) hd ?_;refine⟨by rw[aA6 O.ne];exact ho,?_,O.ne,O'.obj,_,O'.ns,fun g=> ?_,fun g hg=> ?_⟩
 ·have:=aOu f y fs;omega
 ·show aTl ((aQr f y fs).lookup g) (if g=f then some u else mA g)
  rw[aOq];by_cases q:g=f
  ·rw[if_pos q,if_pos q];exact ry
  ·rw[if_neg q,if_neg q];exact r g
 ·by_cases q:g=f
  ·rw[q];exact (aOy f y fs).1
  ·refine (aOy f y fs).2 g (wi g fun z=>hg ?_)
   show (if g=f then some u else mA g)=none;rw[if_neg q];exact z
theorem Inv.made (I:Inv X pins σ H s):Inv X pins σ (upd (upd H s.heap.objs.size (.own (s.heap.objs.size+1))) (s.heap.objs.size+1) (.ins C s.heap.objs.size []))
  {s with heap:=(s.heap.push PySem.W.emptyDict).push (PySem.W.instObj C s.heap.objs.size)}:=by
 have e1:(s.heap.push PySem.W.emptyDict).get? s.heap.objs.size=some PySem.W.emptyDict:=Heap.get?_push_size s.heap rfl;have e2:((s.heap.push PySem.W.emptyDict).push (PySem.W.instObj C s.heap.objs.size)).get? (s.heap.objs.size+1)=some (PySem.W.instObj C s.heap.objs.size):=by
  have:=Heap.get?_push_size (s.heap.push PySem.W.emptyDict) (o:=PySem.W.instObj C s.heap.objs.size) rfl
  rwa [Heap.size_push] at this
 have e3:(s.heap.push PySem.W.emptyDict).Ns s.heap.objs.size (fun _=>none):=⟨PySem.W.emptyDict,#[],_,e1,rfl,(fun e he=>absurd he (by simp)),fun _=>rfl⟩;have I1:=I.laid (a:=s.heap.objs.size) (o:= .own (s.heap.objs.size+1)) (h':=s.heap.push PySem.W.emptyDict) (t':=s.toks) (fun b u q=>Heap.get?_push_of_some _ q) (Nat.le_refl _) ⟨_,e1⟩;refine I1.laid (a:=s.heap.objs.size+1) (o:= .ins C s.heap.objs.size []) (t':=s.toks) (fun b u q=>Heap.get?_push_of_some _ q) (Nat.le_of_eq (Heap.size_push _ _)) ?_;have ne:s.heap.objs.size≠s.heap.objs.size+1:=Nat.ne_of_lt (Nat.lt_succ_self _);refine⟨by rw[aA6 ne,aAy],Nat.zero_le _,ne,e2,fun _=>none,(Heap.Ns1.of_empty e3).at fun o q=>Heap.get?_push_of_some _ q,fun _=>True.intro,fun y hy=>absurd rfl hy⟩
theorem bM1 {prog:Program}{w:World}{env:Env}{e:Expr}{f:Str}{pos:Pos}{s:Shared}{Q:Value->Shared->Prop}(hb:attributeBase e f env (eval e env)=eval e env)
  (h:wpAny (model prog w) A (eval e env) (fun o s₁=>wpAny (model prog w) A (getAttr o f true) Q E s₁) E s):wpAny (model prog w) A (eval (.Attribute e f pos) env) Q E s:=
 Attribute_any_ h (by rw[arm_eval_Attribute,hb])
end
def bUh (K:PySem.W.Frag)(ta:TE)(f:Str):TE:=fun σ H Q=>ta σ H fun x H1=> ∃a C dx fs v,x= .ref a/\H1 a=some (.ins C dx fs)/\Cls K C/\aGm K C f/\fs.lookup f=some v/\Q v H1
def bUl (K:PySem.W.Frag)(ta tv:TE)(f:Str):TS:=fun D σ H=>tv σ H fun y H1=>ta σ H1 fun x H2=> ∃a C dx fs,x= .ref a/\H2 a=some (.ins C dx fs)/\Cls K C/\aGm K C f/\fs.length<1000/\
 D.nx σ (upd H2 a (.ins C dx (aQr f y fs)))
section
variable {X:Cx}{o e value:Expr}{f:Str}{pos pos' tpos:Pos}{ta tv:TE}
theorem bOv (he:PE X e ta)(hb:attributeBase e f X.env (eval e X.env)=eval e X.env):PE X (.Attribute e f pos) (bUh X.K ta f):=by
 intro pins s σ H Q I h;refine bM1 hb (thn (he pins s σ H _ I h) fun u s1 hP=> ?_);obtain⟨x,H1,I1,rx,a,C,dx,fs,v,ex,ea,c,n,l,q⟩:=hP;subst ex;obtain rfl:u=Value.ref a:=rx;exact bAx I1 ea c n l fun u' s2 I2 ru=>⟨v,H1,I2,ru,q⟩
theorem bIs (ha:PE X o ta)(hv:PE X value tv)(hs:swapsWith value (some (.Attribute o f pos')) pos.line X.env=pure false):PS X (.Assign [.Attribute o f pos'] value pos) (bUl X.K ta tv f):=by
 intro pins s σ H D I h;refine plainObj_wpAny_Assign_Attribute (thn (hv pins s σ H _ I h) fun u s1 ⟨y,H1,I1,ry,q⟩=>thn (ha pins s1 σ H1 _ I1 q) fun ov s2 hP=> ?_) hs;obtain⟨x,H2,I2,rx,a,C,dx,fs,ex,ea,c,n,l,q2⟩:=hP;subst ex;obtain rfl:ov=Value.ref a:=rx;exact aZ4 I2 ea c n l ry fun s3 I3=>⟨σ,_,I3,q2⟩
end
structure aDm (k:Nat)(A:Around):Prop where
 hd:A.handled=none
 dp:A.depth+3*k+5<recursionLimit
 un:A.units+16*k+200<cLine
theorem aDm.mono {j k:Nat}{A:Around}(r:aDm k A)(h:j<=k):aDm j A:=⟨r.hd,by have:=r.dp;omega,by have:=r.un;omega⟩
theorem aDm.deeper {k:Nat}{A:Around}(r:aDm (k+1) A)(env:Env):aDm k (A.deeper env):=
 ⟨r.hd,by have:=r.dp;show A.depth+1+3*k+5<_;omega,by have:=r.un;show A.units+3+16*k+200<_;omega⟩
theorem bAn {A:Around}{C:Addr}{us:List Value}{kw:List (Str×Value)}:(A.under (.builtin "type.__call__" ⟨.ref C::us,kw⟩)).depth=A.depth+1:=by
 first | rfl | simp[Around.under,Code.weight,Code.isCreation,Code.isGuard,Code.isCaller,Code.frames,Code.isFrame,guardIds]
theorem bAm {A:Around}{C:Addr}{us:List Value}{kw:List (Str×Value)}:(A.under (.builtin "type.__call__" ⟨.ref C::us,kw⟩)).units=A.units+1:=by
 first | rfl | simp[Around.under,Code.cUnits,Code.frames,Code.isFrame]
theorem aDm.make {k:Nat}{A:Around}(r:aDm (k+1) A)(C:Addr)(us:List Value)(kw:List (Str×Value)):aDm k (A.under (.builtin "type.__call__" ⟨.ref C::us,kw⟩)):=
 ⟨r.hd,by have:=r.dp;rw[bAn];omega,by have:=r.un;rw[bAm];omega⟩
theorem aDm.depth {k:Nat}{A:Around}(r:aDm k A):A.depth<recursionLimit:=by have:=r.dp;omega
theorem aDm.units {k:Nat}{A:Around}(r:aDm k A):A.units+64<cLine:=by have:=r.un;omega
def bUd:TA:=fun _ H Q=>Q [] H
def bRu (ta:TE)(tr:TA):TA:=fun σ H Q=>ta σ H fun x H1=>tr σ H1 fun xs H2=>Q (x::xs) H2
section
variable {X:Cx}{e:Expr}{es:List Expr}{te:TE}{t:TA}{pos:Pos}
theorem aEi:PA X [] bUd:=fun _ _ _ _ H Q I h=>Calls.spliced_nil ⟨[],H,I,.nil,h⟩
theorem aBq (ha:PE X e te)(hr:PA X es t)(hs:starEach (e::es) X.env=(false,eval e X.env)::starEach es X.env:=by rfl):PA X (e::es) (bRu te t):=by
 intro pos pins s σ H Q I h;rw[hs];show wpAny _ _ (spliced ((false,eval e X.env)::backTo pos (starEach es X.env))) _ _ s;refine Calls.spliced_cons (thn (ha pins s σ H _ I h) fun u s1 ⟨x,H1,I1,r1,q1⟩=> ?_);exact thn (hr pos pins s1 σ H1 _ I1 q1) fun us s2 ⟨xs,H2,I2,r2,q2⟩=>⟨x::xs,H2,I2,.cons r1 r2,q2⟩
def bT8 (t:TA):TE:=fun σ H Q=>t σ H fun xs H1=>xs.length<=sizeLine/\∀p,H1 p=none->Q (.ref p) (upd H1 p (.tup xs))
def bUe (t:TA):TE:=fun σ H Q=>t σ H fun xs H1=>xs.length<=sizeLine/\∀p,H1 p=none->Q (.ref p) (upd H1 p (.lst xs))
theorem bIv {x1}(h:PA X es t):PE X (.Tuple es x1 pos) (bT8 t):=by
 intro pins s σ H Q I hq;refine wpAny_Tuple_spliced (thn (h pos pins s σ H _ I hq) fun us s1 ⟨xs,H1,I1,r,z,q⟩=>⟨by rw[<-r.length];exact z,?_⟩);have hf:H1 s1.heap.objs.size=none:=I1.hok.fresh (Nat.le_refl _);refine⟨.ref s1.heap.objs.size,upd H1 s1.heap.objs.size (.tup xs),I1.laid (t':=s1.toks) (fun b u e=>Heap.get?_push_of_some _ e) (Nat.le_refl _) ?_,rfl,q _ hf⟩;exact⟨z,us,r,⟨_,Heap.get?_push_size _ rfl,rfl,⟨_,rfl⟩,rfl⟩⟩
theorem bIx (h:PA X es t):PE X (.List es pos) (bUe t):=by
 intro pins s σ H Q I hq;refine wpAny_List_spliced (thn (h pos pins s σ H _ I hq) fun us s1 ⟨xs,H1,I1,r,z,q⟩=>⟨by rw[<-r.length];exact z,?_⟩);have hf:H1 s1.heap.objs.size=none:=I1.hok.fresh (Nat.le_refl _);refine⟨.ref s1.heap.objs.size,upd H1 s1.heap.objs.size (.lst xs),I1.laid (t':=s1.toks) (fun b u e=>Heap.get?_push_of_some _ e) (Nat.le_refl _) ?_,rfl,q _ hf⟩;exact⟨z,us,0,r,Heap.get?_push_size _ rfl⟩
end
abbrev Sp:=List V->Hp->VK->XK->Prop
abbrev CXT:=List Env->Hp->Shared->XK->Value->Shared->Prop
structure bM7 (P:Program)(w:World)(K:PySem.W.Frag)(mg:Str->Option Value)(base:Heap)(A:Around)(outer:List Env)(s:Shared)(H:Hp):Prop where
 frames:A.frames=some outer
 mod:Mod K mg base
 bs: ∀b o,base.get? b=some o->s.heap.get? b=some o/\H b=none
 bsz:base.objs.size<=s.heap.objs.size
 aXi:s.heap.FunFrames base outer
 frf: ∀b∈frs outer,H b=none
 hok:HOk P w H s.heap
 bare:AllBare s.gens
def CE (outer:List Env)(P:Program)(w:World)(H:Hp)(s:Shared)(Q:VK)(u:Value)(s':Shared):Prop:=
 ∃v H',s'.os=s.os/\AllBare s'.gens/\Un (frs outer) [] H H' s.heap s'.heap/\HOk P w H' s'.heap/\RelV v u/\Q v H'
def CR (CX:CXT)(outer:List Env)(P:Program)(w:World)(H:Hp)(s:Shared)(Q:VK)(E:XK)(r:Result)(s':Shared):Prop:=
 match r with
 | .ok (.ret u)=>CE outer P w H s Q u s'
 | .ok _=>False
 | .error e=>CX outer H s E e s'
structure bFt (P:Program)(w:World)(K:PySem.W.Frag)(mg:Str->Option Value)(base:Heap)(CX:CXT)(k:Nat)(f:Addr)(fd:FuncData)(ps:List Str)(sp:Sp):Prop where
 len: ∀vs H Q E,sp vs H Q E->vs.length=ps.length
 run: ∀(A:Around) (outer:List Env) (s:Shared) (H:Hp) (args:Args) (us:List Value) (vs:List V) (Q:VK) (E:XK),aDm k A->bM7 P w K mg base A outer s H->BindsTo s fd args (ps.zip us)->Vals vs us->sp vs H Q E->
  codeAny (model P w) A (.call (.ref f) args) (CR CX outer P w H s Q E) s
theorem bFt.imp {P:Program}{w:World}{K:PySem.W.Frag}{mg:Str->Option Value}{base:Heap}{CX:CXT}{k:Nat}{f:Addr}{fd:FuncData}{ps:List Str}{sp sp':Sp}(F:bFt P w K mg base CX k f fd ps sp)
  (h: ∀vs H Q E,sp' vs H Q E->sp vs H Q E):bFt P w K mg base CX k f fd ps sp':=
 ⟨fun vs H Q E q=>F.len vs H Q E (h _ _ _ _ q),fun A outer s H args us vs Q E hr he hb hv hs=>F.run A outer s H args us vs Q E hr he hb hv (h _ _ _ _ hs)⟩
theorem bM7.make {P:Program}{w:World}{K:PySem.W.Frag}{mg:Str->Option Value}{base:Heap}{A:Around}{outer:List Env}{s:Shared}{H:Hp}(e:bM7 P w K mg base A outer s H)(C:Addr)(us:List Value)(kw:List (Str×Value)):
  bM7 P w K mg base (A.under (.builtin "type.__call__" ⟨.ref C::us,kw⟩)) outer s H:=⟨by first | exact e.frames |(simpa[Around.under,Code.envs,Code.isFrame,pushEnvs] using e.frames),e.mod,e.bs,e.bsz,e.aXi,e.frf,e.hok,e.bare⟩
section
variable {X:Cx}{pins:List (Addr×Obj)}{σ:St}{H:Hp}{s s':Shared}
theorem Inv.env0 (I:Inv X pins σ H s):bM7 X.prog X.w X.K X.mg X.base X.A X.stack s H:=
 ⟨I.ok.frames,I.ok.mod,I.bs,Nat.le_trans I.ok.bsz I.sz,I.stack,I.aLo,I.hok,I.bare⟩
theorem Inv.after {Q:VK}{u:Value}(I:Inv X pins σ H s)(h:CE X.stack X.prog X.w H s Q u s'):EP X pins σ Q u s':=by
 obtain⟨v,H',os,bare,un,hok,r,q⟩:=h;obtain⟨hh,g,d,t,os'⟩:=s';obtain rfl:os'=s.os:=os;exact⟨v,H',I.call (h':=hh) (g':=g) (d':=d) (t':=t) (ch:=[]) un hok bare (fun b z=>absurd z (by simp)),r,q⟩
end
def Binds (K:PySem.W.Frag)(fd:FuncData)(ps:List Str)(ds:List Value):Prop:=
 ∀(s:Shared) (us:List Value),K.In s.heap->(us++ds).length=ps.length->BindsTo s fd ⟨us,[]⟩ (ps.zip (us++ds))
theorem Binds.all {K:PySem.W.Frag}{fd:FuncData}{ps:List Str}(h: ∀us:List Value,us.length=ps.length->bindArgs fd ⟨us,[]⟩=pure (ps.zip us)):Binds K fd ps []:=fun s us _ hl=>by
 rw[List.append_nil] at hl⊢;exact .of_eq (h us hl)
section
variable {X:Cx}{CX:CXT}{k:Nat}{f C:Addr}{fd:FuncData}{ps:List Str}{sp:Sp}{dvs:List V}{ds:List Value}{E:XK}{x m:Str}{p pos apos:Pos}{e o:Expr}{es:List Expr}{ta:TE}{t:TA}
structure Mk (K:PySem.W.Frag)(C f:Addr):Prop where
 makes:PySem.W.makesIn K C=true
 init:PySem.W.findIn K (.ref C) "__init__"=some (some (.ref f))
 fn:PySem.W.isFn K (.ref f)=true
 kp:PySem.W.keepIn K (.ref C)=true
end
structure aA0 (N P:List Str)(sc:Scope):Prop where
 kind:sc.kind= .function
 co:sc.isCoroutine=false
 gen:sc.isGenerator=false
 nd:N.Nodup
 pre:N.take P.length=P
 par: ∀x∈P,sc.names.lookup x=some .local\/sc.names.lookup x=some .cell
 bPf: ∀y∈sc.names,y.2≠ .free
theorem aVq {kindOf:Str->Option NameKind}{x:Str}: ∀{binds:List (Str×Value)} {m:Str->Option Value},(∀v,(x,v)∉binds)->bindL kindOf binds m x=m x
 | [],_,_=>rfl
 |(n,v)::r,m,h=>by
  unfold bindL;rw[aVq fun w hw=>h w (List.mem_cons_of_mem _ hw)];split
  ·have:x≠n:=by rintro rfl;exact h v List.mem_cons_self
   simp[this]
  ·rfl
theorem aVs {kindOf:Str->Option NameKind}{x:Str}: ∀{binds:List (Str×Value)} {m:Str->Option Value},(∀v,(x,v)∉binds)->bindC kindOf binds m x=m x
 | [],_,_=>rfl
 |(n,v)::r,m,h=>by
  unfold bindC;rw[aVs fun w hw=>h w (List.mem_cons_of_mem _ hw)];split
  ·rfl
  ·have:x≠n:=by rintro rfl;exact h v List.mem_cons_self
   simp[this]
theorem aVr {kindOf:Str->Option NameKind}{x:Str}{v:Value}: ∀{P:List Str} {vs:List Value} {i:Nat} {m:Str->Option Value},P.Nodup->P[i]? =some x->vs[i]? =some v->kindOf x=some .local->
  bindL kindOf (P.zip vs) m x=some v
 | [],_,_,_,_,h,_,_=>by simp at h
 | _::_,[],_,_,_,_,h,_=>by simp at h
 | p::P,w::vs,0,m,nd,h1,h2,hk=>by
  simp at h1 h2;subst h1;subst h2;show bindL kindOf ((p,w)::P.zip vs) m p=_;unfold bindL;rw[aVq fun v hv=>(List.nodup_cons.mp nd).1 (List.of_mem_zip hv).1,if_pos hk];simp
 | p::P,w::vs,i+1,m,nd,h1,h2,hk=>by
  show bindL kindOf ((p,w)::P.zip vs) m x=_;unfold bindL;exact aVr (i:=i) (List.nodup_cons.mp nd).2 (by simpa using h1) (by simpa using h2) hk
theorem aVt {kindOf:Str->Option NameKind}{x:Str}{v:Value}: ∀{P:List Str} {vs:List Value} {i:Nat} {m:Str->Option Value},P.Nodup->P[i]? =some x->vs[i]? =some v->kindOf x≠some .local->
  bindC kindOf (P.zip vs) m x=some v
 | [],_,_,_,_,h,_,_=>by simp at h
 | _::_,[],_,_,_,_,h,_=>by simp at h
 | p::P,w::vs,0,m,nd,h1,h2,hk=>by
  simp at h1 h2;subst h1;subst h2;show bindC kindOf ((p,w)::P.zip vs) m p=_;unfold bindC;rw[aVs fun v hv=>(List.nodup_cons.mp nd).1 (List.of_mem_zip hv).1,if_neg hk];simp
 | p::P,w::vs,i+1,m,nd,h1,h2,hk=>by
  show bindC kindOf ((p,w)::P.zip vs) m x=_;unfold bindC;exact aVt (i:=i) (List.nodup_cons.mp nd).2 (by simpa using h1) (by simpa using h2) hk
def start (N:List Str)(vs:List V):St:=vs.map some++List.replicate (N.length-vs.length) none
def bMr (CX:CXT)(P:Program)(w:World)(K:PySem.W.Frag)(mg:Str->Option Value)(base:Heap)(N:List Str)(qual:Str)(scope:Scope)(f:Addr)(cd:Value)(A:Around)(outer:List Env)(s:Shared)(H:Hp)(E:XK):Cx where
 prog:=P
 w:=w
 K:=K
 mg:=mg
 base:=base
 A:=A.deeper (envOfC qual scope s.heap.objs.size f cd)
 N:=N
 s₀:=s
 H₀:=H
 env:=envOfC qual scope s.heap.objs.size f cd
 outer:=outer
 stack:=envOfC qual scope s.heap.objs.size f cd::outer
 ex:=[]
 calm:=true
 fn:=fun _=>true
 pn:=[]
 xe:=fun e s'=>wpAny (model P w) (A.deeper (envOfC qual scope s.heap.objs.size f cd)) (leaving (envOfC qual scope s.heap.objs.size f cd) e) (fun _ s''=>CX outer H s E e s'') (fun e' s''=>CX outer H s E e' s'') s'
theorem aZi {sc:Scope}{n:Nat}{x:Str}(h:sc.names.lookup x=some .cell): ∃c,(cellsFrom n sc.names []).lookup x=some c:=by
 have q:=PySem.W.cellsFrom_some sc.names n [] (.inl h);exact Option.isSome_iff_exists.mp q
theorem bD1 {CX:CXT}{P:Program}{w:World}{K:PySem.W.Frag}{mg:Str->Option Value}{base:Heap}{N ps:List Str}{qual:Str}{scope:Scope}{f:Addr}{cd:Value}{A:Around}{outer:List Env}{s s1:Shared}{H:Hp}{E:XK}{us:List Value}{vs:List V}
  (S:aA0 N ps scope) (hd:A.handled=none) (e0:bM7 P w K mg base A outer s H) (hl:vs.length=ps.length) (r:Vals vs us)
  (x:InCallC s s.heap.objs.size (bindL (envOfC qual scope s.heap.objs.size f cd).kindOf (ps.zip us) fun _=>none) (cellsFrom (s.heap.objs.size+1) scope.names []) (bindC (envOfC qual scope s.heap.objs.size f cd).kindOf (ps.zip us) fun _=>none) s1):
  Inv (bMr CX P w K mg base N qual scope f cd A outer s H E) [] (start N vs) H s1:=by
 have hpl:ps.length<=N.length:=by have:=congrArg List.length S.pre;rw[List.length_take] at this;omega
 obtain⟨h1,tk,rfl,hk⟩:=x.done;have noA: ∀b:Addr,b∉(bMr CX P w K mg base N qual scope f cd A outer s H E).ex:=fun b z=>absurd (show b∈([]:List Addr) from z) (by simp)
 refine⟨⟨e0.mod,S.kind,rfl,rfl,Nat.le_refl _,fun y z c h1 h2=> ?_,fun y hy=> ?_,fun y c _ h=> ?_,fun _=>hd,Around.frames_deeper e0.frames,.inr ⟨rfl,rfl⟩,fun b z=>absurd z (noA b),e0.bs,e0.bsz,fun b _ _=>noA b,fun b z=>absurd z (noA b),e0.aXi,e0.frf⟩,
  rfl,e0.bare,Un.kept hk,⟨_,x.toInCall.ns,fun i y v h1 h2 h3=> ?_⟩,fun y c h=>⟨_,x.cell y c h⟩,e0.hok.fresh (Nat.le_refl _),fun y c h=> ?_,fun p hp=>absurd (show p∈([]:List (Addr×Obj)) from hp) (by simp),e0.hok.kept hk,?_⟩
 ·exact name_of_addr x.apart (PySem.mem_of_lookup h1) (PySem.mem_of_lookup h2)
 ·have hy:scope.names.lookup y=some .cell\/scope.names.lookup y=some .free:=hy
  rcases hy with hy | hy
  ·exact aZi hy
  ·exact absurd rfl (S.bPf _ (PySem.mem_of_lookup hy))
 ·exact Nat.le_of_lt (x.above y c (PySem.mem_of_lookup h))
 ·have hi:i<vs.length:=by
   unfold start at h2;by_cases hi:i<vs.length
   ·exact hi
   ·rw[List.getElem?_append_right (by simpa using hi)] at h2
    rw[List.getElem?_replicate] at h2;split at h2<;>cases h2
  have ha:vs[i]? =some v:=by
   unfold start at h2;rw[List.getElem?_append_left (by simpa using hi),List.getElem?_map] at h2;cases e:vs[i]? with
   | none=>rw[e] at h2;cases h2
   | some a=>rw[e] at h2;cases h2;rfl
  obtain⟨u,hu,rv⟩:=r.get ha;have hp:ps[i]? =some y:=by
   rw[<-S.pre,List.getElem?_take_of_lt (by omega)];exact h1
  have ndP:ps.Nodup:=by rw[<-S.pre];exact S.nd.sublist (List.take_sublist _ _)
  refine⟨u,rv,?_⟩;rcases S.par y (List.mem_of_getElem? hp) with k | k
  ·exact .inl ⟨k,aVr ndP hp hu k⟩
  ·obtain⟨c,e⟩:=aZi (n:=s.heap.objs.size+1) k
   refine .inr ⟨.inl k,c,e,?_⟩;have q:=x.cell y c e;rw[aVt ndP hp hu (by show scope.names.lookup y≠_;rw[k];decide)] at q;exact q
 ·exact e0.hok.fresh (Nat.le_of_lt (x.above y c (PySem.mem_of_lookup h)))
 ·unfold start
  show _=N.length;rw[List.length_append,List.length_map,List.length_replicate];omega
theorem bHy {CX:CXT}{P:Program}{w:World}{K:PySem.W.Frag}{mg:Str->Option Value}{base:Heap}{k:Nat}{f:Addr}{name qual:Str}{params:Arguments}{body:List Stmt}{scope:Scope}{dV kV doc pm cdv ct oc:Value}{an od:Option Addr}
  {osl:Array (Option Value)} {N ps:List Str} {sp:Sp} (lk:K.lookup f=some ⟨oc,od,.func (PySem.W.fnOf name qual params body scope dV kV doc pm an cdv ct),osl⟩) (hcd:PySem.W.codeIn K cdv qual=true) (S:aA0 N ps scope)
  (len: ∀vs H Q E,sp vs H Q E->vs.length=ps.length)
  (hbody: ∀(A:Around) (outer:List Env) (s:Shared) (H:Hp) (vs:List V) (Q:VK) (E:XK),aDm k (A.deeper (envOfC qual scope s.heap.objs.size f cdv))->sp vs H Q E->
   ∃t,PSs (bMr CX P w K mg base N qual scope f cdv A outer s H E) body t/\t {nx:=fun _ H'=>Q .non H',rt:=Q} (start N vs) H):
  bFt P w K mg base CX (k+1) f (PySem.W.fnOf name qual params body scope dV kV doc pm an cdv ct) ps sp:=by
 refine⟨len,fun A outer s H args us vs Q E hr e0 hb r hsp=> ?_⟩;have hl:=len _ _ _ _ hsp;have KX:K.In s.heap:=e0.mod.kin.keeps fun b o e=>(e0.bs b o e).1
 have lim:s.heap.NoLimit:=e0.mod.nolimit.keeps fun b o e=>(e0.bs b o e).1
 have hkind: ∀y∈ps.zip us,scope.names.lookup y.1=some .local\/(scope.names.lookup y.1=some .cell/\((cellsFrom (s.heap.objs.size+1) scope.names []).lookup y.1).isSome=true):=fun⟨n,v⟩ hy=>by
  rcases S.par n (List.of_mem_zip hy).1 with q | q
  ·exact .inl q
  ·exact .inr ⟨q,PySem.W.cellsFrom_some _ _ _ (.inl q)⟩
 refine codeAny_call_function hr.depth (KX _ _ lk) rfl S.co S.gen rfl (PySem.W.codeRec_of KX hcd) (hb _ _ _ _ ?_);refine wpAny_newFunctionEnv_cells S.kind hkind fun env he s1 x=> ?_
 subst he;refine⟨lim.keeps x.toInCall.keep,codeAny_func ?_⟩;obtain⟨t,ht,hq⟩:=hbody A outer s H vs Q E (hr.deeper _) hsp;have I:Inv (bMr CX P w K mg base N qual scope f cdv A outer s H E) [] (start N vs) H s1:=bD1 S hr.hd e0 hl r x;refine wpAny_mono (ht [] s1 (start N vs) H _ I hq) (fun fl s' hs=> ?_) fun e s' hs=>hs
 have fin: ∀{σ':St} {H':Hp} {v:V} {u:Value},Inv (bMr CX P w K mg base N qual scope f cdv A outer s H E) [] σ' H' s'->RelV v u->Q v H'->CE outer P w H s Q u s':=
  fun {σ' H' v u} J rv q=>⟨v,H',J.os,J.bare,J.base,J.hok,rv,q⟩
 cases fl with
 | ret u=>
  obtain⟨v,σ',H',J,rv,q⟩:=hs;exact fin J rv q
 | next=>
  obtain⟨σ',H',J,q⟩:=hs;exact fin (v:=V.non) (u:=Value.none) J rfl q
 | brk=>
  obtain⟨_,_,_,q⟩:=hs;exact False.elim q
 | cont=>
  obtain⟨_,_,_,q⟩:=hs;exact False.elim q
section
variable {X:Cx}{x:Str}{p pos:Pos}{e:Expr}{es:List Expr}{t:TA}{id T:String}{r:List V->Hp->VK->Prop}
def tCB (r:List V->Hp->VK->Prop)(t:TA):TE:=fun σ H Q=>t σ H fun vs H1=>r vs H1 Q
theorem aEu (hc:aJe X (.builtin id) r)(hg:Gl X x)(hm:X.mg x=none)(hv:bootBuiltins x=some (.builtin id))(ha:PA X (e::es) t)(hn:x≠"__name__":=by decide)(hdb:(x==("__debug__":Str))=false:=by decide)
  (he:starEach (e::es) X.env=(false,eval e X.env)::starEach es X.env:=by rfl) (hpl:(backTo pos (starEach es X.env)).any (·.1)=false:=by rfl):PE X (.Call (.Name x p) (e::es) [] pos) (tCB r t):=by
 intro pins s σ H Q I h;refine wpAny_Call_Name_kw (aQ4 I hg hm hv ?_ hn hdb);exact PyProof.Rows.callWith_builtin1 (thn (ha pos pins s σ H _ I h) fun us s1 ⟨vs,H1,I1,r1,q1⟩=>hc pins s1 σ H1 vs us Q I1 r1 q1) he hpl
theorem aIv (hc:aJe X (.type T) r)(hg:Gl X x)(hm:X.mg x=none)(hv:bootBuiltins x=some (.type T))(ha:PA X (e::es) t)(hn:x≠"__name__":=by decide)(hdb:(x==("__debug__":Str))=false:=by decide)
  (he:starEach (e::es) X.env=(false,eval e X.env)::starEach es X.env:=by rfl) (hpl:(backTo pos (starEach es X.env)).any (·.1)=false:=by rfl):PE X (.Call (.Name x p) (e::es) [] pos) (tCB r t):=by
 intro pins s σ H Q I h;refine wpAny_Call_Name_kw (aQ4 I hg hm hv ?_ hn hdb);exact PyProof.Rows.callWith_type1 (thn (ha pos pins s σ H _ I h) fun us s1 ⟨vs,H1,I1,r1,q1⟩=>hc pins s1 σ H1 vs us Q I1 r1 q1) he hpl
end
end L2
namespace HT
open PySem PyProof.Rows
section
variable {prog:Program}{w:World}{A:Around}{E:Value->Shared->Prop}{s:Shared}
theorem bMv {t b:Addr}{vs ws:List Value}{Q:Value->Shared->Prop}(ht:IsTup s.heap t vs.toArray)(hb:IsTup s.heap b ws.toArray)(hv:vs≠[])
  (h1:ws=[]->Q (.ref t) s) (h2:ws≠[]->Q (.ref s.heap.objs.size) {s with heap:=s.heap.push {cls:= .type "tuple",data:= .seq (vs++ws).toArray}})
  (hsz:vs.length+ws.length<=sizeLine):wpAny (model prog w) A (binaryOp .Add (.ref t) (.ref b)) Q E s:=by
 obtain⟨⟨cls,dd,data,sl⟩,ho,hc,n,hd⟩:=id ht;obtain⟨⟨cls2,dd2,data2,sl2⟩,ho2,hc2,n2,hd2⟩:=id hb;simp only at hc hd hc2 hd2;subst hc hd hc2 hd2;have e:vs.toArray++ws.toArray=(vs++ws).toArray:=by simp
 by_cases hw:ws=[]
 ·exact concat_meets ⟨_,ho,rfl⟩ ⟨_,ho2,rfl⟩ noFill_tuple_add seq_tuple_add PySem.F.slot_tuple_add PySem.F.entry_tuple_add (PySem.F.args_tuple_add_2 _ _)
   (tuple_addW1 t b vs.toArray ws.toArray n n2 dd dd2 sl sl2 (by simpa using hv) (by simp[hw])) ⟨ho,ho2,h1 hw⟩
 ·refine concat_meets ⟨_,ho,rfl⟩ ⟨_,ho2,rfl⟩ noFill_tuple_add seq_tuple_add PySem.F.slot_tuple_add PySem.F.entry_tuple_add (PySem.F.args_tuple_add_2 _ _)
   (tuple_addW2 t b vs.toArray ws.toArray n n2 dd dd2 sl sl2 (by simpa using hv) (by simpa using hw) (by rw[List.size_toArray,List.size_toArray];exact hsz)) ⟨ho,ho2,?_⟩
  rw[e];exact h2 hw
def sIx (n d:Nat):Option Int->Nat
 | none=>d
 | some v=>if v<0 then (v+(n:Int)).toNat else min v.toNat n
theorem bB0 (n d k:Nat):sIx n d (some (k:Int))=min k n:=by
 show (if (k:Int)<0 then ((k:Int)+(n:Int)).toNat else min (k:Int).toNat n)=min k n;rw[if_neg (by omega),Int.toNat_natCast]
theorem bB1 (n d:Nat)(hd:d<=n)(o:Option Int):sIx n d o<=n:=by
 cases o with
 | none=>exact hd
 | some v=>
  show (if v<0 then (v+(n:Int)).toNat else min v.toNat n)<=n;by_cases hv:v<0
  ·rw[if_pos hv];omega
  ·rw[if_neg hv];exact Nat.min_le_right _ _
theorem bEx (v:Int)(n d:Nat):(if v<0 then max (v+(n:Int)) 0 else min v (n:Int))=((sIx n d (some v):Nat):Int):=by
 show (if v<0 then max (v+(n:Int)) 0 else min v (n:Int))=(((if v<0 then (v+(n:Int)).toNat else min v.toNat n):Nat):Int);by_cases hv:v<0
 ·simp only[if_pos hv];omega
 ·simp only[if_neg hv];omega
theorem bA5 (lo hi:Option Int)(n:Nat):Builtin.Slice.sliceAdjust lo hi 1 (n:Int)=(((sIx n 0 lo:Nat):Int),((sIx n n hi:Nat):Int)):=by
 have h1:¬((1:Int)<0):=by omega
 unfold Builtin.Slice.sliceAdjust;simp only[h1,if_false];refine Prod.ext ?_ ?_
 ·cases lo with
  | none=>rfl
  | some v=>exact bEx v n 0
 ·cases hi with
  | none=>rfl
  | some v=>exact bEx v n n
theorem bAb (i j:Nat):Builtin.Slice.slicePlaces (i:Int) (j:Int) 1=j-i:=by
 unfold Builtin.Slice.slicePlaces;have h1:(1:Int)>0:=by omega
 simp only[h1,if_true,Int.ediv_one];split<;>omega
theorem aQn {v:Value}{o:Option Int}{Q:Option Int->Shared->Prop}(p:IsPart v o)(h:Q o s):wpAny (model prog w) A (Builtin.Slice.slicePartIndex v) Q E s:=by
 cases p with
 | none=>exact slicePart_none h
 | int i t=>exact slicePart_int h
theorem aIg {sl:Addr}{vl vu:Value}{lo hi:Option Int}{n:Nat}{Q:Int×Int×Nat->Shared->Prop}(hs:s.heap.IsSliceOf sl vl vu .none)(pl:IsPart vl lo)(pu:IsPart vu hi)
  (h:Q (((sIx n 0 lo:Nat):Int),1,sIx n n hi-sIx n 0 lo) s):wpAny (model prog w) A (Builtin.Slice.sliceApplied (.ref sl) (pure (n:Int))) Q E s:=by
 obtain⟨os,hos,hcs,hds⟩:=id hs;unfold Builtin.Slice.sliceApplied Builtin.Slice.sliceFields;refine wpAny_bind (wpAny_bind (wpAny_field hos hds (x:=vl) rfl (wpAny_bind (wpAny_field hos hds (x:=vu) rfl (wpAny_bind (wpAny_field hos hds (x:= .none) rfl (wpAny_pure ?_)))))));refine wpAny_bind (slicePart_none ?_);show wpAny _ _ (if ((1:Int)==0)=true then _ else _) _ _ s;rw[if_neg (by decide)];refine wpAny_bind (aQn pl (wpAny_bind (aQn pu (wpAny_bind (wpAny_pure ?_)))));show wpAny _ _ (match Builtin.Slice.sliceAdjust lo hi 1 (n:Int) with |(lo,hi)=>pure (lo,(1:Int),Builtin.Slice.slicePlaces lo hi 1)) _ _ s;rw[bA5 lo hi n];show wpAny _ _ (pure (((sIx n 0 lo:Nat):Int),(1:Int),Builtin.Slice.slicePlaces ((sIx n 0 lo:Nat):Int) ((sIx n n hi:Nat):Int) 1)) _ _ s;rw[bAb];exact wpAny_pure h
theorem bGn (xs:Array Value)(i k:Nat):((List.range k).filterMap fun (m:Nat)=>xs[((i:Int)+(m:Int)*1).toNat]?).toArray=((xs.toList.drop i).take k).toArray:=by
 have e:(fun (m:Nat)=>xs[((i:Int)+(m:Int)*1).toNat]?)=fun m=>xs[i+m]? :=by
  funext m
  have:((i:Int)+(m:Int)*1).toNat=i+m:=by omega
  rw[this]
 rw[e];have:=pick_run xs i k;rw[List.filterMap_map] at this;have e2:((fun x=>xs[x]?)∘fun x=>i+x)=fun m=>xs[i+m]? :=rfl
 rw[e2] at this;rw[this]
theorem aL2 {t sl:Addr}{items:Array Value}{vl vu:Value}{lo hi:Option Int}{Q:Value->Shared->Prop}(ht:IsTup s.heap t items)(hs:s.heap.IsSliceOf sl vl vu .none)(pl:IsPart vl lo)(pu:IsPart vu hi)
  (hw:¬(sIx items.size 0 lo=0/\sIx items.size items.size hi=items.size))
  (h:Q (.ref s.heap.objs.size) {s with heap:=s.heap.push {cls:= .type "tuple",data:= .seq ((items.toList.drop (sIx items.size 0 lo)).take (sIx items.size items.size hi-sIx items.size 0 lo)).toArray}})
  (hsz:items.size<=sizeLine):wpAny (model prog w) A (getItem (.ref t) (.ref sl)) Q E s:=by
 have bHs:sizeOk (.seq ((items.toList.drop (sIx items.size 0 lo)).take (sIx items.size items.size hi-sIx items.size 0 lo)).toArray):=by
  show ((items.toList.drop (sIx items.size 0 lo)).take (sIx items.size items.size hi-sIx items.size 0 lo)).toArray.size<=sizeLine;rw[List.size_toArray,List.length_take,List.length_drop,Array.length_toList];omega
 have hj:sIx items.size items.size hi<=items.size:=bB1 _ _ (Nat.le_refl _) hi;obtain⟨os,hos,hcs,hds⟩:=id hs;have hTs:s.TypeIs (.ref sl) "slice":=⟨os,hos,hcs⟩;unfold getItem
 try with_reducible refine wpAny_holding ?_
 first | refine wpAny_bind (wpAny_pure ?_) | skip
 refine wpAny_bind (wpAny_sequenceKey ht.typeIs (by decide) ?_);refine wpAny_bind (wpAny_callSpecial?_slot (name:=Str.ofString "__getitem__") ht.typeIs PyProof.Rows.slot_tuple_getitem
  (wpAny_call_entry PyProof.Rows.slot_tuple_getitem ht.typeIs entry_tuple_getitem ?_ (args_tuple_getitem _ _)))
 show wpAny _ _ (Builtin.Tuple.tupleItemsOf (.ref t)>>=_) _ _ s;refine wpAny_bind (tupleItemsOf_ ht ?_);refine wpAny_bind (wpAny_typeOf hTs ?_);rw[if_pos (by decide)];refine wpAny_bind (aIg hs pl pu ?_);have hno:¬((((sIx items.size 0 lo:Nat):Int)==0&&(1:Int)==1&&(sIx items.size items.size hi-sIx items.size 0 lo)==items.size)=true):=by
  intro q;rw[Bool.and_eq_true,Bool.and_eq_true] at q;have q1:((sIx items.size 0 lo:Nat):Int)=0:=eq_of_beq q.1.1;have q2:sIx items.size items.size hi-sIx items.size 0 lo=items.size:=eq_of_beq q.2;exact hw ⟨by omega,by omega⟩
 show wpAny _ _ (if (((sIx items.size 0 lo:Nat):Int)==0&&(1:Int)==1&&(sIx items.size items.size hi-sIx items.size 0 lo)==items.size)=true then _ else _) _ _ s;rw[if_neg hno,bGn]
 first
  | exact wpAny_bind (m:=Builtin.Tuple.tupleExact _) (wpAny_newObj_type (wpAny_pure ⟨_,rfl,wpAny_pure h⟩) bHs)
  | exact wpAny_bind (m:=Builtin.Tuple.tupleExact _) (wpAny_newObj_type (wpAny_bind (wpAny_pure (wpAny_pure ⟨_,rfl,wpAny_pure h⟩))) bHs)
  | exact wpAny_bind (wpAny_bind (m:=Builtin.Tuple.tupleExact _) (wpAny_newObj_type (wpAny_pure (wpAny_pure ⟨_,rfl,wpAny_pure h⟩)) bHs))
  | exact wpAny_bind (wpAny_bind (m:=Builtin.Tuple.tupleExact _) (wpAny_newObj_type (wpAny_pure ⟨_,rfl,wpAny_pure h⟩) bHs))
end
end HT
namespace L2
open PySem PySem.Spec PyProof.Rows
abbrev TO:=St->Hp->(Option Int->Hp->Prop)->Prop
def PO (X:Cx)(e:Option Expr)(t:TO):Prop:=
 ∀(pins:List (Addr×Obj)) (s:Shared) (σ:St) (H:Hp) (Q:Option Int->Hp->Prop),Inv X pins σ H s->t σ H Q->
  wpAny (model X.prog X.w) X.A (evalPart e X.env) (fun u s'=> ∃o H',Inv X pins σ H' s'/\IsPart u o/\Q o H') X.xe s
def bJ7:TO:=fun _ H Q=>Q none H
def bRp (t:TE):TO:=fun σ H Q=>t σ H fun x H1=> ∃i,x= .int i/\Q (some i) H1
section
variable {X:Cx}{e:Expr}{te:TE}{lo hi:Option Expr}{tl th:TO}{pos p2:Pos}
theorem bKt:PO X none bJ7:=by
 intro pins s σ H Q I h;rw[evalPart_none];exact wpAny_pure ⟨none,H,I,.none,h⟩
theorem bKs (h:PE X e te):PO X (some e) (bRp te):=by
 intro pins s σ H Q I hw;rw[evalPart_some];refine thn (h pins s σ H _ I hw) fun u s1 ⟨x,H1,I1,r1,q1⟩=> ?_
 obtain⟨i,rfl,q⟩:=q1;obtain⟨t,rfl⟩:=r1;exact⟨some i,H1,I1,.int i t,q⟩
def SlR (X:Cx)(r:V->Option Int->Option Int->Hp->VK->Prop):Prop:=
 ∀(pins:List (Addr×Obj)) (s:Shared) (σ:St) (H:Hp) (x:V) (v vl vu:Value) (lo hi:Option Int) (sl:Addr) (Q:VK),Inv X pins σ H s->RelV x v->s.heap.IsSliceOf sl vl vu .none->IsPart vl lo->IsPart vu hi->r x lo hi H Q->
  ∃T id,typeLookup (.type T) "__getitem__"=pure (some (.builtin id))/\s.TypeIs v T/\wpAny (model X.prog X.w) X.A (getItem v (.ref sl)) (EP X pins σ Q) X.xe s
theorem SlR.or {r r':V->Option Int->Option Int->Hp->VK->Prop}(h:SlR X r)(h':SlR X r'):SlR X (fun x lo hi H Q=>r x lo hi H Q\/r' x lo hi H Q):=by
 intro pins s σ H x v vl vu lo hi sl Q I rx hs pl pu q;rcases q with q | q
 ·exact h pins s σ H x v vl vu lo hi sl Q I rx hs pl pu q
 ·exact h' pins s σ H x v vl vu lo hi sl Q I rx hs pl pu q
def tSl (r:V->Option Int->Option Int->Hp->VK->Prop)(te:TE)(tl th:TO):TE:=fun σ H Q=>te σ H fun x H1=>tl σ H1 fun l H2=>th σ H2 fun u H3=>r x l u H3 Q
theorem bGo {r:V->Option Int->Option Int->Hp->VK->Prop}(hr:SlR X r)(he:PE X e te)(hl:PO X lo tl)(hu:PO X hi th):PE X (.Subscript e (.Slice lo hi none p2) pos) (tSl r te tl th):=by
 intro pins s σ H Q I h;refine Subscript_ (thn (he pins s σ H _ I h) fun v s1 ⟨x,H1,I1,r1,q1⟩=> ?_);refine wpAny_Slice (thn (hl pins s1 σ H1 _ I1 q1) fun vl s2 ⟨l,H2,I2,pl,q2⟩=>thn (hu pins s2 σ H2 _ I2 q2) fun vu s3 ⟨u,H3,I3,pu,q3⟩=> ?_);rw[evalPart_none];refine wpAny_pure ?_;have I4:Inv X pins σ H3 {s3 with heap:=s3.heap.push {cls:= .type "slice",data:= .fields #[vl,vu,.none]}}:=I3.kept (t':=s3.toks) fun b ob q=>Heap.get?_push_of_some _ q
 obtain⟨T,id,hT,ht,hg⟩:=hr pins {s3 with heap:=s3.heap.push {cls:= .type "slice",data:= .fields #[vl,vu,.none]}} σ H3 x v vl vu l u s3.heap.objs.size Q I4 r1 (Heap.IsSliceOf.new ..) pl pu q3;show wpAny (model X.prog X.w) X.A (subscriptTail e (.Slice lo hi none p2) v (.ref s3.heap.objs.size)) (EP X pins σ Q) X.xe {s3 with heap:=s3.heap.push {cls:= .type "slice",data:= .fields #[vl,vu,.none]}};exact tail_any (ops:=[.ref s3.heap.objs.size,v]) ht hT hg (by with_unfolding_all rfl)
def bJu (xs:List V)(lo hi:Option Int):List V:=(xs.drop (HT.sIx xs.length 0 lo)).take (HT.sIx xs.length xs.length hi-HT.sIx xs.length 0 lo)
theorem aPe (xs:List V)(lo hi:Option Int):(bJu xs lo hi).length<=xs.length:=by
 unfold bJu;rw[List.length_take,List.length_drop];omega
def bUu (K:PySem.W.Frag):V->Option Int->Option Int->Hp->VK->Prop:=fun x lo hi H Q=> ∃a xs,x= .ref a/\SqT K H a xs/\
 ¬(HT.sIx xs.length 0 lo=0/\HT.sIx xs.length xs.length hi=xs.length)/\∀p,H p=none->Q (.ref p) (upd H p (.tup (bJu xs lo hi)))
theorem bNu:SlR X (bUu X.K):=by
 intro pins s σ H x v vl vu lo hi sl Q I rx hs pl pu h;obtain⟨a,xs,rfl,hx,hw,q⟩:=h;cases rx;obtain⟨its,r,ht,hz⟩:=I.tuple hx;have hlen:its.toArray.size=xs.length:=by rw[List.size_toArray];exact r.length.symm
 refine⟨"tuple",_,PyProof.Rows.slot_tuple_getitem.lookup,ht.typeIs,?_⟩;refine HT.aL2 ht hs pl pu (by rw[hlen];exact hw) ?_ (by rw[hlen];exact hz);rw[hlen];refine⟨.ref s.heap.objs.size,_,I.laid (t':=s.toks) (o:= .tup (bJu xs lo hi)) (fun b ob q=>Heap.get?_push_of_some _ q) (Nat.le_refl _) ?_,rfl,q _ (I.hok.fresh (Nat.le_refl _))⟩;exact⟨Nat.le_trans (aPe xs lo hi) hz,_,(r.drop (HT.sIx xs.length 0 lo)).take (HT.sIx xs.length xs.length hi-HT.sIx xs.length 0 lo),bFo.new _ _⟩
def bN8 (K:PySem.W.Frag):R2:=fun x y H Q=> ∃a b xs ys,x= .ref a/\y= .ref b/\SqT K H a xs/\SqT K H b ys/\xs≠[]/\xs.length+ys.length<=sizeLine/\
 (ys=[]->Q (.ref a) H)/\(ys≠[]->∀p,H p=none->Q (.ref p) (upd H p (.tup (xs++ys))))
theorem Vals.aSp {xs:List V}{us:List Value}(r:Vals xs us):us=[]↔xs=[]:=by
 cases r with
 | nil=>simp
 | cons _ _=>simp
theorem bLi:OpR X (binaryOp .Add) (bN8 X.K):=by
 intro pins s σ H x y v u Q I rx ry h;obtain⟨a,b,xs,ys,rfl,rfl,ha,hb,hx,hz,q1,q2⟩:=h;cases rx;cases ry;obtain⟨its,r1,p1,_⟩:=I.tuple ha;obtain⟨its2,r2,p2,_⟩:=I.tuple hb;refine HT.bMv p1 p2 (fun z=>hx (r1.aSp.mp z)) (fun z=>⟨.ref a,H,I,rfl,q1 (r2.aSp.mp z)⟩) (fun z=> ?_) (by rw[<-r1.length,<-r2.length];exact hz);refine⟨.ref s.heap.objs.size,_,I.laid (t':=s.toks) (o:= .tup (xs++ys)) (fun b ob q=>Heap.get?_push_of_some _ q) (Nat.le_refl _) ?_,rfl,q2 (fun w=>z (r2.aSp.mpr w)) _ (I.hok.fresh (Nat.le_refl _))⟩;exact⟨by rw[List.length_append];exact hz,_,r1.append r2,bFo.new _ _⟩
end
def ixN (n:Nat)(i:Int):Option Nat:=if 0<=i then (if i<n then some i.toNat else none) else if-(n:Int)<=i then some (i+n).toNat else none
def atI {α:Type}(xs:List α)(i:Int):Option α:=(ixN xs.length i).bind fun j=>xs[j]?
theorem bL3 {n:Nat}{i:Int}{j:Nat}(h:ixN n i=some j):seqIndex? i n=some j/\j<n/\ -(n:Int)<=i/\i<n:=by
 unfold ixN at h;by_cases h0:0<=i
 ·rw[if_pos h0] at h
  by_cases h1:i<n
  ·rw[if_pos h1] at h
   have e:i.toNat=j:=Option.some.inj h;exact⟨by rw[seqIndex_of h0 h1,e],by omega,by omega,h1⟩
  ·rw[if_neg h1] at h;cases h
 ·rw[if_neg h0] at h
  by_cases h1: -(n:Int)<=i
  ·rw[if_pos h1] at h
   have e:(i+n).toNat=j:=Option.some.inj h;exact⟨by rw[seqIndex_neg (by omega) h1,e],by omega,h1,by omega⟩
  ·rw[if_neg h1] at h;cases h
theorem aXx {α:Type}{xs:List α}{i:Int}{v:α}(h:atI xs i=some v): ∃j,seqIndex? i xs.length=some j/\xs[j]? =some v/\j<xs.length/\ -(xs.length:Int)<=i/\i<xs.length:=by
 unfold atI at h;cases e:ixN xs.length i with
 | none=>rw[e] at h;cases h
 | some j=>
  rw[e] at h;obtain⟨h1,h2,h3,h4⟩:=bL3 e;exact⟨j,h1,h,h2,h3,h4⟩
theorem aPm {α:Type}{xs:List α}{j:Nat}{v:α}(h:xs[j]? =some v):atI xs (j:Int)=some v:=by
 have hj:j<xs.length:=(List.getElem?_eq_some_iff.mp h).1;have e:ixN xs.length (j:Int)=some j:=by
  unfold ixN;rw[if_pos (by omega),if_pos (by omega)];simp
 unfold atI;rw[e];exact h
def bFp (b:Expr):Prop:= ∀o i,subscripted b false o i=operate [o,i] (getItem o i)
def IxR (X:Cx)(r:R2):Prop:=
 ∀(value slice:Expr) (pins:List (Addr×Obj)) (s:Shared) (σ:St) (H:Hp) (x y:V) (v u:Value) (Q:VK),Inv X pins σ H s->RelV x v->RelV y u->r x y H Q->
  subscripted slice false v u=operate [v,u] (getItem v u)->wpAny (model X.prog X.w) X.A (subscriptTail value slice v u) (EP X pins σ Q) X.xe s
def MtR (X:Cx)(id:String)(r:V->List V->Hp->VK->Prop):Prop:=
 ∀(pins:List (Addr×Obj)) (s:Shared) (σ:St) (H:Hp) (x:V) (xs:List V) (v:Value) (us:List Value) (Q:VK),Inv X pins σ H s->RelV x v->Vals xs us->r x xs H Q->
  wpAny (model X.prog X.w) X.A (call (.builtin id) (v::us)) (EP X pins σ Q) X.xe s
section
variable {X:Cx}{a b:Expr}{ta tb:TE}{pos:Pos}
theorem IxR.or {r r':R2}(h:IxR X r)(h':IxR X r'):IxR X (fun x y H Q=>r x y H Q\/r' x y H Q):=by
 intro value slice pins s σ H x y v u Q I rx ry q hs;rcases q with q | q
 ·exact h value slice pins s σ H x y v u Q I rx ry q hs
 ·exact h' value slice pins s σ H x y v u Q I rx ry q hs
theorem bSc {r:R2}(hr:IxR X r)(ha:PE X a ta)(hb:PE X b tb)(hs:bFp b):PE X (.Subscript a b pos) (tOp r ta tb):=by
 intro pins s σ H Q I h;exact Subscript_ (bTc ha hb I h fun v u s2 x y H2 I2 rx ry q=>hr a b pins s2 σ H2 x y v u Q I2 rx ry q (hs _ _))
def bTp (K:PySem.W.Frag):R2:=fun x y H Q=> ∃p xs i v,x= .ref p/\y= .int i/\SqL K H p xs/\atI xs i=some v/\Q v H
def bTn (K:PySem.W.Frag):R2:=fun x y H Q=> ∃p xs i v,x= .ref p/\y= .int i/\SqT K H p xs/\atI xs i=some v/\Q v H
def bTo:R2:=fun x y H Q=> ∃z i c,x= .str z/\y= .int i/\z.length<=sizeLine/\atI z.cps.toList i=some c/\Q (.str ⟨#[c]⟩) H
theorem bL2:IxR X (bTp X.K):=by
 intro value slice pins s σ H x y v u Q I rx ry h hs;obtain⟨p,xs,i,z,rfl,rfl,hq,he,q⟩:=h;cases rx;obtain⟨t,rfl⟩:=ry;obtain⟨its,r,pl,hz⟩:=I.list hq;obtain⟨j,h1,h2,h3,h4,h5⟩:=aXx he;obtain⟨w,ew,rw'⟩:=r.get h2;have hl:=r.length;have hn:=aUu;have fin:EP X pins σ Q w s:=⟨z,H,I,rw',q⟩;by_cases h0:0<=i
 ·have hj:i.toNat=j:=by
   rw[seqIndex_of h0 h5] at h1;exact Option.some.inj h1
  exact item_listR pl.isList h0 (by omega) (by rw[hj];simpa using ew) fin hs
 ·have hj:(i+(its.toArray.size:Int)).toNat=j:=by
   rw[seqIndex_neg (by omega) h4] at h1;rw[List.size_toArray,<-hl];exact Option.some.inj h1
  exact subscriptTail_builtinR (x:=w) pl.isList.typeIs slot_list_getitem.lookup
   (wpAny_getItem_list_neg (Q:=fun r s'=>r=w/\EP X pins σ Q r s') pl.isList (by omega) (by rw[List.size_toArray]<;>omega) (by omega) (by rw[hj];simpa using ew) ⟨rfl,fin⟩) hs
theorem bDo:IxR X (bTn X.K):=by
 intro value slice pins s σ H x y v u Q I rx ry h hs;obtain⟨p,xs,i,z,rfl,rfl,hq,he,q⟩:=h;cases rx;obtain⟨t,rfl⟩:=ry;obtain⟨its,r,pl,hz⟩:=I.tuple hq;obtain⟨j,h1,h2,h3,h4,h5⟩:=aXx he;obtain⟨w,ew,rw'⟩:=r.get h2;have hl:=r.length;have hn:=aUu;have fin:EP X pins σ Q w s:=⟨z,H,I,rw',q⟩;exact subscriptTail_builtinR (x:=w) pl.typeIs slot_tuple_getitem.lookup
  (getItem_tuple (j:=j) (Q:=fun r s'=>r=w/\EP X pins σ Q r s') pl (by omega) (by omega) (by rw[List.size_toArray,<-hl];exact h1) (by simpa using ew) ⟨rfl,fin⟩) hs
theorem bP3:IxR X bTo:=by
 intro value slice pins s σ H x y v u Q I rx ry h hs;obtain⟨z,i,c,rfl,rfl,hz,he,q⟩:=h;obtain⟨t,rfl⟩:=rx;obtain⟨t',rfl⟩:=ry;obtain⟨j,h1,h2,h3,h4,h5⟩:=aXx he;have hl:z.cps.toList.length=z.length:=by simp[Str.length]
 rw[hl] at h1 h4 h5;have hn:=aUu;exact tail_any (typeIs_str s z t) slot_str_getitem.lookup (getItem_str (c:=c) (by
  have e1:decide (i< -(2^63:Int))=false:=decide_eq_false (by omega);have e2:decide (i≥2^63)=false:=decide_eq_false (by omega);rw[e1,e2,Bool.or_false]) (by rw[h1];simpa using h2) ⟨.str ⟨#[c]⟩,H,I.tok _,⟨_,rfl⟩,q⟩) hs
def rIx (K:PySem.W.Frag):R2:=fun x y H Q=>bTp K x y H Q\/bTn K x y H Q\/bTo x y H Q
theorem bP4:IxR X (rIx X.K):=bL2.or (bDo.or bP3)
theorem aT1 (lo hi:Option Int)(n:Nat):(sliceBounds lo hi none n).1=((HT.sIx n 0 lo:Nat):Int)/\(sliceBounds lo hi none n).2.1=((HT.sIx n n hi:Nat):Int)/\(sliceBounds lo hi none n).2.2=1:=by
 refine⟨?_,?_,rfl⟩
 ·cases lo with
  | none=>simp[sliceBounds,HT.sIx]
  | some i=>
   simp only[sliceBounds,HT.sIx,Option.getD_none,show (1:Int)>0 by decide,if_true];by_cases h:i<0
   ·simp only[h,if_true]<;>omega
   ·simp only[h,if_false]<;>omega
 ·cases hi with
  | none=>simp[sliceBounds,HT.sIx]
  | some i=>
   simp only[sliceBounds,HT.sIx,Option.getD_none,show (1:Int)>0 by decide,if_true];by_cases h:i<0
   ·simp only[h,if_true]<;>omega
   ·simp only[h,if_false]<;>omega
theorem aRw (its:List Value)(lo hi:Option Int):slicePick its.toArray lo hi none=((its.drop (HT.sIx its.length 0 lo)).take (HT.sIx its.length its.length hi-HT.sIx its.length 0 lo)).toArray:=by
 obtain⟨h1,h2,h3⟩:=aT1 lo hi its.toArray.size;unfold slicePick;rw[h1,h2,h3];simp only[sliceRange_one,pick_run,List.size_toArray]<;>rfl
def bUw (K:PySem.W.Frag):V->Option Int->Option Int->Hp->VK->Prop:=fun x lo hi H Q=> ∃a xs,x= .ref a/\SqL K H a xs/\∀p,H p=none->Q (.ref p) (upd H p (.lst (bJu xs lo hi)))
theorem bKe:SlR X (bUw X.K):=by
 intro pins s σ H x v vl vu lo hi sl Q I rx hs pl pu h;obtain⟨a,xs,rfl,hx,q⟩:=h;cases rx;obtain⟨its,r,ht,hz⟩:=I.list hx;have hlen:=r.length;refine⟨"list",_,slot_list_getitem.lookup,ht.isList.typeIs,?_⟩;refine wpAny_getItem_list_slice ht.isList hs pl pu .none (by simp) ?_ (by rw[List.size_toArray]<;>omega);rw[aRw,<-hlen];refine⟨.ref s.heap.objs.size,_,I.laid (t':=s.toks) (o:= .lst (bJu xs lo hi)) (fun b ob q=>Heap.get?_push_of_some _ q) (Nat.le_refl _) ?_,rfl,q _ (I.hok.fresh (Nat.le_refl _))⟩;exact⟨Nat.le_trans (aPe xs lo hi) hz,_,0,(r.drop (HT.sIx xs.length 0 lo)).take (HT.sIx xs.length xs.length hi-HT.sIx xs.length 0 lo),Heap.get?_push_size _ rfl⟩
def aQk:V->Bool
 | .non=>true
 | .bl _=>true
 | .int _=>true
 | .str _=>true
 | _=>false
def eqV:V->V->Bool
 | .non,.non=>true
 | .bl a,.bl b=>a==b
 | .bl a,.int b=>(if a then 1 else 0)==b
 | .int a,.bl b=>a==(if b then 1 else 0)
 | .int a,.int b=>a==b
 | .str a,.str b=>a==b
 | _,_=>false
theorem bQi {A:Around}{s:Shared}{y x:V}{u v:Value}(ry:RelV y u)(rx:RelV x v)(fy:aQk y=true)(fx:aQk x=true):SeqAt.EqAt A s u v (eqV y x):=by
 cases y with
 | non=>
  cases ry;cases x with
  | non=>cases rx;exact SeqAt.EqAt.same _
  | bl b=>cases rx;exact SeqAt.EqAt.none_bool b
  | int b=>obtain⟨t,rfl⟩:=rx;exact SeqAt.EqAt.none_int b t
  | str b=>obtain⟨t,rfl⟩:=rx;exact SeqAt.EqAt.none_str b t
  | _=>exact absurd (show false=true from fx) Bool.false_ne_true
 | bl a=>
  cases ry;cases x with
  | non=>cases rx;exact SeqAt.EqAt.bool_none a
  | bl b=>cases rx;exact SeqAt.EqAt.bool_bool a b
  | int b=>obtain⟨t,rfl⟩:=rx;exact SeqAt.EqAt.bool_int a b t
  | str b=>obtain⟨t,rfl⟩:=rx;exact SeqAt.EqAt.bool_str a b t
  | _=>exact absurd (show false=true from fx) Bool.false_ne_true
 | int a=>
  obtain⟨t',rfl⟩:=ry;cases x with
  | non=>cases rx;exact SeqAt.EqAt.int_none a t'
  | bl b=>cases rx;exact SeqAt.EqAt.int_bool a t' b
  | int b=>obtain⟨t,rfl⟩:=rx;exact SeqAt.EqAt.int_int a t' b t
  | str b=>obtain⟨t,rfl⟩:=rx;exact SeqAt.EqAt.int_str a t' b t
  | _=>exact absurd (show false=true from fx) Bool.false_ne_true
 | str a=>
  obtain⟨t',rfl⟩:=ry;cases x with
  | non=>cases rx;exact SeqAt.EqAt.str_none a t'
  | bl b=>cases rx;exact SeqAt.EqAt.str_bool a t' b
  | int b=>obtain⟨t,rfl⟩:=rx;exact SeqAt.EqAt.str_int a t' b t
  | str b=>obtain⟨t,rfl⟩:=rx;exact SeqAt.EqAt.str_str a t' b t
  | _=>exact absurd (show false=true from fx) Bool.false_ne_true
 | _=>exact absurd (show false=true from fy) Bool.false_ne_true
def eqU (x:V)(u:Value):Bool:=match u with
 | .none=>eqV .non x
 | .bool b=>eqV (.bl b) x
 | .int i _=>eqV (.int i) x
 | .str z _=>eqV (.str z) x
 | _=>false
theorem bJp {x y:V}{u:Value}(r:RelV y u)(f:aQk y=true):eqU x u=eqV y x:=by
 cases y with
 | non=>cases r;rfl
 | bl b=>cases r;rfl
 | int i=>obtain⟨t,rfl⟩:=r;rfl
 | str z=>obtain⟨t,rfl⟩:=r;rfl
 | _=>exact absurd (show false=true from f) Bool.false_ne_true
theorem aPn {x:V}: ∀{xs:List V} {us:List Value},Vals xs us->xs.all aQk=true->us.any (eqU x)=xs.any fun y=>eqV y x
 | _,_,.nil,_=>rfl
 | y::xs,u::us,.cons r t,f=>by
  rw[List.all_cons,Bool.and_eq_true] at f;rw[List.any_cons,List.any_cons,bJp r f.1,aPn t f.2]
theorem aK6 {A:Around}{s:Shared}{x:V}{v:Value}(rx:RelV x v)(fx:aQk x=true): ∀{xs:List V} {us:List Value},Vals xs us->xs.all aQk=true->∀u∈us,SeqAt.EqAt A s u v (eqU x u)
 | _,_,.nil,_=>fun u hu=>by cases hu
 | y::xs,u::us,.cons r t,f=>fun u' hu=>by
  rw[List.all_cons,Bool.and_eq_true] at f;rcases List.mem_cons.mp hu with rfl | hu
  ·rw[bJp r f.1];exact bQi r rx f.1 fx
  ·exact aK6 rx fx t f.2 u' hu
def inV (x:V)(xs:List V):Bool:=xs.any fun y=>eqV y x
def rIn (K:PySem.W.Frag)(neg:Bool):R2:=fun x y H Q=> ∃p xs,y= .ref p/\(SqL K H p xs\/SqT K H p xs)/\aQk x=true/\xs.all aQk=true/\Q (.bl (if neg then !inV x xs else inV x xs)) H
theorem bCz:OpR X (compareOp .In) (rIn X.K false):=by
 intro pins s σ H x y v u Q I rx ry h;obtain⟨p,xs,rfl,hq,fx,fs,q⟩:=h;cases ry;rcases hq with hq | hq
 ·obtain⟨its,r,pl,hz⟩:=I.list hq
  refine SeqAt.in_listAt (eqU x) pl.isList (fun w hw=>aK6 rx fx r fs w (by simpa using hw)) ⟨.bl _,H,I,rfl,?_⟩;rw[show its.toArray.any (eqU x)=its.any (eqU x) by simp,aPn r fs];exact q
 ·obtain⟨its,r,pl,hz⟩:=I.tuple hq
  refine SeqAt.in_tupleAt (eqU x) pl (fun w hw=>aK6 rx fx r fs w (by simpa using hw)) ⟨.bl _,H,I,rfl,?_⟩;rw[show its.toArray.any (eqU x)=its.any (eqU x) by simp,aPn r fs];exact q
theorem aUg:OpR X (compareOp .NotIn) (rIn X.K true):=by
 intro pins s σ H x y v u Q I rx ry h;obtain⟨p,xs,rfl,hq,fx,fs,q⟩:=h;cases ry;rcases hq with hq | hq
 ·obtain⟨its,r,pl,hz⟩:=I.list hq
  refine SeqAt.notIn_listAt (eqU x) pl.isList (fun w hw=>aK6 rx fx r fs w (by simpa using hw)) ⟨.bl _,H,I,rfl,?_⟩;rw[show its.toArray.any (eqU x)=its.any (eqU x) by simp,aPn r fs];exact q
 ·obtain⟨its,r,pl,hz⟩:=I.tuple hq
  refine SeqAt.notIn_tupleAt (eqU x) pl (fun w hw=>aK6 rx fx r fs w (by simpa using hw)) ⟨.bl _,H,I,rfl,?_⟩;rw[show its.toArray.any (eqU x)=its.any (eqU x) by simp,aPn r fs];exact q
theorem aVj:aJe X (.builtin "len") (fun xs H Q=> ∃p ys,xs=[.ref p]/\(SqL X.K H p ys\/SqT X.K H p ys)/\Q (.int ys.length) H):=by
 intro pins s σ H xs us Q I r h;obtain⟨p,ys,rfl,hq,q⟩:=h;obtain⟨u,rfl,rx⟩:=vals1 r;cases rx;have hn:=aUu;rcases hq with hq | hq
 ·obtain⟨its,r',pl,hz⟩:=I.list hq
  have hlen:=r'.length;exact Calls.call_len_list pl.isList (by simp only[List.size_toArray]<;>omega) ⟨.int ys.length,H,I.tok _,⟨s.toks+1,by rw[List.size_toArray,hlen]⟩,q⟩
 ·obtain⟨its,r',pl,hz⟩:=I.tuple hq
  have hlen:=r'.length;exact len_tuple pl (by simp only[List.size_toArray]<;>omega) ⟨.int ys.length,H,I.tok _,⟨s.toks+1,by rw[List.size_toArray,hlen]⟩,q⟩
theorem aVi:aJe X (.type "list") (fun xs H Q=> ∃p ys,xs=[.ref p]/\(SqL X.K H p ys\/SqT X.K H p ys)/\∀l,H l=none->Q (.ref l) (upd H l (.lst ys))):=by
 intro pins s σ H xs us Q I r h;obtain⟨p,ys,rfl,hq,q⟩:=h;obtain⟨u,rfl,rx⟩:=vals1 r;cases rx;have fin: ∀(its:List Value),Vals ys its->ys.length<=sizeLine->∀(h':Heap) (c':Nat),(∀b o',s.heap.get? b=some o'->h'.get? b=some o')->
   h'.get? s.heap.objs.size=some {cls:= .type "list",dict:=none,data:= .seq its.toArray c',slots:= #[]}->EP X pins σ Q (.ref s.heap.objs.size) {s with heap:=h'}:=fun its r' hz h' c' kp e=>
  ⟨.ref s.heap.objs.size,_,I.laid (t':=s.toks) kp (Nat.le_refl _) (show aDb X.prog X.w _ h' _ (.lst ys) from⟨hz,its,c',r',e⟩),rfl,q _ (I.hok.fresh (Nat.le_refl _))⟩
 rcases hq with hq | hq
 ·obtain⟨its,r',pl,hz⟩:=I.list hq
  have hlen:=r'.length;obtain⟨o,ho,hc,n,hd⟩:=pl.isList;exact call_list_seq p (.inl rfl) ho hc hd (fun h' c' kp e=>fin its r' hz h' c' kp e) (by simp only[List.size_toArray]<;>omega)
 ·obtain⟨its,r',pl,hz⟩:=I.tuple hq
  have hlen:=r'.length;obtain⟨o,ho,hc,n,hd⟩:=pl;exact call_list_seq p (.inr rfl) ho hc hd (fun h' c' kp e=>fin its r' hz h' c' kp e) (by simp only[List.size_toArray]<;>omega)
theorem aTg:aJe X (.type "tuple") (fun xs H Q=> ∃p ys,xs=[.ref p]/\((SqL X.K H p ys/\∀l,H l=none->Q (.ref l) (upd H l (.tup ys)))\/(SqT X.K H p ys/\Q (.ref p) H))):=by
 intro pins s σ H xs us Q I r h;obtain⟨p,ys,rfl,h⟩:=h;obtain⟨u,rfl,rx⟩:=vals1 r;cases rx;rcases h with⟨hq,q⟩ |⟨hq,q⟩
 ·obtain⟨its,r',pl,hz⟩:=I.list hq
  have hlen:=r'.length;refine call_tuple_list pl.isList (fun h' kp=> ?_) (by simp only[List.size_toArray]<;>omega);have I1:Inv X pins σ H {s with heap:=h'}:=I.kept (t':=s.toks) kp;have I2:Inv X pins σ (upd H h'.objs.size (.tup ys)) {s with heap:=h'.push {cls:= .type "tuple",data:= .seq its.toArray}}:=
   I1.laid (t':=s.toks) (fun b o e=>Heap.get?_push_of_some _ e) (Nat.le_refl _) (show aDb X.prog X.w _ _ _ (.tup ys) from⟨hz,its,r',bFo.new _ _⟩)
  exact⟨.ref h'.objs.size,_,I2,rfl,q _ (I1.hok.fresh (Nat.le_refl _))⟩
 ·obtain⟨its,r',pl,hz⟩:=I.tuple hq
  exact call_tuple_same pl ⟨.ref p,H,I,rfl,q⟩
def tyV (K:PySem.W.Frag)(T:String)(x:V)(H:Hp):Prop:=match x with
 | .str _=>T="str"
 | .int _=>T="int"
 | .ref p=>(T="list"/\∃xs,SqL K H p xs)\/(T="tuple"/\∃o,K.lookup p=some o/\o.cls= .type "tuple"/\o.dict=none)\/
   (T="dict"/\((∃kvs,H p=some (.dK kvs))\/∃kvs,H p=some (.dT kvs)))\/(T="set"/\∃S n,H p=some (.set S n))
 | _=>False
theorem bNh {pins:List (Addr×Obj)}{σ:St}{H:Hp}{s:Shared}{T:String}{x:V}{v:Value}(I:Inv X pins σ H s)(r:RelV x v)(ty:tyV X.K T x H):
  s.TypeIs v T/\∀a,v= .ref a->∃ob,s.heap.get? a=some ob/\ob.dict=none:=by
 cases x with
 | str z=>
  obtain⟨t,rfl⟩:=r;cases (show T="str" from ty);exact⟨typeIs_str s z t,fun _ e=>nomatch e⟩
 | int i=>
  obtain⟨t,rfl⟩:=r;cases (show T="int" from ty);exact⟨typeIs_int s i t,fun _ e=>nomatch e⟩
 | ref p=>
  cases r;rcases ty with⟨rfl,xs,hq⟩ |⟨rfl,o,hk,hc,hd⟩ |⟨rfl,hk⟩ |⟨rfl,S,n,hk⟩
  ·obtain⟨its,_,pl,_⟩:=I.list hq
   refine⟨pl.isList.typeIs,fun a e=> ?_⟩;cases e;obtain⟨o,n,e,c,hd,_⟩:=pl;exact⟨o,e,hd⟩
  ·refine⟨⟨o,I.kIn p o hk,hc⟩,fun a e=> ?_⟩
   cases e;exact⟨o,I.kIn _ o hk,hd⟩
  ·have z: ∃o,s.heap.get? p=some o/\o.ExactDict:=by
    rcases hk with⟨kvs,hk⟩ |⟨kvs,hk⟩
    ·obtain⟨_,_,_,_,o,_,_,e,ex,_⟩:=I.hok p _ hk
     exact⟨o,e,ex⟩
    ·obtain⟨_,_,_,_,o,_,_,e,ex,_⟩:=I.hok p _ hk
     exact⟨o,e,ex⟩
   obtain⟨o,e,ex⟩:=z;refine⟨⟨o,e,ex.1⟩,fun a e2=> ?_⟩;cases e2;exact⟨o,e,ex.2.1⟩
  ·obtain⟨⟨o,_,_,_,e,ex,_⟩,_⟩:=I.hok p _ hk
   refine⟨⟨o,e,ex.1⟩,fun a e2=> ?_⟩;cases e2;exact⟨o,e,ex.2.1⟩
 | _=>exact False.elim ty
def tBM (K:PySem.W.Frag)(T:String)(r:V->List V->Hp->VK->Prop)(to:TE)(t:TA):TE:=fun σ H Q=>to σ H fun x H1=>tyV K T x H1/\t σ H1 fun xs H2=>r x xs H2 Q
variable {o e:Expr}{es:List Expr}{to:TE}{t:TA}{name:Str}{apos cpos:Pos}{T id:String}{r:V->List V->Hp->VK->Prop}
theorem bOw (pa:PlainAttrs T)(slot:Slot T name id)(hty:typeOf (.builtin id)=pure (.type "method_descriptor"))(hm:MtR X id r)(ho:PE X o to)(ha:PA X (e::es) t)
  (hbase:attributeBase o name X.env (eval o X.env)=eval o X.env:=by rfl)
  (hfew:((backTo cpos (starEach (e::es) X.env)).all (fun x=> !x.1)&&(backToKw cpos (keywordEach [] X.env)).all (fun x=>x.1.isSome)
   &&decide ((e::es).length+([]:List Keyword).length+(if ([]:List Keyword).isEmpty then 0 else 1)<30))=true:=by rfl)
  (hline:(apos.endLine==cpos.line)=true:=by rfl) (hs:starEach (e::es) X.env=(false,eval e X.env)::starEach es X.env:=by rfl) (hplain:(backTo cpos (starEach es X.env)).any (·.1)=false:=by rfl):
  PE X (.Call (.Attribute o name apos) (e::es) [] cpos) (tBM X.K T r to t):=by
 intro pins s σ H Q I h;refine wpAny_Call_method_late hbase hfew hline rfl (thn (ho pins s σ H _ I h) fun v s1 ⟨x,H1,I1,r1,ty,q1⟩=> ?_);obtain⟨h1,h2⟩:=bNh I1 r1 ty;refine⟨T,id,pa,slot,hty,h1,h2,?_⟩;have hA:=ha cpos pins s1 σ H1 _ I1 q1;rw[hs] at hA⊢;refine Calls.callWith_builtin (by show (false ||(backTo cpos (starEach es X.env)).any (·.1))=false;rw[hplain]<;>rfl) (Calls.evalArgs_plain ?_);exact thn hA fun us s2 ⟨vs,H2,I2,r2,q2⟩=>hm pins s2 σ H2 x vs v us Q I2 r1 r2 q2
end
def MtM (X:Cx)(id:String)(r:V->List V->Hp->VK->Prop):Prop:=
 ∀(pins:List (Addr×Obj)) (s:Shared) (σ:St) (H:Hp) (x:V) (xs:List V) (v:Value) (us:List Value) (Q:VK),Inv X pins σ H s->RelV x v->Vals xs us->r x xs H Q->
  wpAny (model X.prog X.w) X.A (call (.builtin id) (v::us)) (EP X pins σ Q) X.xe s
theorem Vals.one {x:V}{us:List Value}(h:Vals [x] us): ∃u,us=[u]/\RelV x u:=by
 cases h with | cons r t=>cases t;exact⟨_,rfl,r⟩
section
variable {X:Cx}{pins:List (Addr×Obj)}{σ:St}{H:Hp}{s:Shared}{l b:Addr}{xs ys zs:List V}
theorem Inv.bSv {its its':List Value}{n:Nat}{f:Array Value->Array Value}{t':Nat}(I:Inv X pins σ H s)(hH:H l=some (.lst xs))
  (e:s.heap.get? l=some {cls:= .type "list",data:= .seq its.toArray n}) (hf:f its.toArray=its'.toArray) (hv:Vals ys its') (hz:ys.length<=sizeLine):
  Inv X pins σ (upd H l (.lst ys)) {s with heap:=s.heap.update l (Obj.mapSeq f),toks:=t'}:=by
 have q:=PySem.IsL.update e f;rw[hf] at q;refine I.write (x:=l) (e:=l) (by rw[hH];exact trivial) (.inl rfl) (fun b' u hb hu=>(Heap.get?_update_other s.heap (Obj.mapSeq f) (Ne.symm hb)).trans hu) ⟨_,q⟩ ?_;exact⟨hz,its',_,hv,q⟩
theorem Inv.bTx {its:List Value}{t':Nat}(I:Inv X pins σ H s)(hv:Vals ys its)(hz:ys.length<=sizeLine):
  Inv X pins σ (upd H s.heap.objs.size (.lst ys)) {s with heap:=s.heap.push {cls:= .type "list",data:= .seq its.toArray},toks:=t'}:=
 I.laid (fun _ _ q=>Heap.get?_push_of_some _ q) (Nat.le_refl _) ⟨hz,its,0,hv,Heap.get?_push_size _ rfl⟩
theorem Inv.fresh (I:Inv X pins σ H s):H s.heap.objs.size=none:=I.hok.fresh (Nat.le_refl _)
theorem Inv.bTw (I:Inv X pins σ H s)(hH:H l=some (.lst xs)):xs.length<=sizeLine/\∃(its:List Value) (n:Nat),Vals xs its/\xs.length=its.length/\s.heap.get? l=some {cls:= .type "list",data:= .seq its.toArray n}:=by
 obtain⟨z,its,n,r,e⟩:=I.hok l _ hH;exact⟨z,its,n,r,r.length,e⟩
theorem aYo {n:Nat}(h:n<=sizeLine):Builtin.List.listTooLong n=false:=by
 unfold Builtin.List.listTooLong;exact decide_eq_false (by omega)
end
section
variable {X:Cx}
def bCe:V->List V->Hp->VK->Prop:=fun x vs H Q=> ∃l xs y,x= .ref l/\vs=[y]/\H l=some (.lst xs)/\xs.length<sizeLine/\Q .non (upd H l (.lst (xs++ [y])))
theorem aUn:MtM X "list.append" bCe:=by
 intro pins s σ H x vs v us Q I rx rv h;obtain⟨l,xs,y,rfl,rfl,hH,hz,q⟩:=h;cases rx;obtain⟨u,rfl,ru⟩:=rv.one;obtain⟨z,its,n,r,hl,e⟩:=I.bTw hH;refine call_meets F.slot_list_append ⟨_,e,rfl⟩ F.entry_list_append (F.args_list_append_2 _ _) (PySem.list_append l its.toArray n u (by rw[List.size_toArray];omega)) ⟨e,?_⟩;refine⟨.non,_,I.bSv (its':=its++ [u]) hH e (by simp) (r.append (.cons ru .nil)) ?_,rfl,q⟩;rw[List.length_append,List.length_singleton];omega
end
section
variable {κ:Type}[DecidableEq κ]
def aKl (kvs:List (κ×V))(k:κ):Option V:=(kvs.find? fun kv=>decide (kv.1=k)).map (·.2)
def putK (kvs:List (κ×V))(k:κ)(v:V):List (κ×V):=
 if (kvs.any fun kv=>decide (kv.1=k))=true then kvs.map (fun kv=>if kv.1=k then (kv.1,v) else kv) else kvs++ [(k,v)]
def aVa (kvs:List (κ×V))(k:κ):List (κ×V):=kvs.filter fun kv=>decide (kv.1≠k)
theorem aRm {p:κ×V}{r:List (κ×V)}{k:κ}(e:p.1=k):aKl (p::r) k=some p.2:=by simp[aKl,List.find?_cons,e]
theorem aRn {p:κ×V}{r:List (κ×V)}{k:κ}(e:¬p.1=k):aKl (p::r) k=aKl r k:=by simp[aKl,List.find?_cons,e]
theorem aX6 (k:κ): ∀kvs:List (κ×V),(kvs.any fun kv=>decide (kv.1=k))=(aKl kvs k).isSome
 | []=>rfl
 | p::r=>by
  rw[List.any_cons];by_cases e:p.1=k
  ·simp only[aRm e,decide_eq_true e,Bool.true_or,Option.isSome_some]
  ·rw[aRn e,decide_eq_false e,Bool.false_or];exact aX6 k r
theorem aOt (kvs:List (κ×V))(k:κ)(v:V):(putK kvs k v).length<=kvs.length+1:=by
 unfold putK;split
 ·rw[List.length_map];omega
 ·rw[List.length_append,List.length_cons,List.length_nil];omega
theorem aTl.aO2 {o:Option V}{u:Option Value}(r:aTl o u):o.isSome=u.isSome:=by
 cases o with
 | none=>cases u with
  | none=>rfl
  | some _=>exact (show False from r).elim
 | some _=>cases u with
  | none=>exact (show False from r).elim
  | some _=>rfl
theorem aTl.getD {o:Option V}{u:Option Value}{d:V}{d':Value}(r:aTl o u)(rd:RelV d d'):RelV (o.getD d) (u.getD d'):=by
 cases o with
 | none=>cases u with
  | none=>exact rd
  | some _=>exact (show False from r).elim
 | some _=>cases u with
  | none=>exact (show False from r).elim
  | some _=>exact r
theorem KV.val {kvs:List (κ×V)}{vs:List (κ×Value)}(r:KV kvs vs)(k:κ):aTl (aKl kvs k) (valueAt vs k):=by
 unfold KV at r
 induction r with
 | nil=>exact True.intro
 | @cons p q ps qs h t ih=>
  obtain⟨h1,h2⟩:=h;by_cases e:p.1=k
  ·have e':q.1=k:=h1.symm.trans e
   have b:valueAt (q::qs) k=some q.2:=by simp[valueAt,List.find?_cons,e']
   rw[aRm e,b];exact h2
  ·have e':¬q.1=k:=fun z=>e (h1.trans z)
   have b:valueAt (q::qs) k=valueAt qs k:=by simp[valueAt,List.find?_cons,e']
   rw[aRn e,b];exact ih
theorem KV.any {kvs:List (κ×V)}{vs:List (κ×Value)}(r:KV kvs vs)(k:κ):(kvs.any fun kv=>decide (kv.1=k))=vs.any fun kv=>decide (kv.1=k):=by
 unfold KV at r
 induction r with
 | nil=>rfl
 | cons h t ih=>rw[List.any_cons,List.any_cons,ih,h.1]
theorem KV.repl {kvs:List (κ×V)}{vs:List (κ×Value)}(r:KV kvs vs)(k:κ){y:V}{u:Value}(ry:RelV y u):
  KV (kvs.map fun kv=>if kv.1=k then (kv.1,y) else kv) (vs.map fun kv=>if kv.1=k then (kv.1,u) else kv):=by
 unfold KV at r⊢
 induction r with
 | nil=>exact .nil
 | @cons p q ps qs h t ih=>
  rw[List.map_cons,List.map_cons];refine .cons ?_ ih;obtain⟨h1,h2⟩:=h;by_cases e:p.1=k
  ·rw[if_pos e,if_pos (h1.symm.trans e)];exact⟨h1,ry⟩
  ·rw[if_neg e,if_neg (fun z=>e (h1.trans z))];exact⟨h1,h2⟩
theorem KV.put {kvs:List (κ×V)}{vs:List (κ×Value)}(r:KV kvs vs)(k:κ){y:V}{u:Value}(ry:RelV y u):KV (putK kvs k y) (stored vs k u):=by
 unfold putK stored;rw[r.any k];by_cases e:(vs.any fun kv=>decide (kv.1=k))=true
 ·rw[if_pos e,if_pos e];exact r.repl k ry
 ·rw[if_neg e,if_neg e];exact Paired.snoc r ⟨rfl,ry⟩
theorem KV.drop {kvs:List (κ×V)}{vs:List (κ×Value)}(r:KV kvs vs)(k:κ):KV (aVa kvs k) (without vs k):=by
 unfold KV at r⊢;unfold aVa without
 induction r with
 | nil=>exact .nil
 | @cons p q ps qs h t ih=>
  obtain⟨h1,h2⟩:=h;rw[List.filter_cons,List.filter_cons];by_cases e:p.1=k
  ·have a:¬decide (p.1≠k)=true:=by simp[e]
   have b:¬decide (q.1≠k)=true:=by simp[h1.symm.trans e]
   rw[if_neg a,if_neg b];exact ih
  ·have e':¬q.1=k:=fun z=>e (h1.trans z)
   have a:decide (p.1≠k)=true:=by simp[e]
   have b:decide (q.1≠k)=true:=by simp[e']
   rw[if_pos a,if_pos b];exact .cons ⟨h1,h2⟩ ih
theorem KV.length {kvs:List (κ×V)}{vs:List (κ×Value)}(r:KV kvs vs):kvs.length=vs.length:=Paired.length r
theorem bH4 (kvs:List (κ×V))(k:κ):(aVa kvs k).length<=kvs.length:=List.length_filter_le _ _
end
theorem bAs {P:Program}{w:World}{k:Key}{u:Value}(r:RelV (kV k) u):(aB8 P w).is k u=true:=by
 cases k with
 | inl i=>obtain⟨t,e⟩:=(show∃t,u=Value.int i t from r);subst e;exact aXa P w i t
 | inr x=>obtain⟨t,e⟩:=(show∃t,u=Value.str x t from r);subst e;exact aW9 P w x t
theorem aUy {P:Program}{w:World}: ∀{ks:List Key} {us:List Value},Vals (ks.map kV) us->ItemsAre (aB8 P w) ks us
 | [],_,r=>by rw[List.map_nil] at r;cases r;exact .nil
 | k::ks,_,r=>by
  rw[List.map_cons] at r;cases r with
  | cons h t=>exact .cons (bAs h) (aUy t)
abbrev KT (H:Hp):List (List Key×V)->List (List Key×Addr×Value)->Prop:=Paired fun p q=>p.1=q.1/\H q.2.1=some (.tup (p.1.map kV))/\RelV p.2 q.2.2
theorem KT.val {H:Hp}{kvs:List (List Key×V)}{xs:List (List Key×Addr×Value)}(r:KT H kvs xs)(k:List Key):aTl (aKl kvs k) ((atKey xs k).map (·.2)):=by
 induction r with
 | nil=>exact True.intro
 | @cons p q ps qs h t ih=>
  obtain⟨h1,_,h2⟩:=h;by_cases e:p.1=k
  ·have e':q.1=k:=h1.symm.trans e
   have b:atKey (q::qs) k=some q.2:=by simp[atKey,List.find?_cons,e']
   rw[aRm e,b];exact h2
  ·have e':¬q.1=k:=fun z=>e (h1.trans z)
   have b:atKey (q::qs) k=atKey qs k:=by simp[atKey,List.find?_cons,e']
   rw[aRn e,b];exact ih
theorem KT.repl {H:Hp}{kvs:List (List Key×V)}{xs:List (List Key×Addr×Value)}(r:KT H kvs xs)(k:List Key){y:V}{u:Value}(ry:RelV y u):
  KT H (kvs.map fun kv=>if kv.1=k then (kv.1,y) else kv) (xs.map (putAt k u)):=by
 induction r with
 | nil=>exact .nil
 | @cons p q ps qs h t ih=>
  rw[List.map_cons,List.map_cons];refine .cons ?_ ih;obtain⟨h1,h2,h3⟩:=h;unfold putAt;by_cases e:p.1=k
  ·rw[if_pos e,if_pos (h1.symm.trans e)];exact⟨h1,h2,ry⟩
  ·rw[if_neg e,if_neg (fun z=>e (h1.trans z))];exact⟨h1,h2,h3⟩
theorem KT.put {H:Hp}{kvs:List (List Key×V)}{xs:List (List Key×Addr×Value)}(r:KT H kvs xs)(k:List Key){b:Addr}{y:V}{u:Value}(hb:H b=some (.tup (k.map kV)))(ry:RelV y u):
  KT H (putK kvs k y) (storedH xs k b u):=by
 have e:(kvs.any fun kv=>decide (kv.1=k))=(atKey xs k).isSome:=by
  rw[aX6,(r.val k).aO2,Option.isSome_map]
 unfold putK storedH;rw[e];by_cases q:(atKey xs k).isSome=true
 ·rw[if_pos q,if_pos q];exact r.repl k ry
 ·rw[if_neg q,if_neg q];exact Paired.snoc r ⟨rfl,hb,ry⟩
theorem KT.keeps {H H':Hp}{kvs:List (List Key×V)}{xs:List (List Key×Addr×Value)}(r:KT H kvs xs)(ht: ∀b ys,H b=some (.tup ys)->H' b=some (.tup ys)):KT H' kvs xs:=
 Paired.bQ9 r fun _ _ z=>⟨z.1,ht _ _ z.2.1,z.2.2⟩
section
variable {P:Program}{w:World}{H:Hp}{h:Heap}{a:Addr}
theorem bN3 {u:HO}(ok:HOk P w H h)(e:Rd H a u):aDb P w H h a u:=e.ok ok
theorem aVb {kvs:List (Key×V)}(ok:HOk P w H h)(e:Rd H a (.dK kvs)):kvs.length<=sizeLine/\(a==sysModules)=false/\∃vs,KV kvs vs/\h.DictOf (aB8 P w) a vs:=
 show aDb P w H h a (.dK kvs) from bN3 ok e
theorem bH5 {kvs:List (Key×V)}(ok:HOk P w H h)(e:H a=some (.dK kvs)):kvs.length<=sizeLine/\(a==sysModules)=false/\∃vs,KV kvs vs/\h.DictOf (aB8 P w) a vs:=aVb ok (.inl e)
theorem aO0 {ks:List Key}(ok:HOk P w H h)(e:H a=some (.tup (ks.map kV))):(tupleKind (aB8 P w)).is h ks a:=by
 obtain⟨_,its,r,o,h1,h2,⟨n,h3⟩,_⟩:=(show aDb P w H h a (.tup (ks.map kV)) from ok a _ e);exact⟨o,its.toArray,n,h1,h2,h3,by simpa using aUy r⟩
theorem bAz {kvs:List (List Key×V)}(ok:HOk P w H h)(e:Rd H a (.dT kvs)):kvs.length<=sizeLine/\(a==sysModules)=false/\
  ∃xs,KT H kvs xs/\h.DictOfH (tupleKind (aB8 P w)) a xs:=by
 obtain⟨z,y,xs,r,o,es,ep,h1,h2,h3,h4,h5⟩:=(show aDb P w H h a (.dT kvs) from bN3 ok e);refine⟨z,y,xs,r,o,es,ep,h1,h2,h3,h4,fun x hx=> ?_,h5⟩;have all: ∀{l:List (List Key×V)} {m:List (List Key×Addr×Value)},KT H l m->∀x∈m,(tupleKind (aB8 P w)).is h x.1 x.2.1:=by
  intro l m q
  induction q with
  | nil=>intro x hx;exact nomatch hx
  | @cons p q ps qs hq t ih=>
   intro x hx;rcases List.mem_cons.mp hx with e | hx
   ·subst e
    exact aO0 ok (by rw[<-hq.1];exact hq.2.1)
   ·exact ih x hx
 exact all r x hx
theorem bS8 {kvs:List (List Key×V)}(ok:HOk P w H h)(e:H a=some (.dT kvs)):kvs.length<=sizeLine/\(a==sysModules)=false/\
  ∃xs,KT H kvs xs/\h.DictOfH (tupleKind (aB8 P w)) a xs:=bAz ok (.inl e)
end
def aVx (H:Hp)(a:Addr)(y:V)(r:Option V):Prop:=
 (∃kvs k,Rd H a (.dK kvs)/\y=kV k/\r=aKl kvs k)\/∃kvs k b,Rd H a (.dT kvs)/\y= .ref b/\H b=some (.tup (k.map kV))/\r=aKl kvs k
def bJ1 (H:Hp)(a:Addr)(y v:V)(H':Hp):Prop:=
 (∃kvs k,H a=some (.dK kvs)/\y=kV k/\kvs.length<sizeLine/\H'=upd H a (.dK (putK kvs k v)))\/
 ∃kvs k b,H a=some (.dT kvs)/\y= .ref b/\H b=some (.tup (k.map kV))/\kvs.length<sizeLine/\H'=upd H a (.dT (putK kvs k v))
theorem aVx.k {H:Hp}{a:Addr}{kvs:List (Key×V)}{k:Key}(e:H a=some (.dK kvs)):aVx H a (kV k) (aKl kvs k):= .inl ⟨kvs,k,.inl e,rfl,rfl⟩
theorem aVx.t {H:Hp}{a b:Addr}{kvs:List (List Key×V)}{k:List Key}(e:H a=some (.dT kvs))(eb:H b=some (.tup (k.map kV))):aVx H a (.ref b) (aKl kvs k):= .inr ⟨kvs,k,b,.inl e,rfl,eb,rfl⟩
theorem bJ1.k {H:Hp}{a:Addr}{kvs:List (Key×V)}{k:Key}{v:V}(e:H a=some (.dK kvs))(hl:kvs.length<sizeLine):bJ1 H a (kV k) v (upd H a (.dK (putK kvs k v))):= .inl ⟨kvs,k,e,rfl,hl,rfl⟩
theorem bJ1.t {H:Hp}{a b:Addr}{kvs:List (List Key×V)}{k:List Key}{v:V}(e:H a=some (.dT kvs))(eb:H b=some (.tup (k.map kV)))(hl:kvs.length<sizeLine):
  bJ1 H a (.ref b) v (upd H a (.dT (putK kvs k v))):= .inr ⟨kvs,k,b,e,rfl,eb,hl,rfl⟩
section
variable {X:Cx}{pins:List (Addr×Obj)}{σ:St}{H:Hp}{s:Shared}{a:Addr}{y v:V}{u r:Value}{o:Option V}{A:Around}{E:Value->Shared->Prop}
theorem Inv.big (I:Inv X pins σ H s):sysModules<s.heap.objs.size:=by
 have h:mainGlobals<s.heap.objs.size:=(I.mod.glob.keeps I.bk).lt;exact Nat.lt_trans (by decide) h
theorem bEt {Q:Value->Shared->Prop}(hu:A.units+1<cLine)(I:Inv X pins σ H s)(g:aVx H a y (some v))(ry:RelV y u)(h: ∀w' s',Inv X pins σ H s'->RelV v w'->Q w' s'):
  wpAny (model X.prog X.w) A (getItem (.ref a) u) Q E s:=by
 rcases g with⟨kvs,k,e,ey,l⟩ |⟨kvs,k,b,e,ey,eb,l⟩
 ·subst ey
  obtain⟨z,hd,vs,rel,dd⟩:=aVb I.hok e;obtain⟨w',hw,rw'⟩:=aTl.some_of (v:=v) (o:=valueAt vs k) (by rw[l];exact rel.val k);exact wpAny_getItem_of (bAs ry) dd.mapOf hw (h w' _ (I.tok _) rw')
 ·subst ey
  cases (show u=Value.ref b from ry);obtain⟨z,hd,xs,rel,dd⟩:=bAz I.hok e;obtain⟨w',hw,rw'⟩:=aTl.some_of (v:=v) (o:=(atKey xs k).map (·.2)) (by rw[l];exact rel.val k);obtain⟨p,hp,hp2⟩:=Option.map_eq_some_iff.mp hw;refine wpAny_getItem_heap (tupleKind_room_in1 hu) (aO0 I.hok eb) dd hp ?_;rw[hp2];exact h w' _ (I.tok _) rw'
theorem bMq {Q:Value->Shared->Prop}(hu:A.units+1<cLine)(I:Inv X pins σ H s)(g:aVx H a y o)(ry:RelV y u)(h: ∀s',Inv X pins σ H s'->Q (.bool (!o.isSome)) s'):
  wpAny (model X.prog X.w) A (compareOp .NotIn u (.ref a)) Q E s:=by
 rcases g with⟨kvs,k,e,ey,l⟩ |⟨kvs,k,b,e,ey,eb,l⟩
 ·subst ey
  obtain⟨z,hd,vs,rel,dd⟩:=aVb I.hok e;refine wpAny_notIn_of (bAs ry) hd dd.mapOf ?_;rw[<-(rel.val k).aO2,<-l];exact h _ (I.tok _)
 ·subst ey
  cases (show u=Value.ref b from ry);obtain⟨z,hd,xs,rel,dd⟩:=bAz I.hok e;refine wpAny_notIn_heap (tupleKind_room_in1 hu) (aO0 I.hok eb) hd dd ?_;have q:=(rel.val k).aO2;rw[Option.isSome_map] at q;rw[<-q,<-l];exact h _ (I.tok _)
theorem aXp {h':Heap}{t':Nat}{ob:HO}(I:Inv X pins σ H s)(mu:Mut (H a))(hs:Heap.SameBut a s.heap h')(he: ∃q,h'.get? a=some q)(new:aDb X.prog X.w (upd H a ob) h' a ob):
  Inv X pins σ (upd H a ob) {s with heap:=h',toks:=t'}:=
 I.write (x:=a) (e:=a) mu (.inl rfl) (fun b q hb z=>(hs.2 b hb).trans z) he new
theorem bEk {P:Program}{w:World}{H':Hp}{h':Heap}{kvs:List (Key×V)}{vs:List (Key×Value)}(z:kvs.length<=sizeLine)(hd:(a==sysModules)=false)(rel:KV kvs vs)(dd:h'.DictOf (aB8 P w) a vs):
  aDb P w H' h' a (.dK kvs):=⟨z,hd,vs,rel,dd⟩
theorem bEs {H':Hp}{Q:Unit->Shared->Prop}(hu:A.units+1<cLine)(I:Inv X pins σ H s)(g:bJ1 H a y v H')(ry:RelV y u)(rv:RelV v r)(h: ∀s',Inv X pins σ H' s'->Q () s'):
  wpAny (model X.prog X.w) A (setItem (.ref a) u r) Q E s:=by
 rcases g with⟨kvs,k,e,ey,l,eH⟩ |⟨kvs,k,b,e,ey,eb,l,eH⟩
 ·subst ey eH
  obtain⟨z,hd,vs,rel,dd⟩:=bH5 I.hok e;have hz:vs.length<=sizeLine:=by rw[<-rel.length];exact z
  have hl:(putK kvs k v).length<=sizeLine:=by have:=aOt kvs k v;omega
  refine wpAny_setItem_pairs (hsz:=hz) (bAs ry) dd fun h' dd' hs=>h _ ?_
  have he: ∃q,h'.get? a=some q:=let ⟨q,_,_,hq,_⟩:=dd';⟨q,hq⟩;exact aXp I (by rw[e];exact True.intro) hs he (bEk hl hd (rel.put k rv) dd')
 ·subst ey eH
  cases (show u=Value.ref b from ry);obtain⟨z,hd,xs,rel,dd⟩:=bS8 I.hok e;have hz:xs.length<=sizeLine:=by rw[<-Paired.length rel];exact z
  have hl:(putK kvs k v).length<=sizeLine:=by have:=aOt kvs k v;omega
  refine wpAny_setItem_heap (hsz:=hz) (tupleKind_room_in1 hu) (aO0 I.hok eb) dd fun h' dd' hs=>h _ ?_
  obtain⟨q,es,ep,hq,h2,h3,h4,_,h5⟩:=dd';refine aXp I (by rw[e];exact True.intro) hs ⟨q,hq⟩ ⟨hl,hd,_,(rel.put k eb rv).keeps fun c ys ec=> ?_,q,es,ep,hq,h2,h3,h4,h5⟩;rw[aA6 (bSs ec e (fun z=>nomatch z))];exact ec
end
section
variable {X:Cx}{pins:List (Addr×Obj)}{σ:St}{H:Hp}{s:Shared}{a:Addr}{kvs:List (Key×V)}{k:Key}{u:Value}{A:Around}{E:Value->Shared->Prop}
theorem bS9 {v:V}{more:List Value}{Q:Value->Shared->Prop}(I:Inv X pins σ H s)(e:H a=some (.dK kvs))(ry:RelV (kV k) u)(l:aKl kvs k=some v)(hm:more=[]\/∃x,more=[x])
  (h: ∀w' s',Inv X pins σ (upd H a (.dK (aVa kvs k))) s'->RelV v w'->Q w' s'):wpAny (model X.prog X.w) A (call (.builtin "dict.pop") (.ref a::u::more)) Q E s:=by
 obtain⟨z,hd,vs,rel,dd⟩:=bH5 I.hok e;obtain⟨w',hw,rw'⟩:=aTl.some_of (v:=v) (o:=valueAt vs k) (by rw[<-l];exact rel.val k);have hp:(keyPart u).isSome=true:=by
  cases k with
  | inl i=>obtain⟨t,q⟩:=(show∃t,u=Value.int i t from ry);subst q;rfl
  | inr x=>obtain⟨t,q⟩:=(show∃t,u=Value.str x t from ry);subst q;rfl
 have ha:argsOk "dict.pop" ⟨.ref a::u::more,[]⟩:=by
  rcases hm with q |⟨x,q⟩
  ·subst q;exact PySem.F.args_dict_pop_2 _ _
  ·subst q;exact PySem.F.args_dict_pop_3 _ _ _
 refine call_meetsIn PySem.F.slot_dict_pop dd.typeIs PySem.F.entry_dict_pop ha (meets_dict_pop_there (aB8 X.prog X.w) a (bAs ry) more hm hp)
  ⟨vs,w',dd,by rw[<-rel.length];exact z,hw,fun h' dd' hs=>h w' _ ?_ rw'⟩
 have he: ∃q,h'.get? a=some q:=let ⟨q,_,_,hq,_⟩:=dd';⟨q,hq⟩;exact aXp I (by rw[e];exact True.intro) hs he (bEk (Nat.le_trans (bH4 kvs k) z) hd (rel.drop k) dd')
theorem bTa {Q:Value->Shared->Prop}(I:Inv X pins σ H s)(e:Rd H a (.dK kvs))(h: ∀t s',Inv X pins σ H s'->Q (.int kvs.length t) s'):wpAny (model X.prog X.w) A (call (.builtin "len") [.ref a]) Q E s:=by
 obtain⟨z,hd,vs,rel,dd⟩:=aVb I.hok e;refine call_len_dict hd dd (by rw[<-rel.length];rw[sizeLine_eq] at z;omega) ?_;rw[<-rel.length];exact h _ _ (I.tok _)
end
def bTe (i:Expr):Prop:= ∀ov iv,subscripted i false ov iv=operate [ov,iv] (getItem ov iv)
theorem bJ9 {prog:Program}{w:World}{A:Around}{E:Value->Shared->Prop}{s:Shared}{env:Env}{value slice:Expr}{pos:Pos}{T id:String}{Q:Value->Shared->Prop}
  (hl:typeLookup (.type T) "__getitem__"=pure (some (.builtin id))) (hs:bTe slice)
  (h:wpAny (model prog w) A (eval value env) (fun o s₁=>wpAny (model prog w) A (eval slice env) (fun i s₂=>s₂.TypeIs o T/\wpAny (model prog w) A (getItem o i) Q E s₂) E s₁) E s):
  wpAny (model prog w) A (eval (.Subscript value slice pos) env) Q E s:=by
 refine Subscript_ (wpAny_mono h (fun o s₁ h₁=>wpAny_mono h₁ (fun i s₂ h₂=> ?_) fun _ _ x=>x) fun _ _ x=>x);obtain⟨hT,h₂⟩:=h₂;unfold subscriptTail;refine wpAny_bind ?_;rw[getitemInPython_of_ne hT.not_modules];refine wpAny_bind (wpAny_specialOf hT hl ?_);have fin:wpAny (model prog w) A (subscripted slice false o i) (fun r s₃=>wpAny (model prog w) A (letTemporaryGo value o r>>=fun _=>pure r) Q E s₃) E s₂:=by
  rw[hs o i];exact wpAny_operating (wpAny_mono h₂ (fun r s₃ h₃=>wpAny_bind (wpAny_letTemporaryGo (wpAny_pure h₃))) fun _ _ x=>x)
 first
  | exact wpAny_pure (wpAny_bind fin)
  | exact wpAny_bind (wpAny_pure (wpAny_bind fin))
  | exact wpAny_bind fin
theorem aXm {X:Cx}{pins:List (Addr×Obj)}{σ:St}{H:Hp}{s:Shared}{a:Addr}{y:V}{o:Option V}(I:Inv X pins σ H s)(g:aVx H a y o):s.TypeIs (.ref a) "dict":=by
 rcases g with⟨kvs,k,e,_,_⟩ |⟨kvs,k,b,e,_,_,_⟩
 ·obtain⟨_,_,vs,_,dd⟩:=aVb I.hok e
  exact dd.typeIs
 ·obtain⟨_,_,xs,_,dd⟩:=bAz I.hok e
  exact dd.typeIs
def bRt (td ty:TE):TE:=fun σ H Q=>td σ H fun x H1=>ty σ H1 fun y H2=> ∃a v,x= .ref a/\aVx H2 a y (some v)/\Q v H2
def bR0 (td ty tv:TE):TS:=fun D σ H=>tv σ H fun v H1=>td σ H1 fun x H2=>ty σ H2 fun y H3=> ∃a H4,x= .ref a/\bJ1 H3 a y v H4/\D.nx σ H4
section
variable {X:Cx}{o i e value:Expr}{pos pos' tpos:Pos}{td ty tv:TE}
theorem bKx (hu:X.A.units+1<cLine)(ho:PE X o td)(hi:PE X i ty)(hs:bTe i):PE X (.Subscript o i pos) (bRt td ty):=by
 intro pins s σ H Q I h;refine bJ9 PySem.F.slot_dict_getitem.lookup hs (thn (ho pins s σ H _ I h) fun u s1 ⟨x,H1,I1,rx,q1⟩=>thn (hi pins s1 σ H1 _ I1 q1) fun iv s2 ⟨y,H2,I2,ry,a,v,ex,g,q2⟩=> ?_);subst ex;obtain rfl:u=Value.ref a:=rx;exact⟨aXm I2 g,bEt hu I2 g ry fun w' s3 I3 rw'=>⟨v,H2,I3,rw',q2⟩⟩
theorem bCg (hu:X.A.units+1<cLine)(ho:PE X o td)(hi:PE X i ty)(hv:PE X value tv)(hs:swapsWith value (some (.Subscript o i pos')) pos.line X.env=pure false):
  PS X (.Assign [.Subscript o i pos'] value pos) (bR0 td ty tv):=by
 intro pins s σ H D I h;refine wpAny_Assign_Subscript (thn (hv pins s σ H _ I h) fun r s1 ⟨v,H1,I1,rv,q1⟩=>thn (ho pins s1 σ H1 _ I1 q1) fun u s2 ⟨x,H2,I2,rx,q2⟩=>thn (hi pins s2 σ H2 _ I2 q2) fun iv s3 ⟨y,H3,I3,ry,a,H4,ex,g,q3⟩=> ?_) hs;subst ex;obtain rfl:u=Value.ref a:=rx;exact bEs hu I3 g ry rv fun s4 I4=>⟨σ,H4,I4,q3⟩
end
theorem bH6 {P:Program}{w:World}{H:Hp}(h:Heap)(hb:sysModules<h.objs.size):aDb P w H (h.push {cls:= .type "dict",data:= .dict #[]}) h.objs.size (.dK []):=
 ⟨Nat.zero_le _,beq_eq_false_iff_ne.mpr (Ne.symm (Nat.ne_of_lt hb)),[],.nil,Heap.DictOf.new h⟩
theorem aZc {P:Program}{w:World}{H:Hp}(h:Heap)(hb:sysModules<h.objs.size):aDb P w H (h.push {cls:= .type "dict",data:= .dict #[]}) h.objs.size (.dT []):=
 ⟨Nat.zero_le _,beq_eq_false_iff_ne.mpr (Ne.symm (Nat.ne_of_lt hb)),[],.nil,_,#[],0,Heap.get?_push_size _ rfl,⟨rfl,rfl,rfl⟩,rfl,rfl,List.nodup_nil⟩
def bNp:TE:=fun _ H Q=> ∀p,H p=none->Q (.ref p) (upd H p (.dK []))
def bNo:TE:=fun _ H Q=> ∀p,H p=none->Q (.ref p) (upd H p (.dT []))
section
variable {X:Cx}{pos:Pos}
theorem bGr:PE X (.Dict [] [] pos) bNp:=fun pins s σ H Q I h=>
 wpAny_Dict_empty ⟨.ref s.heap.objs.size,_,I.laid (a:=s.heap.objs.size) (o:= .dK []) (t':=s.toks) (fun _ _ q=>Heap.get?_push_of_some _ q) (Nat.le_refl _) (bH6 s.heap I.big),rfl,h _ (I.hok.fresh (Nat.le_refl _))⟩
theorem bGq:PE X (.Dict [] [] pos) bNo:=fun pins s σ H Q I h=>
 wpAny_Dict_empty ⟨.ref s.heap.objs.size,_,I.laid (a:=s.heap.objs.size) (o:= .dT []) (t':=s.toks) (fun _ _ q=>Heap.get?_push_of_some _ q) (Nat.le_refl _) (aZc s.heap I.big),rfl,h _ (I.hok.fresh (Nat.le_refl _))⟩
end
structure M1 (X:Cx)(o:Expr)(m:Str)(apos:Pos)(e:Expr)(cpos:Pos):Prop where
 base:attributeBase o m X.env (eval o X.env)=eval o X.env
 few:((backTo cpos (starEach [e] X.env)).all (fun x=> !x.1)&&(backToKw cpos (keywordEach [] X.env)).all (fun x=>x.1.isSome)
  &&decide (([e]:List Expr).length+([]:List Keyword).length+(if ([]:List Keyword).isEmpty then 0 else 1)<30))=true
 line:(apos.endLine==cpos.line)=true
 trees:backTo cpos (starEach [e] X.env)=[(false,eval e X.env)]
structure M2 (X:Cx)(o:Expr)(m:Str)(apos:Pos)(e f:Expr)(cpos:Pos):Prop where
 base:attributeBase o m X.env (eval o X.env)=eval o X.env
 few:((backTo cpos (starEach [e,f] X.env)).all (fun x=> !x.1)&&(backToKw cpos (keywordEach [] X.env)).all (fun x=>x.1.isSome)
  &&decide (([e,f]:List Expr).length+([]:List Keyword).length+(if ([]:List Keyword).isEmpty then 0 else 1)<30))=true
 line:(apos.endLine==cpos.line)=true
 trees:backTo cpos (starEach [e,f] X.env)=[(false,eval e X.env),(false,eval f X.env)]
def IsD (H:Hp)(a:Addr):Prop:=(∃kvs,Rd H a (.dK kvs))\/∃kvs,Rd H a (.dT kvs)
theorem bJf {X:Cx}{pins:List (Addr×Obj)}{σ:St}{H:Hp}{s:Shared}{a:Addr}(I:Inv X pins σ H s)(d:IsD H a):
  s.TypeIs (.ref a) "dict"/\(∀b,Value.ref a= .ref b->∃ob,s.heap.get? b=some ob/\ob.dict=none)/\(a==sysModules)=false:=by
 rcases d with⟨kvs,e⟩ |⟨kvs,e⟩
 ·obtain⟨_,hd,vs,_,dd⟩:=aVb I.hok e
  refine⟨dd.typeIs,fun b q=> ?_,hd⟩;cases q;obtain⟨ob,_,_,h1,h2,_⟩:=dd;exact⟨ob,h1,h2.2.1⟩
 ·obtain⟨_,hd,xs,_,dd⟩:=bAz I.hok e
  refine⟨dd.typeIs,fun b q=> ?_,hd⟩;cases q;obtain⟨ob,_,_,h1,h2,_⟩:=dd;exact⟨ob,h1,h2.2.1⟩
section
variable {X:Cx}{pins:List (Addr×Obj)}{σ:St}{H:Hp}{s:Shared}{a:Addr}{y d:V}{u r:Value}{o:Option V}{A:Around}{E:Value->Shared->Prop}
theorem bQn {Q:Value->Shared->Prop}(hu:A.units+1<cLine)(I:Inv X pins σ H s)(g:aVx H a y o)(ry:RelV y u)(rd:RelV d r)(h: ∀w' s',Inv X pins σ H s'->RelV (o.getD d) w'->Q w' s'):
  wpAny (model X.prog X.w) A (call (.builtin "dict.get") [.ref a,u,r]) Q E s:=by
 rcases g with⟨kvs,k,e,ey,l⟩ |⟨kvs,k,b,e,ey,eb,l⟩
 ·subst ey
  obtain⟨z,hd,vs,rel,dd⟩:=aVb I.hok e;refine call_meetsIn PySem.F.slot_dict_get dd.typeIs PySem.F.entry_dict_get (PySem.F.args_dict_get_3 _ _ _) (meets_dict_get_default (aB8 X.prog X.w) a (bAs ry) hd r) ⟨_,dd.mapOf,h _ _ (I.tok _) ?_⟩;rw[l];exact (rel.val k).getD rd
 ·subst ey
  cases (show u=Value.ref b from ry);obtain⟨z,hd,xs,rel,dd⟩:=bAz I.hok e;refine call_meetsIn PySem.F.slot_dict_get dd.typeIs PySem.F.entry_dict_get (PySem.F.args_dict_get_3 _ _ _) (meetsH_dict_get_default (tupleKind (aB8 X.prog X.w)) a b hd r) ⟨tupleKind_room_in1 hu,k,xs,aO0 I.hok eb,dd,h _ _ (I.tok _) ?_⟩;rw[l];exact (rel.val k).getD rd
end
def bNq (td ty tx:TE):TE:=fun σ H Q=>td σ H fun x H1=> ∃a,x= .ref a/\IsD H1 a/\ty σ H1 fun y H2=>tx σ H2 fun z H3=> ∃o,aVx H3 a y o/\Q (o.getD z) H3
def bNn (td ty:TE):TE:=fun σ H Q=>td σ H fun x H1=> ∃a,x= .ref a/\IsD H1 a/\ty σ H1 fun y H2=> ∃kvs k v,H2 a=some (.dK kvs)/\y=kV k/\aKl kvs k=some v/\Q v (upd H2 a (.dK (aVa kvs k)))
section
variable {X:Cx}{o e f:Expr}{apos cpos:Pos}{td ty tx:TE}
theorem bGs (hu:X.A.units+1<cLine)(ho:PE X o td)(he:PE X e ty)(hf:PE X f tx)(m:M2 X o "get" apos e f cpos):PE X (.Call (.Attribute o "get" apos) [e,f] [] cpos) (bNq td ty tx):=by
 intro pins s σ H Q I h;refine wpAny_Call_method m.base m.few m.line PySem.F.plainAttrs_dict PySem.F.slot_dict_get PySem.F.type_dict_get (thn (ho pins s σ H _ I h) fun u s1 ⟨x,H1,I1,rx,a,ex,d,q1⟩=> ?_);subst ex;obtain rfl:u=Value.ref a:=rx;obtain⟨t1,t2,_⟩:=bJf I1 d;refine⟨t1,t2,?_⟩;rw[m.trees];refine Calls.callWith_builtin rfl (Calls.evalArgs_plain (Calls.spliced_cons (thn (he pins s1 σ H1 _ I1 q1) fun iv s2 ⟨y,H2,I2,ry,q2⟩=>
  Calls.spliced_cons (thn (hf pins s2 σ H2 _ I2 q2) fun fv s3 ⟨z,H3,I3,rz,ov,g,q3⟩=>Calls.spliced_nil ?_))))
 exact bQn hu I3 g ry rz fun w' s4 I4 rw'=>⟨_,H3,I4,rw',q3⟩
theorem bGp (ho:PE X o td)(he:PE X e ty)(m:M1 X o "pop" apos e cpos):PE X (.Call (.Attribute o "pop" apos) [e] [] cpos) (bNn td ty):=by
 intro pins s σ H Q I h;refine wpAny_Call_method m.base m.few m.line PySem.F.plainAttrs_dict PySem.F.slot_dict_pop PySem.F.type_dict_pop (thn (ho pins s σ H _ I h) fun u s1 ⟨x,H1,I1,rx,a,ex,d,q1⟩=> ?_);subst ex;obtain rfl:u=Value.ref a:=rx;obtain⟨t1,t2,_⟩:=bJf I1 d;refine⟨t1,t2,?_⟩;rw[m.trees];refine Calls.callWith_builtin rfl (Calls.evalArgs_plain (Calls.spliced_cons (thn (he pins s1 σ H1 _ I1 q1) fun iv s2 ⟨y,H2,I2,ry,kvs,k,v,ea,ey,l,q2⟩=>Calls.spliced_nil ?_)));subst ey;exact bS9 I2 ea ry l (.inl rfl) fun w' s3 I3 rw'=>⟨v,_,I3,rw',q2⟩
end
section
variable {X:Cx}{pins:List (Addr×Obj)}{σ:St}{H:Hp}{s:Shared}{a:Addr}{kvs:List (Key×V)}{A:Around}{E:Value->Shared->Prop}
theorem bH8 {Q:Value->Shared->Prop}(I:Inv X pins σ H s)(e:Rd H a (.dK kvs))(h: ∀p s',H p=none->Inv X pins σ (upd H p (.dK kvs)) s'->Q (.ref p) s'):wpAny (model X.prog X.w) A (call (.type "dict") [.ref a]) Q E s:=by
 obtain⟨z,hd,vs,rel,dd⟩:=aVb I.hok e;refine kt_call_dict hd dd (by rw[<-rel.length];exact z) fun h' dd' hs=> ?_
 refine h _ _ (I.hok.fresh (Nat.le_refl _)) (I.laid (a:=s.heap.objs.size) (o:= .dK kvs) (t':=s.toks) (fun b q hq=> ?_) (Nat.le_refl _) (bEk z (beq_eq_false_iff_ne.mpr (Ne.symm (Nat.ne_of_lt I.big))) rel dd'));exact (hs.2 b (Nat.ne_of_lt (Heap.lt_size hq))).trans (Heap.get?_push_of_some _ hq)
end
end L2
namespace Att
open PySem PySem.W PySem.Calls PyProof.Rows
theorem aO4 {P:Params}{h:Heap}: ∀(ns:List Int) (vs:List Value),WellAll P h vs (ns.map WData.int)->IntsAre vs ns:=by
 intro ns
 induction ns with
 | nil=>
  intro vs w;rw[List.map_nil] at w;cases w;exact .nil
 | cons n ns ih=>
  intro vs w;rw[List.map_cons] at w;cases w with
  | cons a b=>
   cases a;exact .cons _ _ (ih _ b)
theorem bBu {l:OpenLaw}{n:Nat}(hn:l.most=some n){P:Params}{h:Heap}{args:List WData}{vals:List Value}
  (hpre:l.row.toRowW.claim.pre args=true) (hwl:WellAll P h vals args):
  ∃a vs ns,vals=[Value.ref a]/\args=[WData.list (ns.map WData.int)]/\h.get? a=some {cls:= .type "list",data:= .seq vs.toArray}/\IntsAre vs ns/\ns.length<=n:=by
 have hsh:WShape.hasAll [] args [.list .int]=true:=(pre_splitW hpre).1;have hc:l.pre.holds [] {args:=args}=true:=(pre_splitW hpre).2;obtain⟨d,r,rfl,h1,h2⟩:=hasAllW_cons hsh;obtain rfl:=hasAllW_nil h2;obtain⟨xs,rfl,h3⟩:=hasW_list h1;obtain⟨ns,rfl⟩:=items_int h3;have hlen:ns.length<=n:=by
  unfold OpenLaw.pre at hc;have h4:(WTm.not (.lt (.lit (.int (n:Int))) (.len (.arg 0)))).holds [] {args:=[.list (ns.map .int)]}=true:=by
   have h4:=(holds_andW hc).1;rw[hn] at h4;exact h4
  have h5:=condW_of h4 (w_not (w_lt w_lit (w_len_list (w_arg rfl))));rw[List.length_map] at h5;refine Nat.le_of_not_lt fun q=> ?_
  have q':(n:Int)<((ns.length:Nat):Int):=by omega
  first
   |(rw[decide_eq_true q'] at h5;exact absurd h5 (by decide))
   |(simp at h5;omega)
 cases hwl with
 | cons w1 w2=>
  cases w2;cases w1 with
  | list ho hall=>exact⟨_,_,ns,rfl,rfl,ho,aO4 ns _ hall,hlen⟩
theorem bCi (l:OpenLaw)(args:List WData):l.row.toRowW.claim.post args (.bool true) args=true:=
 postW_of (r:=l.row.toRowW) (X:=(true==true))
  (show WShape.has [] (.bool true) .bool=true by first | rfl | decide | simp[WShape.has,WShape.arms,WShape.armsAll])
  (show (WTm.eq .res (.lit (.bool true))).value [] {args:=args,res:=some (.bool true),after:=args}=some (.bool (true==true)) from w_eq_bool (w_res rfl) w_lit) rfl
theorem aXw {l:OpenLaw}{n:Nat}{q:Program}{loose:List Str}{XP:(Str->Option Value)->Heap->Prop}{YP:World->Heap->Prop}{d:DefRec}
  (hn:l.most=some n) (hdf:d.params.defaults=[])
  (call: ∀(w:World) (s₀ s₁:Shared) (mg mb:Str->Option Value) (fa:Addr) (o:Obj) (pm cd doc:Value) (a:Addr) (vs:List Value) (ns:List Int),
   Ground q loose [] XP w s₀ mg mb s₁.heap->YP w s₁.heap->
   s₁.heap.get? fa=some o->o.data= .func (docDef d.name d.params d.body d.scope pm cd doc)->s₁.heap.CodeRec cd d.name->mg d.name=some (.ref fa)->
   s₁.heap.get? a=some {cls:= .type "list",data:= .seq vs.toArray}->IntsAre vs ns->ns.length<=n->s₁.gens= #[]->
   codeAny (model l.prog w) callerA (.call (.ref fa) ⟨[.ref a],[]⟩) (fun r s'=>r= .ok (.ret (.bool true))/\OldK s₁.heap s'.heap/\s'.os=s₁.os/\AllBare s'.gens) s₁):
  WalkO q loose XP YP l.row.toRowW d [] (fun f vs=>PySem.call f vs):=by
 intro w s₀ s₁ mg mb G Y fa o pm cd doc dV kV ho hd hcd hD hmg hg args vals as hpre hlay hrd hwl hlo;obtain rfl:dV= .none:=Dflts.none hD hdf;obtain rfl:kV= .none:=Dflts.noKw hD;obtain⟨a,vs,ns,rfl,rfl,hobj,hints,hlen⟩:=bBu hn hpre hwl;refine enter_call (codeAny_mono (call w s₀ s₁ mg mb fa o pm cd doc a vs ns G Y ho (fd_plain hd) hcd hmg hobj hints hlen hg) fun r s' hq=> ?_);obtain⟨rfl,h2,h3,h4⟩:=hq;exact⟨.inl ⟨.bool true,.bool true,[],rfl,fun _=>rfl,.bool true,bCi l _,fun _=>⟨List.Pairwise.nil,fun _ hm=>(nomatch hm)⟩⟩,h2,h3,h4⟩
section
variable {prog:Program}{w:World}{A:Around}{E:Value->Shared->Prop}{s:Shared}{K:Frag}
def ledger (h:Heap)(L d:Addr):List (Addr×Obj):=(List.range h.objs.size).filterMap fun a=>if a=L\/a=d then none else (h.get? a).map fun o=>(a,o)
end
end Att
namespace L2
open PySem PySem.Spec PyProof.Rows
theorem aTs: ∀{vs:List Value} {ns:List Int},IntsAre vs ns->Vals (ns.map V.int) vs
 | _,_,.nil=> .nil
 | _,_,.cons n t h=> .cons ⟨t,rfl⟩ (aTs h)
def Only (H:Hp):Prop:= ∀b,H b=none\/∃o xs,H b=some (.frz o (.lst xs))
theorem bHp {P:Program}{w:World}{K:PySem.W.Frag}{mg mb:Str->Option Value}{CX:CXT}{k:Nat}{fa a:Addr}{fd:FuncData}{x:Str}{sp:Sp}{s₁:Shared}{vs:List Value}{ns:List Int}
  (KX:K.In s₁.heap) (hns:s₁.heap.Ns mainGlobals mg) (hb:s₁.heap.Ns builtinsNs mb) (hbb: ∀x:Str,x≠"__name__"->mb x=bootBuiltins x) (hlim:s₁.heap.NoLimit) (hg:s₁.gens= #[])
  (ha:s₁.heap.get? a=some {cls:= .type "list",data:= .seq vs.toArray}) (hi:IntsAre vs ns) (hl:ns.length<=sizeLine) (hr:aDm k callerA)
  (F: ∀base:Heap,K.In base->base.Ns mainGlobals mg->bFt P w K mg base CX k fa fd [x] sp) (hbind: ∀(s:Shared) (u:Value),BindsTo s fd ⟨[u],[]⟩ [(x,u)])
  (hsp: ∀H:Hp,Only H->SqL K H a (ns.map V.int)->sp [.ref a] H (fun v _=>v= .bl true) fun _ _ _=>False)
  (hCX: ∀H e s',CX [] H s₁ (fun _ _ _=>False) e s'->False):
  codeAny (model P w) callerA (.call (.ref fa) ⟨[.ref a],[]⟩) (fun r s'=>r= .ok (.ret (.bool true))/\OldK s₁.heap s'.heap/\s'.os=s₁.os/\AllBare s'.gens) s₁:=by
 have rv:=aTs hi;have lenV:=hi.length;have core: ∀H:Hp,Only H->SqL K H a (ns.map V.int)->HOk P w H s₁.heap->(∀b,H b≠none->b=a)->(H a≠none->K.lookup a=none)->
   codeAny (model P w) callerA (.call (.ref fa) ⟨[.ref a],[]⟩) (fun r s'=>r= .ok (.ret (.bool true))/\OldK s₁.heap s'.heap/\s'.os=s₁.os/\AllBare s'.gens) s₁:=by
  intro H hO hS hok hA hK;have bFd: ∀{b:Addr} {o:Obj},s₁.heap.get? b=some o->H b=none->(bHv s₁.heap H).get? b=some o:=fun e n=>bHu e n
  have noA: ∀{b:Addr} {o:Obj} {es:Array DictEntry} {ep:Nat},s₁.heap.get? b=some o->o.data= .dict es ep->H b=none:=fun {b o es ep} e d=>by
   cases q:H b with
   | none=>rfl
   | some u=>
    have e':b=a:=hA b (by rw[q];simp);subst e';rw[ha] at e;cases e;have d':Data.seq vs.toArray _=Data.dict es ep:=d;cases d'
  have nsK: ∀{b:Addr} {m:Str->Option Value},s₁.heap.Ns b m->(bHv s₁.heap H).Ns b m:=fun {b m} ⟨o,es,ep,e,d,r⟩=>⟨o,es,ep,bFd e (noA e d),d,r⟩
  have hKb:K.In (bHv s₁.heap H):=fun b o e=>bFd (KX b o e) (by
   cases q:H b with
   | none=>rfl
   | some u=>
    have e':b=a:=hA b (by rw[q];simp);subst e';rw[hK (by rw[q];simp)] at e;cases e)
  have hM:Mod K mg (bHv s₁.heap H):=⟨hKb,nsK hns,⟨mb,nsK hb,hbb⟩,let ⟨mc,h1,h2⟩:=hlim;⟨mc,nsK h1,h2⟩⟩;have e0:bM7 P w K mg (bHv s₁.heap H) callerA [] s₁ H:=⟨rfl,hM,fun b o e=>bLm e,Nat.le_of_eq (bD6 _ _),trivial,fun b hb=>absurd (show b∈([]:List Addr) from hb) (by simp),hok,.of_eq hg⟩;refine codeAny_mono ((F _ hKb (nsK hns)).run callerA [] s₁ H ⟨[.ref a],[]⟩ [.ref a] [.ref a] _ _ hr e0 (hbind s₁ (.ref a)) (.cons rfl .nil) (hsp H hO hS)) fun r s' h=> ?_
  cases r with
  | error e=>exact (hCX H e s' h).elim
  | ok fl=>
   cases fl with
   | next=>exact False.elim h
   | brk=>exact False.elim h
   | cont=>exact False.elim h
   | ret u=>
    obtain⟨v,H',os,bare,un,hok',r',q⟩:=h;have q':v= .bl true:=q;subst q';obtain rfl:u=Value.bool true:=r';refine⟨rfl,OldK.of_keep fun b o e=> ?_,os,bare⟩;cases q:H b with
    | none=>exact un.keep b o e q (by intro z;exact absurd (show b∈([]:List Addr) from z) (by simp)) (by simp)
    | some u=>
     rcases hO b with z |⟨ob,xs,z⟩
     ·rw[q] at z;cases z
     ·have z2:=un.aU5 b ob _ z
      obtain⟨e1,_⟩:=hok b _ z;obtain⟨e2,_⟩:=hok' b _ z2;rw[e] at e1;cases e1;exact e2
 cases hk:K.lookup a with
 | some o=>
  have e:=KX a o hk;rw[ha] at e;cases e;refine core (fun _=>none) (fun _=> .inl rfl) (.inr ⟨_,vs.toArray,_,hk,rfl,rfl,rfl,by rw[List.size_toArray,lenV];exact hl,by simpa using rv⟩) (fun b u z=>by have z':(none:Option HO)=some u:=z;cases z') (fun b z=>absurd rfl z) fun z=>absurd rfl z
 | none=>
  refine core (fun b=>if b=a then some (.frz {cls:= .type "list",data:= .seq vs.toArray} (.lst (ns.map V.int))) else none) (fun b=> ?_) (.inl (.inr ⟨{cls:= .type "list",data:= .seq vs.toArray},if_pos rfl⟩)) (fun b u z=> ?_) (fun b z=> ?_) fun _=>hk
  ·by_cases hb:b=a
   ·exact .inr ⟨_,_,if_pos hb⟩
   ·exact .inl (if_neg hb)
  ·by_cases hb:b=a
   ·have z':=(if_pos hb).symm.trans z
    cases z';subst hb;exact⟨ha,by rw[List.length_map];exact hl,vs,_,rv,ha⟩
   ·have z':=(if_neg hb).symm.trans z
    cases z'
  ·by_cases hb:b=a
   ·exact hb
   ·exact absurd (if_neg hb) z
abbrev KOf {K:PySem.W.Frag}{h:Heap}(_:K.In h):PySem.W.Frag:=K
theorem bJ2 {l:PySem.W.OpenLaw}{n k:Nat}{q:Program}{loose:List Str}{XP:(Str->Option Value)->Heap->Prop}{YP:World->Heap->Prop}{d:DefRec}{K:Params->PySem.W.Frag}{CX:World->CXT}{sp:World->Sp}{x:Str}
  (hn:l.most=some n) (hn2:n<=sizeLine) (hdf:d.params.defaults=[]) (hr:aDm k callerA)
  (hY: ∀(w:World) (h:Heap),YP w h->(K w.params).In h)
  (F: ∀(w:World) (mg:Str->Option Value) (fa:Addr) (h:Heap),(K w.params).In h->h.Ns mainGlobals mg->mg d.name=some (.ref fa)->
   ∃fd:FuncData,(∀(s:Shared) (u:Value),BindsTo s fd ⟨[u],[]⟩ [(x,u)])/\
    ∀base:Heap,(K w.params).In base->base.Ns mainGlobals mg->bFt l.prog w (K w.params) mg base (CX w) k fa fd [x] (sp w))
  (hsp: ∀(w:World) (H:Hp) (a:Addr) (ns:List Int),ns.length<=n->Only H->SqL (K w.params) H a (ns.map V.int)->sp w [.ref a] H (fun v _=>v= .bl true) fun _ _ _=>False)
  (hCX: ∀(w:World) (H:Hp) (s:Shared) (e:Value) (s':Shared),CX w [] H s (fun _ _ _=>False) e s'->False):
  PySem.W.WalkO q loose XP YP l.row.toRowW d [] (fun f vs=>PySem.call f vs):=by
 refine Att.aXw hn hdf fun w s₀ s₁ mg mb fa o pm cd doc a vs ns G Y ho hd hcd hmg hobj hints hlen hg=> ?_
 have KX:=hY w _ Y;obtain⟨fd,hb,hF⟩:=F w mg fa _ KX G.T.g hmg;exact bHp KX G.T.g G.T.b G.T.builtins G.T.nolimit hg hobj hints (Nat.le_trans hlen hn2) hr hF hb (fun H hO hS=>hsp w H a ns hlen hO hS) fun H e s'=>hCX w H s₁ e s'
def inClass (s:Stmt)(j:Nat):Stmt:=match s with
 | .ClassDef _ _ _ body _ _ _ _ _ _ _=>body.getD j (.Pass ⟨0,0,0,0⟩)
 | _=> .Pass ⟨0,0,0,0⟩
def aI9 (s:Stmt):Arguments:=match s with
 | .FunctionDef _ a _ _ _ _ _ _ _ _=>a
 | _=>{posonlyargs:=[],args:=[],vararg:=none,kwonlyargs:=[],kw_defaults:=[],kwarg:=none,defaults:=[]}
def aAt (s:Stmt):List Stmt:=match s with
 | .FunctionDef _ _ b _ _ _ _ _ _ _=>b
 | _=> []
def aAd (s:Stmt):Scope:=match s with
 | .FunctionDef _ _ _ _ _ _ sc _ _ _=>sc
 | _=>{kind:= .function,names:=[],isGenerator:=false,isCoroutine:=false}
structure Fun (K:PySem.W.Frag)(x qual:Str)(st:Stmt)(f:Addr)(fd:FuncData):Prop where
 ex: ∃(oc:Value) (od:Option Addr) (kV doc pm:Value) (an:Option Addr) (cdv ct:Value) (osl:Array (Option Value)),
  fd=PySem.W.fnOf x qual (aI9 st) (aAt st) (aAd st) .none kV doc pm an cdv ct/\K.lookup f=some ⟨oc,od,.func fd,osl⟩/\PySem.W.codeIn K cdv qual=true
 kp:PySem.W.keepIn K (.ref f)=true
section
variable {P:Program}{w:World}{K:PySem.W.Frag}{mg:Str->Option Value}{base:Heap}
theorem Fun.binds {x qual:Str}{st:Stmt}{f:Addr}{fd:FuncData}{ps:List Str}(F:Fun K x qual st f fd)
  (h: ∀(kV doc pm:Value) (an:Option Addr) (cdv ct:Value) (us:List Value),us.length=ps.length->bindArgs (PySem.W.fnOf x qual (aI9 st) (aAt st) (aAd st) .none kV doc pm an cdv ct) ⟨us,[]⟩=pure (ps.zip us)):Binds K fd ps []:=by
 obtain⟨oc,od,kV,doc,pm,an,cdv,ct,osl,rfl,lk,hcd⟩:=F.ex;exact .all (h kV doc pm an cdv ct)
theorem bJl {x qual:Str}{st:Stmt}{f:Addr}{oc:Value}{od an:Option Addr}{osl:Array (Option Value)}{kV doc pm cdv ct:Value}(l:K.lookup f=some ⟨oc,od,.func (PySem.W.fnOf x qual (aI9 st) (aAt st) (aAd st) .none kV doc pm an cdv ct),osl⟩)
  (c:PySem.W.codeIn K cdv qual=true) (k:PySem.W.keepIn K (.ref f)=true):Fun K x qual st f (PySem.W.fnOf x qual (aI9 st) (aAt st) (aAd st) .none kV doc pm an cdv ct):=⟨⟨oc,od,kV,doc,pm,an,cdv,ct,osl,rfl,l,c⟩,k⟩
end
theorem bD5 {A:Around}{k:Nat}(hr:aDm k A):A.units+1<cLine:=Nat.lt_of_le_of_lt (Nat.add_le_add_left (by decide:1<=64) _) hr.units
theorem bBq {n:Nat}(h:n<=1000):n<sizeLine:=Nat.lt_of_le_of_lt h (by decide)
section
variable {X:Cx}
theorem pv (i:Nat){x:Str}{pos:Pos}(hN:X.N[i]? =some x:=by rfl)(hv:Vis X.env.scope x:=by first | exact Or.inl rfl | exact Or.inr (Or.inl rfl) | exact Or.inr (Or.inr rfl))(hd:(x==("__debug__":Str))=false:=by decide)
  (hcd:(x==("__classdict__":Str))=false:=by decide):PE X (.Name x pos) (bTh i):=aGd hN hv hd hcd
theorem bE1:aJe X (.builtin "len") (fun xs H Q=> ∃a kvs,xs=[V.ref a]/\H a=some (.dK kvs)/\Q (.int kvs.length) H):=by
 intro pins s σ H xs us Q I r h;obtain⟨a,kvs,rfl,ha,q⟩:=h;obtain⟨u,rfl,ru⟩:=vals1 r;cases ru;exact bTa I (.inl ha) fun t s' I'=>⟨.int kvs.length,H,I',⟨t,rfl⟩,q⟩
end
def Same (H H':Hp):Prop:= ∀b o,H b=some o->H' b=some o
theorem Same.refl (H:Hp):Same H H:=fun _ _ h=>h
theorem Same.trans {H H1 H2:Hp}(a:Same H H1)(b:Same H1 H2):Same H H2:=fun c o h=>b c o (a c o h)
theorem Same.seq {K:PySem.W.Frag}{H H':Hp}{a:Addr}{xs:List V}(e:Same H H')(h:SqL K H a xs):SqL K H' a xs:=by
 rcases h with (h |⟨o,h⟩) | h
 ·exact .inl (.inl (e _ _ h))
 ·exact .inl (.inr ⟨o,e _ _ h⟩)
 ·exact .inr h
end L2
set_option maxHeartbeats 4000000
namespace L2.HD
open PySem PySem.W
def goU (thr okS:Thread->Bool)(f:SharedT->Thread->Option (SharedT×Thread)):Nat->SharedT->Thread->Option SharedT
 | 0,_,_=>none
 | n+1,s,t=>match thr t with
  | true=>some s
  | false=>match okS t with
   | false=>none
   | true=>match f s t with
    | some (s',t')=>goU thr okS f n s' t'
    | none=>none
theorem bEa {tb:String->Option Builtin}{p:Program}{w:World}{n₀:Nat}{ann:Option Value}: ∀{n:Nat} {s s':SharedT} {t:Thread},
  goU through (stepOk n₀ ann) (stepT (denote tb) p w) n s t=some s'->topRun tb p w n₀ ann n s.abs t=some s'.abs
 | 0,_,_,_,h=>by cases h
 | n+1,s,s',t,h=>by
  unfold goU at h;unfold topRun;cases ht:through t with
  | true=>rw[ht] at h;cases h;rfl
  | false=>
   rw[ht] at h;cases hk:stepOk n₀ ann t with
   | false=>rw[hk] at h;cases h
   | true=>
    rw[hk] at h;cases hs:stepT (denote tb) p w s t with
    | none=>rw[hs] at h;cases h
    | some r=>obtain⟨s₂,t₂⟩:=r;rw[hs] at h;rw[stepT_spec hs];exact bEa h
def T0 (P:Params):BT:=(((((((((((BT.nil.ins 0 (boot_o_0 P)).ins 1 (boot_o_1 P)).ins 2 (boot_o_2 P)).ins 3 (boot_o_3 P)).ins 4 (boot_o_4 P)).ins 5 (boot_o_5 P)).ins 6 (boot_o_6 P)).ins 7 (boot_o_7 P)).ins 8 (boot_o_8 P)).ins 9 (boot_o_9 P)).ins 10 (boot_o_10 P))
def S0 (w:World)(os:OsState):SharedT:=⟨T0 w.params,11,(boot_heap w.params).life,#[],boot_drawn,boot_toks,os⟩
theorem bQ4 (w:World)(os:OsState):(S0 w os).abs=⟨boot_heap w.params,#[],boot_drawn,boot_toks,os⟩:=by kernel_rfl
theorem bRx (w:World):((boot_heap w.params).isNs mainGlobals&&(#[]:Array GenState).size==0,(boot_heap w.params).objs.size,(boot_heap w.params).nsMap mainGlobals "__annotations__")=(true,11,some (.ref 6)):=by kernel_rfl
theorem bLy {p q:Program}{loose:List Str}{Xt:Shared->Bool}{α:Type}{Yf:Shared->α}{Ya:World->α}{N:Nat}{g0:Bool}
  (open_: ∀w:World,(fencedOpening treeTable p w N).map (fun s=>(s.heap,s.gens,s.drawn,s.toks))=some (boot_heap w.params,#[],boot_drawn,boot_toks))
  (run: ∀w:World,(fun os=>(goU through (stepOk 11 (some (.ref 6))) (stepT (denote treeTable) p w) N (S0 w os) (topStub p)).map (fun s=>
   ((staticsOk (importedModules p.main.body) (boot_heap w.params) s.abs.heap&&namesBound p s.abs.heap&&gensDone s.abs&&laidKept (boot_heap w.params) s.abs.heap),
    openSeen q loose (importedModules p.main.body) Xt g0 s.abs,Yf s.abs)))=fun _=>some (true,openGood q loose,Ya w)):LeftO p q loose Xt Yf Ya N g0:=fun w=>by
 obtain⟨⟨h,gs,d,k,os⟩,e,e'⟩:=Option.map_eq_some_iff.mp (open_ w);obtain⟨rfl,rfl,rfl,rfl⟩:h=boot_heap w.params/\gs= #[]/\d=boot_drawn/\k=boot_toks:=by simpa using e'
 obtain⟨s,r,z⟩:=Option.map_eq_some_iff.mp (congrFun (run w) os);have r:=bEa r;rw[bQ4] at r;obtain⟨z1,z2,z3⟩:_/\_/\_:=by simpa only[Prod.mk.injEq] using bRx w
 obtain⟨l1,l2,l3⟩:_/\_/\_:=by simpa only[Prod.mk.injEq] using z
 have t:topFrom treeTable p w N ⟨boot_heap w.params,#[],boot_drawn,boot_toks,os⟩=some s.abs:=by
  unfold topFrom
  dsimp only
  rw[z1,z2,z3,r];show (match staticsOk (importedModules p.main.body) (boot_heap w.params) s.abs.heap&&namesBound p s.abs.heap&&gensDone s.abs&&laidKept (boot_heap w.params) s.abs.heap with | true=>_ | false=>_)=_;rw[l1]
 unfold openEnds;rw[e];show (topFrom treeTable p w N _).map _=_;rw[t];exact congrArg some (Prod.ext l2 l3)
def vs (x:Str)(t:Nat):Value:= .str x t
def vi (i:Int):Value:= .int i 0
def de (P:Params)(x:Str)(t:Nat)(v:Value):DictEntry:=⟨PyData.keyHash P x,.str x t,v⟩
def ob (c:String)(d:Data):Obj:={cls:= .type c,data:=d}
def od (n:Nat)(es:List DictEntry):Obj:={cls:= .type "dict",data:= .dict es.toArray n}
def ot (xs:List Value):Obj:={cls:= .type "tuple",data:= .seq xs.toArray}
def ofd (c:String)(xs:List Value):Obj:={cls:= .type c,data:= .fields xs.toArray}
def oc (x:Str)(xt:Nat)(q:Str)(a b c d e:Nat)(xs:List Value)(f g h:Nat):Obj:=
 ofd "code" ([.str x xt,.str q a,.str "/claim/cut.py" b,vi c,vi d,vi 0,vi 0,vi e]++xs++ [vi f,vi g,.str "/claim/cut.py" h])
def of (x q:Str)(st:Stmt)(m:Str)(mt c:Nat):Obj:={cls:= .type "function",data:= .func (fnOf x q (aI9 st) (aAt st) (aAd st) .none .none .none (.str m mt) none (.ref c) .none)}
theorem holds_of {l:OpenLaw}{q:Program}{d:DefRec}{K:Params->Frag}{as:List Addr}{e: ∀P,as=(K P).map (·.1)}{N:Nat}
  (left:LeftO l.prog q [] (fun s=>xlAt q [] s&&recOk (RowW.records l.row.toRowW) s) (Hook.obs (kHook K as e)) (Hook.val (kHook K as e)) N)
  (said:l.row.wellSaid=true) (hdef:defOf q l.row.name=some (d,[])) (hp:l.row.prog.theDef l.row.name=some (d.params,d.body,d.scope)) (hk:kwWritten? d.params.kwonlyargs d.params.kw_defaults=some [])
  (hwr:(!l.row.writes || l.row.records.isEmpty)=true) (ok:(chainsOk q&&opensWell l.row.prog&&(frees l.row.toRowW&&l.row.within.isEmpty))=true) (hb:l.row.prog.bare) (hw:l.row.toRowW.promised)
  (call:WalkO q [] (XL q []) (Hook.says (kHook K as e)) l.row.toRowW d [] fun f vs=>PySem.call f vs):l.row.Holds:=
 holds_open (r:=l.row) (q:=q) (loose:=[]) (Xt:=fun s=>xlAt q [] s&&recOk (RowW.records l.row.toRowW) s) (XP:=XL q []) (Yf:=Hook.obs (kHook K as e)) (Ya:=Hook.val (kHook K as e)) (YP:=Hook.says (kHook K as e)) (N:=N)
  left (Hook.of (kHook K as e)) (Hook.keeps (kHook K as e)) (fun s e=>xl_of s (Bool.and_eq_true_iff.mp e).1) XL.keeps hdef hp hk (fun s e=>recFacts_of (Bool.and_eq_true_iff.mp e).2) hwr said ok hb hw call
theorem fo {K:Frag}{x q:Str}{st:Stmt}{f:Addr}{m:Str}{mt c:Nat}(ps:List Str)(l:K.lookup f=some (of x q st m mt c))(hc:codeIn K (.ref c) q=true)(hk:keepIn K (.ref f)=true)
  (b: ∀(kV doc pm:Value) (an:Option Addr) (cdv ct:Value) (us:List Value),us.length=ps.length->bindArgs (fnOf x q (aI9 st) (aAt st) (aAd st) .none kV doc pm an cdv ct) ⟨us,[]⟩=pure (ps.zip us)): ∃fd,Fun K x q st f fd/\Binds K fd ps []:=
 ⟨_,bJl (show K.lookup f=some ⟨_,_,.func (fnOf x q (aI9 st) (aAt st) (aAd st) .none .none .none (.str m mt) none (.ref c) .none),_⟩ from l) hc hk,(bJl (show K.lookup f=some ⟨_,_,.func (fnOf x q (aI9 st) (aAt st) (aAd st) .none .none .none (.str m mt) none (.ref c) .none),_⟩ from l) hc hk).binds b⟩
end L2.HD
namespace L2.PU
open PySem PySem.Spec PyProof.Rows
theorem bAq (t:SetTable)(es:Array (Int×Value))(h:Int)(x:Value):(layNew t es h x).2.1.led=t.led:=by
 unfold layNew;split
 ·unfold SetTable.orStandIn
  dsimp only
  split
  ·rfl
  ·rfl
 ·rfl
theorem aUx (t:SetTable)(es:Array (Int×Value))(h:Int)(x:Value):t.plain=false->(layNew t es h x).2.1.plain=false:=by
 intro hp;unfold layNew;split
 ·unfold SetTable.orStandIn
  dsimp only
  split
  ·exact hp
  ·rfl
 ·rfl
theorem aT6 {t t':SetTable}{hs:Array Int}{n:Nat}{o:Array Nat}(h:t.relaid hs n=some (t',o)):t'.led=t.led/\t'.plain=t.plain:=by
 unfold SetTable.relaid SetTable.laid at h;simp only[Option.bind_eq_bind,Option.bind_eq_some_iff] at h;obtain⟨a,_,e⟩:=h;cases e;exact⟨rfl,rfl⟩
theorem bCa (t:SetTable)(es:Array (Int×Value))(n:Nat):(relayAll t es n).2.1.led=t.led/\(t.plain=false->(relayAll t es n).2.1.plain=false):=by
 unfold relayAll;split
 ·rename_i t' order hr
  obtain⟨h1,h2⟩:=aT6 hr
  dsimp only
  split
  ·exact⟨h1,fun q=>h2.trans q⟩
  ·exact⟨rfl,fun _=>rfl⟩
 ·exact⟨rfl,fun _=>rfl⟩
theorem aTt {w:World}{h h':Heap}{a:Addr}(x:bA7 w h a)(e: ∀o,h.get? a=some o->h'.get? a=some o):bA7 w h' a:=let ⟨o,g,r⟩:=x;⟨o,e o g,r⟩
section
variable {prog:Program}{w:World}{A:Around}{E:Value->Shared->Prop}{s:Shared}
theorem aZo {g:Bool->Sem Unit}(hg: ∀(b:Bool) (s₁:Shared) (Q':Unit->Shared->Prop),Q' () s₁->wpAny (model prog w) A (g b) Q' E s₁)
  {a:Addr} {o:Obj} {es:Array (Int×Value)} {ep:Nat} {t:SetTable} (ho:s.heap.get? a=some o) (hex:o.ExactSet) (hd:o.data= .set es ep t)
  {es1:Array (Int×Value)} {t2:SetTable} {S':Str->Bool} (hel1:ElemsOf (PySem.strKind prog w) es1.toList) (hmem1: ∀k',S' k'=true↔∃e∈es1.toList,(PySem.strKind prog w).is k' e.2=true)
  (hb1:es1.size<scanBound) (hf2:t2.fits es1.size=true) (hl2:w.params.followText "set-order"=true\/t2.led=true) (hp2:t2.plain=false) {wasDummy:Bool} {R:Option Bool->Shared->Prop}
  (h: ∀h',Heap.SameBut a s.heap h'->h'.SetOf (PySem.strKind prog w) a S' es1.size->bA7 w h' a->R (some true) {s with heap:=h'}):
  wpAny (model prog w) A (do
    storeSet a es1 t2
    if (!wasDummy&&t2.tooFull)=true then do
      g (relayAll t2 es1 (SetTable.grown es1.size)).2.2
      storeSet a (relayAll t2 es1 (SetTable.grown es1.size)).1 (relayAll t2 es1 (SetTable.grown es1.size)).2.1
      pure (some true)
     else pure (some true)) R E s:=by
 refine wpAny_bind (wpAny_storeSet_of ho hd ?_ (fits_of_scanBound hb1));obtain⟨ho1,z1⟩:=SetOf_store (knd:=PySem.strKind prog w) ho hex hd hel1 hmem1 hb1 hf2;have sb1:=Heap.SameBut.update s.heap a (Obj.putSet es1 t2);split
 ·have hp:=relayAll_perm t2 es1 (SetTable.grown es1.size)
  have hfr:=relayAll_fits t2 es1 (SetTable.grown es1.size);obtain⟨r1,r2⟩:=bCa t2 es1 (SetTable.grown es1.size);generalize hRl:relayAll t2 es1 (SetTable.grown es1.size)=Rl at hp hfr r1 r2⊢;obtain⟨es2,t3,gave2⟩:=Rl
  dsimp only at hp hfr r1 r2⊢
  have hel2:=hel1.perm hp;have hmem2: ∀k',S' k'=true↔∃e∈es2.toList,(PySem.strKind prog w).is k' e.2=true:=fun k'=>(hmem1 k').trans ⟨fun⟨e,he,q⟩=>⟨e,hp.mem_iff.mpr he,q⟩,fun⟨e,he,q⟩=>⟨e,hp.mem_iff.mp he,q⟩⟩
  have hsz:es2.size=es1.size:=by rw[<-Array.length_toList,hp.length_eq,Array.length_toList]
  have hb2:es2.size<scanBound:=by rw[hsz];exact hb1
  refine wpAny_bind (hg _ _ _ (wpAny_bind (wpAny_storeSet_of ho1 rfl ?_ (fits_of_scanBound hb2))));obtain⟨o2,z2⟩:=SetOf_store (knd:=PySem.strKind prog w) ho1 hex rfl hel2 hmem2 hb2 hfr;rw[hsz] at z2;exact wpAny_pure (h _ (sb1.trans (Heap.SameBut.update _ a _)) z2 ⟨_,o2,_,_,_,rfl,by rw[r1];exact hl2,.inr (r2 hp2)⟩)
 ·exact wpAny_pure (h _ sb1 z1 ⟨_,ho1,_,_,_,rfl,hl2,.inr hp2⟩)
theorem bId {a:Addr}{S:Str->Bool}{n:Nat}{k:Str}{u:Tok}{Q:Bool->Shared->Prop}(zS:s.heap.SetOf (PySem.strKind prog w) a S n)(zT:bA7 w s.heap a)(hroom:n+1<scanBound)
  (h: ∀h',Heap.SameBut a s.heap h'->h'.SetOf (PySem.strKind prog w) a (fun k'=>S k' || decide (k'=k)) (if S k then n else n+1)->bA7 w h' a->Q (!S k) {s with heap:=h'}):
  wpAny (model prog w) A (setAddHashed a (.str k u) ((PySem.strKind prog w).hash k)) Q E s:=by
 have hkey:(PySem.strKind prog w).is k (.str k u)=true:=by simp[PySem.strKind,Value.isStrOf]
 have hsc:(Value.str k u).scannable=true:=rfl;obtain⟨o,es,ep,t,ho,hex,hd,hel,hmem,hb,hf,hn⟩:=id zS;obtain⟨o',ho',es',ep',t',hd',bRb,hpl⟩:=id zT;rw[ho] at ho';cases ho';rw[hd] at hd';cases hd';have hb1:es.size+1<scanBound:=by rw[hn];exact hroom
 unfold setAddHashed setAddHashedIn;refine wpAny_holding (wpAny_bind (wpAny_setState_of ho hd hf ?_))
 dsimp only
 rw[byScan_of hsc hb hel];simp only[↓reduceIte];unfold setAddByScan;refine wpAny_bind (wpAny_bind (wpAny_rule (wpAny_bind (wpAny_setScan_of hkey ho hd hf hel ?_))));cases hr:List.findIdx? (fun e=>(PySem.strKind prog w).is k e.2) es.toList with
 | some j=>
  dsimp only
  obtain⟨hj,hpj,_⟩:=List.findIdx?_eq_some_iff_getElem.mp hr;have hSk:S k=true:=(hmem k).mpr ⟨es.toList[j],List.getElem_mem hj,hpj⟩;refine wpAny_pure (wpAny_pure ?_);have e:s={s with heap:=s.heap}:=by cases s;rfl
  have:=h s.heap (Heap.SameBut.refl a s.heap) ⟨o,es,ep,t,ho,hex,hd,hel,fun k'=>by
   rw[Bool.or_eq_true,decide_eq_true_eq,<-hmem k'];exact⟨fun hk=>hk.elim id (fun e=>e▸hSk),.inl⟩,hb,hf,by rw[hSk];exact hn⟩ zT
  rw[hSk] at this;rw[e];exact this
 | none=>
  dsimp only
  have hSk:S k=false:=by
   cases hk:S k with
   | false=>rfl
   | true=>obtain⟨e,he,hp⟩:=(hmem k).mp hk;have:=List.findIdx?_eq_none_iff.mp hr e he;rw[hp] at this;exact Bool.noConfusion this
  have hgw: ∀(b:Bool) {s₁:Shared} {Q':Unit->Shared->Prop},Q' () s₁->wpAny (model prog w) A (match b with | true=>rule "set.scan.the-table-gave-way" | false=>pure ()) Q' E s₁:=
   fun b s₁ Q' hq=>by cases b<;>first | exact wpAny_pure hq | exact wpAny_rule hq
  have hperm:=layNew_perm t es ((PySem.strKind prog w).hash k) (.str k u);have hfits:=layNew_fits t es ((PySem.strKind prog w).hash k) (.str k u);have bHt:=bAq t es ((PySem.strKind prog w).hash k) (.str k u);have bTy:=aUx t es ((PySem.strKind prog w).hash k) (.str k u);generalize hL:layNew t es ((PySem.strKind prog w).hash k) (.str k u)=L at hperm hfits bHt bTy⊢;obtain⟨es1,t1,wasDummy,gave⟩:=L
  dsimp only at hperm hfits bHt bTy⊢
  rw[Array.toList_push] at hperm;have hel1:=(hel.push hkey hsc).perm hperm;have hmem1: ∀k',(S k' || decide (k'=k))=true↔∃e∈es1.toList,(PySem.strKind prog w).is k' e.2=true:=mem_push_iff hkey hmem hperm;have hb1':es1.size<scanBound:=by rw[<-Array.length_toList,hperm.length_eq,List.length_append,Array.length_toList];simpa using hb1
  refine wpAny_bind (hgw _ ?_);have hsz1:es1.size=n+1:=by rw[<-Array.length_toList,hperm.length_eq,List.length_append,Array.length_toList,hn];rfl
  have hend: ∀h',Heap.SameBut a s.heap h'->h'.SetOf (PySem.strKind prog w) a (fun k'=>S k' || decide (k'=k)) es1.size->bA7 w h' a->Q true {s with heap:=h'}:=by
   intro h' hsb z' zt;have:=h h' hsb;rw[hSk] at this;rw[hsz1] at z';exact this z' zt
  split
  ·refine wpAny_bind ?_
   rw[hashByValue_scannable 8 hsc];refine wpAny_pure ?_;refine aZo ?_ ho hex hd hel1 hmem1 hb1' ?_ ?_ ?_ ?_
   ·intro b s₁ Q' hq;cases b<;>first | exact wpAny_pure hq | exact wpAny_rule hq
   ·exact SetTable.fits_plain_off hfits
   ·show _\/t1.led=true
    rw[bHt];exact bRb
   ·rfl
   ·intro h' hsb z' zt;dsimp only;exact wpAny_pure (hend h' hsb z' zt)
  ·rename_i hnp
   refine wpAny_bind (wpAny_pure ?_);simp only[↓reduceIte];refine aZo ?_ ho hex hd hel1 hmem1 hb1' hfits ?_ ?_ ?_
   ·intro b s₁ Q' hq;cases b<;>first | exact wpAny_pure hq | exact wpAny_rule hq
   ·rw[bHt];exact bRb
   ·exact Bool.eq_false_iff.mpr hnp
   ·intro h' hsb z' zt;dsimp only;exact wpAny_pure (hend h' hsb z' zt)
end
def aZr (σ:List Str)(v:Str):List Str:=if σ.contains v then σ else σ++ [v]
def aJj (vs:List Str):List Str:=vs.foldl aZr []
theorem bDb (vs:List Str)(v:Str):aJj (vs++ [v])=aZr (aJj vs) v:=by unfold aJj;rw[List.foldl_append];rfl
theorem aZq (σ:List Str)(v k:Str):(aZr σ v).contains k=(σ.contains k || decide (k=v)):=by
 unfold aZr;by_cases h:σ.contains v=true
 ·rw[if_pos h]
  by_cases e:k=v
  ·subst e;rw[h];simp
  ·simp[e]
 ·rw[if_neg h]
  by_cases e:k=v
  ·subst e;simp
  ·simp[e,List.contains_iff_mem]
theorem aZp (σ:List Str)(v:Str):(aZr σ v).length=if σ.contains v then σ.length else σ.length+1:=by unfold aZr;split<;>simp
theorem bDc (vs:List Str):(aJj vs).length<=vs.length:=by
 have g: ∀(vs σ:List Str),(vs.foldl aZr σ).length<=σ.length+vs.length:=by
  intro vs
  induction vs with
  | nil=>intro σ;exact Nat.le_refl _
  | cons v vs ih=>
   intro σ;rw[List.foldl_cons];have h1:=ih (aZr σ v);have h2:(aZr σ v).length<=σ.length+1:=by rw[aZp];split<;>omega
   rw[List.length_cons];omega
 have:=g vs [];unfold aJj
 simpa using this
theorem bHk (vs:List Str)(k:Str):(aJj vs).contains k=vs.contains k:=by
 have g: ∀(vs σ:List Str),(vs.foldl aZr σ).contains k=(σ.contains k || vs.contains k):=by
  intro vs
  induction vs with
  | nil=>intro σ;simp
  | cons v vs ih=>
   intro σ;rw[List.foldl_cons,ih,aZq,List.contains_cons];by_cases e:k=v
   ·subst e;simp
   ·have e':(k==v)=false:=by simpa using e
    simp[e,e']
 have:=g vs [];unfold aJj
 simpa using this
section
variable {prog:Program}{w:World}{A:Around}{R:Result->Shared->Prop}{I:Addr}{fp wr:List Addr}{G:Array GenState->Array GenState->Prop}{n:Nat}{P:Nat->Value->Prop}{St:Nat->Shared->Prop}
theorem aQo {h:Heap}{a:Addr}{σ τ:List Str}{m:Nat}{S:Str->Bool}(z:h.SetOf (PySem.strKind prog w) a S m)(e: ∀k,S k=τ.contains k)(en:m=τ.length):h.SetOf (PySem.strKind prog w) a (fun k=>τ.contains k) τ.length:=by
 have e':S=fun k=>τ.contains k:=funext e
 subst e' en;exact z
theorem aQp {h h':Heap}{a:Addr}{m:Nat}{S:Str->Bool}(z:h.SetOf (PySem.strKind prog w) a S m)(e: ∀o,h.get? a=some o->h'.get? a=some o):h'.SetOf (PySem.strKind prog w) a S m:=by
 obtain⟨o,es,ep,t,ho,rest⟩:=z;exact⟨o,es,ep,t,e o ho,rest⟩
theorem bF6 (W:WalksS prog w A.in1 I fp wr G n P St)(S:Addr)(hSf:S∉fp)(vs:List Str)(hn:vs.length=n)(hval: ∀i v,P i v->∃t,v= .str (vs.getD i Str.empty) t)(hb:n+1<scanBound):
  ∀(k i:Nat) (s:Shared),n-i=k->i<=n->St i s->s.heap.SetOf (PySem.strKind prog w) S (fun k=>(aJj (vs.take i)).contains k) (aJj (vs.take i)).length->bA7 w s.heap S->
   (∀s',Moved (S::wr) G s s'->s'.heap.SetOf (PySem.strKind prog w) S (fun k=>(aJj vs).contains k) (aJj vs).length->bA7 w s'.heap S->R (.ok (.ret .none)) s')->
   codeAny (model prog w) A (.builtin "set.update.loop" ⟨[.ref S,.ref I],[]⟩) R s:=by
 have nw:S∉wr:=fun z=>hSf (W.sub _ z)
 have up: ∀b∈wr,b∈S::wr:=fun b q=>List.mem_cons_of_mem _ q
 intro k
 induction k with
 | zero=>
  intro i s hk hi st zS zT q;have ei:i=n:=by omega
  subst ei;rw[<-hn,List.take_length] at zS;refine codeAny_builtin PyProof.Rows.F.entry_set_update_loop ?_;rw[Around.under_plainId PyProof.Rows.F.plain_set_update_loop _];show wpAny _ A.in1 (pyNext (.ref I)>>=_) _ _ s;refine wpAny_bind (W.done s _ _ st fun s' m=> ?_);exact wpAny_pure (q s' (m.mono up) (aQp zS fun o e=>m.heap S o nw e) (aTt zT fun o e=>m.heap S o nw e))
 | succ k ih=>
  intro i s hk hi st zS zT q;have lt:i<n:=by omega
  refine codeAny_builtin PyProof.Rows.F.entry_set_update_loop ?_;rw[Around.under_plainId PyProof.Rows.F.plain_set_update_loop _];show wpAny _ A.in1 (pyNext (.ref I)>>=_) _ _ s;refine wpAny_bind (W.item i s _ _ lt st fun v s' hP st' m=> ?_);obtain⟨t,rfl⟩:=hval i v hP;have zS':=aQp zS fun o e=>m.heap S o nw e
  have zT':=aTt zT fun o e=>m.heap S o nw e
  show wpAny _ A.in1 (holding [Value.str (vs.getD i Str.empty) t] (setAdd S (.str (vs.getD i Str.empty) t))>>=_) _ _ s';refine wpAny_bind (wpAny_holding ?_);unfold setAdd;have key:(PySem.strKind prog w).is (vs.getD i Str.empty) (.str (vs.getD i Str.empty) t)=true:=by simp[PySem.strKind,Value.isStrOf]
  refine wpAny_holding (wpAny_bind ((PySem.strKind prog w).pyHash key ?_));have room:(aJj (vs.take i)).length+1<scanBound:=by
   have:=bDc (vs.take i);rw[List.length_take] at this;omega
  refine bId (s:={s' with toks:=s'.toks+1}) zS' zT' room fun h' sb z2 zt2=> ?_
  have es:aJj (vs.take (i+1))=aZr (aJj (vs.take i)) (vs.getD i Str.empty):=by
   have hlt:i<vs.length:=by omega
   rw[<-bDb,List.take_succ,List.getElem?_eq_getElem hlt,List.getD_eq_getElem?_getD,List.getElem?_eq_getElem hlt];rfl
  have z3:h'.SetOf (PySem.strKind prog w) S (fun k=>(aJj (vs.take (i+1))).contains k) (aJj (vs.take (i+1))).length:=
   aQo (σ:=[]) z2 (fun k'=>by rw[es,aZq]) (by rw[es,aZp])
  refine wpAny_pure ⟨plainId_quiet PyProof.Rows.F.plain_set_update_loop _,ih (i+1) _ (by omega) lt (W.frame _ s' _ _ st' (Nat.le_succ _) fun b hb' o e=> ?_) z3 zt2 fun s'' m'' z'' bT7=> ?_⟩
  ·rw[sb.2 b (fun z:b=S=>hSf (by rw[<-z];exact hb'))];exact e
  ·refine q s'' (Moved.trans W.gtrans ((m.mono up).then_heap (Nat.le_succ _) fun b o hb' e=> ?_) m'') z'' bT7
   rw[sb.2 b (fun z:b=S=>hb' (by rw[z];exact List.mem_cons_self))];exact e
end
def bPw (w:World):Bool:= !w.params.followText "set-order"
abbrev bFu (led:Bool):Obj:={cls:= .type "set",dict:=none,data:= .set #[] 0 (.fresh 0 0 led)}
theorem sub_tuple_set:isSubtype (.type "tuple") (.type "set")=pure false:=by rw[isSubtype_type];kernel_rfl
theorem sub_tuple_frozenset:isSubtype (.type "tuple") (.type "frozenset")=pure false:=by rw[isSubtype_type];kernel_rfl
theorem bFx {w:World}{h:Heap}{a:Addr}(e:h.get? a=some (bFu (bPw w))):bA7 w h a:=by
 refine⟨_,e,#[],0,_,rfl,?_,.inl rfl⟩;show _\/bPw w=true;unfold bPw;cases w.params.followText "set-order"<;>simp
section
variable {prog:Program}{w:World}{A:Around}{E:Value->Shared->Prop}{s:Shared}
theorem aVd (a:Value){Q₁:Value->Shared->Prop}(h:Q₁ (.ref s.heap.objs.size) {s with heap:=s.heap.push (bFu (bPw w))}):
  codeAny (model prog w) A (.call (.builtin "set.__new__") ⟨[.type "set",a],[]⟩) (wants Q₁ E) s:=by
 refine codeAny_of_tree (show wpAny _ A.in1 (do checkBuiltinCall "set.__new__" ⟨[.type "set",a],[]⟩;again (.builtin "set.__new__" ⟨[.type "set",a],[]⟩)) _ _ s from ?_);refine wpAny_bind (wpAny_of_eq (F.newCall_set_1 a) (wpAny_pure ⟨plainId_quiet F.plain_set_new _,codeAny_builtin F.entry_set_new ?_⟩));rw[Around.under_plainId F.plain_set_new _];unfold Builtin.«set.__new__» Builtin.Frozenset.newClass;have hsub:=sub_set_self;obtain⟨hp,g,d,tk,os⟩:=s
 dsimp only
 wp_walk
 refine wpAny_askSetting (wpAny_pure ?_)
 dsimp only
 simp only[newObj];exact wpAny_bind (wpAny_alloc (wpAny_pure (wpAny_pure h)))
theorem aYd {l:Addr}{items:Array Value}{T:String}{o:Obj}{nn:Nat}{Q:Value->Shared->Prop}(hT:T="list"\/T="tuple")(hh:A.handled=none)(ho:s.heap.get? l=some o)(hc:o.cls= .type T)(hd:o.data= .seq items nn)
  (h: ∀(ob:Obj) (St:Nat->Heap->Prop),(∀A',A'.handled=none->Walks prog w A' s.heap.objs.size [s.heap.objs.size,l] [s.heap.objs.size] items.size (fun i v=>items[i]? =some v) St)->St 0 (s.heap.push ob)->Q (.ref s.heap.objs.size) {s with heap:=s.heap.push ob}):
  wpAny (model prog w) A (pyIter (.ref l)) Q E s:=by
 have lt:l<s.heap.objs.size:=Heap.lt_size ho;rcases hT with rfl | rfl
 ·have hl:s.heap.IsList l items:=⟨o,ho,hc,nn,hd⟩
  exact wpAny_pyIter_list hl (h _ _ (fun A' hA=>Walks.list hA _ l (Nat.ne_of_lt lt) items) ⟨⟨_,Heap.get?_push_size _ rfl,rfl,rfl⟩,hl.push _⟩)
 ·have hl:s.heap.IsTuple l items:=⟨o,ho,hc,nn,hd⟩
  exact wpAny_pyIter_tuple hl (h _ _ (fun A' hA=>Walks.tuple hA _ l (Nat.ne_of_lt lt) items) ⟨⟨_,Heap.get?_push_size _ rfl,rfl,rfl⟩,hl.push _⟩)
theorem aVh {l:Addr}{items:Array Value}{T:String}{o:Obj}{nn:Nat}{vs:List Str}{Q:Value->Shared->Prop}(hT:T="list"\/T="tuple")(hh:A.handled=none)(ho:s.heap.get? l=some o)(hc:o.cls= .type T)(hd:o.data= .seq items nn)
  (hv: ∀(i:Nat) (v:Value),items[i]? =some v->∃t,v=Value.str (vs.getD i Str.empty) t) (hn:vs.length=items.size) (hb:items.size+1<scanBound)
  (h: ∀(h':Heap) (tk:Nat),h'.SetOf (PySem.strKind prog w) s.heap.objs.size (fun k=>(aJj vs).contains k) (aJj vs).length->bA7 w h' s.heap.objs.size->(∀b u,s.heap.get? b=some u->h'.get? b=some u)->Q (.ref s.heap.objs.size) {s with heap:=h',toks:=tk}):
  wpAny (model prog w) A (call (.type "set") [.ref l]) Q E s:=by
 obtain⟨c,tl,hmro⟩:=F.called_set.mro;have hmade:=F.called_set.made;have hsub:=F.called_set.sub;have lt:l<s.heap.objs.size:=Heap.lt_size ho;refine wpAny_call (codeAny_of_tree ?_);show wpAny _ _ (callAny (.type "set") _) _ _ _;refine wpAny_pure ⟨Code.quiet_builtin _ (by decide+kernel),codeAny_builtin F.entry_type_call ?_⟩;rw[Around.under_plain (weight_type_call_type "set" [.ref l] []) rfl];have h1:=F.called_set.notType;have h2:=F.called_set.canCreate;have hct:=F.typeCall_set_1 (.ref l)
 repeat (any_goals (first | assumption | wp_step))
 refine codeAny_mono (aVd (.ref l) (E:=E) (Q₁:=fun obj s₁=> ∃led:Bool,led=bPw w/\obj= .ref s.heap.objs.size/\s₁={s with heap:=s.heap.push (bFu led)}) ⟨_,rfl,rfl,rfl⟩) fun r s₁ hr=> ?_
 cases r with
 | error e=>exact hr
 | ok fl=>
  cases fl with
  | ret obj=>
   obtain⟨led,bRb,rfl,rfl⟩:=hr;have zS:(s.heap.push (bFu led)).get? s.heap.objs.size=some (bFu led):=Heap.get?_push_size _ rfl;have tS:Shared.TypeIs {s with heap:=s.heap.push (bFu led)} (.ref s.heap.objs.size) "set":=⟨_,zS,rfl⟩;have hli:=F.called_set.init.lookup;have hbi:=F.called_set.init.bind (.ref s.heap.objs.size)
   repeat (any_goals (first | assumption | wp_step))
   refine codeAny_mono (codeAny_call_builtin (R:=wants (fun r s₂=>r= .none/\∃h' tk,s₂={s with heap:=h',toks:=tk}/\h'.SetOf (PySem.strKind prog w) s.heap.objs.size (fun k=>(aJj vs).contains k) (aJj vs).length/\bA7 w h' s.heap.objs.size/\
     (∀b u,s.heap.get? b=some u->h'.get? b=some u)) E) F.called_set.init.plain F.entry_set_init (check_set_init_1 tS ?_)) fun r₂ s₂ hr₂=> ?_
   ·have ho':(s.heap.push (bFu led)).get? l=some o:=Heap.get?_push_of_some _ ho
    have tL:Shared.TypeIs {s with heap:=s.heap.push (bFu led)} (.ref l) T:=⟨o,ho',hc⟩;have ns:isSubtype (.type T) (.type "set")=pure false:=by rcases hT with rfl | rfl<;>first | exact F.sub_list_set | exact sub_tuple_set
    have nf:isSubtype (.type T) (.type "frozenset")=pure false:=by rcases hT with rfl | rfl<;>first | exact F.sub_list_frozenset | exact sub_tuple_frozenset
    have nd:(Value.type T==Value.type "dict")=false:=by rcases hT with rfl | rfl<;>decide
    unfold Builtin.«set.__init__» noKeywords Builtin.Frozenset.updateFrom;generalize hPI:pyIter=PI
    wp_walk
    subst hPI;refine aYd (A:=A.in1.in1) hT (by simp[hh]) ho' hc hd fun ob St W st0=> ?_
    refine wpAny_bind (wpAny_runValue ?_);have sz:(s.heap.push (bFu led)).objs.size=s.heap.objs.size+1:=Heap.size_push _ _;have apart:s.heap.objs.size∉[(s.heap.push (bFu led)).objs.size,l]:=by
     rw[sz];simp only[List.mem_cons,List.not_mem_nil,or_false,not_or];exact⟨by omega,Nat.ne_of_gt lt⟩
    refine bF6 ((W _ (by simp[hh])).toS) s.heap.objs.size apart vs hn (fun i v q=>hv i v q) hb (items.size-0) 0 _ (by omega) (Nat.zero_le _) st0 ?_ ?_ fun s' m z' zt'=> ?_
    ·exact aQo (σ:=[]) (τ:=[]) ((PyProof.Rows.setObjOf_fresh (knd:=PySem.strKind prog w) led).setOf (Heap.get?_push_of_some _ zS) (by decide)) (fun _=>rfl) rfl
    ·exact bFx (by rw[<-bRb];exact Heap.get?_push_of_some _ zS)
    ·obtain⟨h',g',d',tk',os'⟩:=s'
     have eg:g'=s.gens:=m.gens;have ed:d'=s.drawn:=m.drawn;have eo:os'=s.os:=m.os;subst eg ed eo;refine wpAny_pure (show wpAny _ _ (ret Value.none) _ _ _ from wpAny_pure ⟨rfl,h',tk',rfl,z',zt',fun b u q=> ?_⟩);have lb:=Heap.lt_size q;refine m.heap b u ?_ (Heap.get?_push_of_some _ (Heap.get?_push_of_some _ q));rw[sz];simp only[List.mem_cons,List.not_mem_nil,or_false,not_or];have lb':b<s.heap.objs.size:=lb;exact⟨Nat.ne_of_lt lb',Nat.ne_of_lt (Nat.lt_succ_of_lt lb')⟩
   ·cases r₂ with
    | error e=>exact hr₂
    | ok fl₂=>
     cases fl₂ with
     | ret r=>
      obtain⟨rfl,h',tk,rfl,z',zt',k'⟩:=hr₂
      repeat (any_goals (first | assumption | wp_step))
      exact h _ _ z' zt' k'
     | _=>exact hr₂.elim
  | _=>exact hr.elim
end
theorem aBx:PySem.Slot "set_iterator" "__next__" "set_iterator.__next__":= .of (owner:="set_iterator") (n:="__next__") (by rw[typeLookup_type,builtinLookup_eq_fast];kernel_rfl) (by decide+kernel) (by decide+kernel) (by decide+kernel) (by first | exact .inl (by decide+kernel) | exact .inr (by decide+kernel)) (by rw[isSubtype_type];kernel_rfl)
theorem aMg:PySem.Slot "set_iterator" "__iter__" "set_iterator.__iter__":= .of (owner:="set_iterator") (n:="__iter__") (by rw[typeLookup_type,builtinLookup_eq_fast];kernel_rfl) (by decide+kernel) (by decide+kernel) (by decide+kernel) (by first | exact .inl (by decide+kernel) | exact .inr (by decide+kernel)) (by rw[isSubtype_type];kernel_rfl)
theorem aF3:entryFor table "set_iterator.__next__"=some Builtin.«set_iterator.__next__»:=entryFor_of_tree (by kernel_rfl)
theorem aS9:entryFor table "set_iterator.__iter__"=some Builtin.«dict_keyiterator.__iter__»:=entryFor_alias (id':="dict_keyiterator.__iter__") (by kernel_rfl) rfl (by decide+kernel) (by kernel_rfl)
theorem aG0 (a:Value):argsOk "set_iterator.__next__" ⟨[a],[]⟩:=by unfold argsOk;kernel_rfl
theorem aVw (a:Value):argsOk "set_iterator.__iter__" ⟨[a],[]⟩:=by unfold argsOk;kernel_rfl
theorem aQl:entryFor table "set.__iter__"=some Builtin.«frozenset.__iter__»:=entryFor_alias (id':="frozenset.__iter__") (by kernel_rfl) rfl (by decide+kernel) (by kernel_rfl)
theorem aTi (a:Value):argsOk "set.__iter__" ⟨[a],[]⟩:=by unfold argsOk;kernel_rfl
section
variable {prog:Program}{w:World}{A:Around}{E:Value->Shared->Prop}{s:Shared}
theorem aRg {α:Type}{l:List α}{i:Nat}(h:i<l.length):(l[i]::l.eraseIdx i).Perm l:=by
 rw[List.eraseIdx_eq_take_drop_succ];have e:l.take i++l[i]::l.drop (i+1)=l:=by rw[<-List.drop_eq_getElem_cons h,List.take_append_drop]
 have p:= @List.perm_middle α l[i] (l.take i) (l.drop (i+1));rw[e] at p;exact p.symm
theorem aTq {src:Source}{n:Nat}{Q:Nat->Shared->Prop}(h0:n≠0)(h: ∀i,i<n->∀d,Q i {s with drawn:=d}):wpAny (model prog w) A (choose src n) Q E s:=by
 intro Γ p hΓ;unfold choose;rw[Sem.wp_choose];refine⟨h0,?_⟩;exact h _ (Nat.mod_lt _ (Nat.pos_of_ne_zero h0)) _
theorem bA0 {α:Type}(n:Nat): ∀(xs:List α) (s:Shared) (Q:List α->Shared->Prop),xs.length=n->(∀ys d,ys.Perm xs->Q ys {s with drawn:=d})->wpAny (model prog w) A (drawOrder n xs) Q E s:=by
 induction n with
 | zero=>
  intro xs s Q hn h;cases xs with
  | cons _ _=>rw[List.length_cons] at hn;exact absurd hn (Nat.succ_ne_zero _)
  | nil=>
   unfold drawOrder;exact wpAny_pure (h [] s.drawn (List.Perm.refl _))
 | succ n ih=>
  intro xs s Q hn h;cases xs with
  | nil=>exact absurd hn.symm (Nat.succ_ne_zero _)
  | cons x xs=>
   unfold drawOrder;refine wpAny_bind (aTq (by simp) fun i hi d=> ?_);rw[List.getElem?_eq_getElem hi]
   dsimp only
   refine wpAny_bind (ih ((x::xs).eraseIdx i) _ _ ?_ fun ys d' hp=>wpAny_pure ?_)
   ·rw[List.length_eraseIdx_of_lt hi];omega
   ·refine h _ d' ?_
    exact (List.Perm.cons _ hp).trans (aRg hi)
theorem aUa {α:Type}(next:Nat->Nat): ∀(n k:Nat) (left:List α) (out:Array α),left.length=n->(pickOrder.go next n k left out).toList.Perm (out.toList++left)
 | 0,k,[],out,_=>by unfold pickOrder.go;simp
 | n+1,k,x::left,out,hn=>by
  unfold pickOrder.go;have hl:next k%(x::left).length<(x::left).length:=Nat.mod_lt _ (by simp);rw[List.getElem?_eq_getElem hl]
  dsimp only
  refine (aUa next n (k+1) _ _ ?_).trans ?_
  ·rw[List.length_eraseIdx_of_lt hl];omega
  ·rw[Array.toList_push,List.append_assoc]
   exact List.Perm.append_left _ (aRg hl)
theorem aLr {α:Type}(next:Nat->Nat)(es:Array α):(pickOrder next es).toList.Perm es.toList:=by
 have:=aUa next es.size 0 es.toList #[] (by simp)
 simpa[pickOrder] using this
def bA8 (h:Heap)(it:Addr)(first:Value)(i:Int)(a:Addr)(n ep:Int):Prop:= ∃o,h.get? it=some o/\o.cls= .type "set_iterator"/\o.data= .fields #[first,rawInt i,.ref a,rawInt n,rawInt ep]
def aPp (h:Heap)(a:Addr)(es:Array (Int×Value))(ep:Nat)(t:SetTable):Prop:= ∃o,h.get? a=some o/\o.data= .set es ep t
theorem aWf {it a:Addr}{first:Value}{i n ep:Int}{Q:Value->Shared->Prop}(hi:bA8 s.heap it first i a n ep)(q:Q (.ref it) s):wpAny (model prog w) A (pyIter (.ref it)) Q E s:=by
 obtain⟨o,ho,hc,hd⟩:=hi;have hT:s.TypeIs (.ref it) "set_iterator":=⟨o,ho,hc⟩;refine wpAny_pyIter_slot hT aMg (wpAny_call_entry aMg hT aS9 ?_ (aVw _));exact wpAny_pure ⟨_,rfl,"set_iterator",_,hT,aBx.lookup,q⟩
theorem aRy {it a tp:Addr}{π:List Nat}{i:Nat}{es:Array (Int×Value)}{ep:Nat}{t:SetTable}{k:Nat}{hv:Int}{x:Value}{Q:Option Value->Shared->Prop}(hi:bA8 s.heap it (.ref tp) i a es.size ep)(hs:aPp s.heap a es ep t)(hf:t.fits es.size=true)
  (htp:IsTup s.heap tp (π.map fun (j:Nat)=>rawInt j).toArray) (hk:π[i]? =some k) (hx:es[k]? =some (hv,x))
  (q: ∀h',bA8 h' it (.ref tp) ((i:Int)+1) a es.size ep->Heap.SameBut it s.heap h'->Q (some x) {s with heap:=h'}):wpAny (model prog w) A (pyNext (.ref it)) Q E s:=by
 obtain⟨o,ho,hc,hd⟩:=id hi;obtain⟨oa,hoa,hda⟩:=id hs;obtain⟨ot,hot,hct,nt,hdt⟩:=id htp;have hT:s.TypeIs (.ref it) "set_iterator":=⟨o,ho,hc⟩;have hpl:(π.map fun (j:Nat)=>rawInt j).toArray[i]? =some (rawInt k):=by simp[hk]
 unfold pyNext;refine wpAny_bind (wpAny_attempt (wpAny_callSpecial?_slot (name:=Str.ofString "__next__") hT aBx (wpAny_call_entry aBx hT aF3 ?_ (aG0 _))));unfold Builtin.«set_iterator.__next__»;obtain⟨c1,d1,x1,l1⟩:=o
 dsimp only at hc hd
 subst hc hd
 wp_walk using AutoSeq1.wpAny_loadPart' ho,wpAny_setEntries_of hoa hda hf,wpAny_setState_of hoa hda hf,wpAny_seqItems hot hdt
 rw[Int.toNat_natCast,hpl];show wpAny _ _ (setNextDrawn a (k:Int).toNat (ep:Int).toNat>>=_) _ _ _;rw[Int.toNat_natCast,Int.toNat_natCast];unfold setNextDrawn;refine wpAny_bind (wpAny_bind (wpAny_setState_of hoa hda hf ?_))
 dsimp only
 rw[if_neg (by simp),hx];refine wpAny_pure ?_;refine wpAny_bind (wpAny_setField ho rfl (by simp) (wpAny_pure ⟨x,rfl,wpAny_pure (q _ ?_ (Heap.SameBut.update ..))⟩));exact⟨_,Heap.get?_update_self _ ho (Obj.isFreed_of_fields (Obj.data_mapFields rfl _)),Obj.cls_mapFields ..,by rw[Obj.data_mapFields rfl];simp[rawInt]⟩
theorem aT2 {it a tp:Addr}{π:List Nat}{es:Array (Int×Value)}{ep:Nat}{t:SetTable}{Q:Option Value->Shared->Prop}(hh:A.handled=none)(hi:bA8 s.heap it (.ref tp) π.length a es.size ep)(hs:aPp s.heap a es ep t)(hf:t.fits es.size=true)
  (htp:IsTup s.heap tp (π.map fun (j:Nat)=>rawInt j).toArray) (q: ∀h' tk,Heap.ExtBut it s.heap h'->Q none {s with heap:=h',toks:=tk}):wpAny (model prog w) A (pyNext (.ref it)) Q E s:=by
 obtain⟨o,ho,hc,hd⟩:=id hi;obtain⟨oa,hoa,hda⟩:=id hs;obtain⟨ot,hot,hct,nt,hdt⟩:=id htp;have hT:s.TypeIs (.ref it) "set_iterator":=⟨o,ho,hc⟩;have hpl:(π.map fun (j:Nat)=>rawInt j).toArray[π.length]? =none:=by simp
 unfold pyNext;refine wpAny_bind (wpAny_attempt (wpAny_callSpecial?_slot (name:=Str.ofString "__next__") hT aBx (wpAny_call_entry aBx hT aF3 ?_ (aG0 _))));unfold Builtin.«set_iterator.__next__»;obtain⟨c1,d1,x1,l1⟩:=o
 dsimp only at hc hd
 subst hc hd
 wp_walk using AutoSeq1.wpAny_loadPart' ho,wpAny_setEntries_of hoa hda hf,wpAny_setState_of hoa hda hf,wpAny_seqItems hot hdt
 rw[Int.toNat_natCast,hpl]
 wp_walk using AutoSeq1.wpAny_loadPart' ho
 simp only[raiseNew];refine wpAny_bind (wpAny_handled ?_);rw[show A.in1.handled=none by simp[hh]];refine wpAny_bind (wpAny_pure (wpAny_throw ?_));refine wpAny_bind (wpAny_isInstance (T:="StopIteration") (b:=true) ⟨_,Heap.get?_push_size _ rfl,rfl⟩ isSubtype_stop (wpAny_pure (q _ _ ?_)));exact (((Heap.SameBut.update ..).trans (Heap.SameBut.update ..)).extBut.push _).push _
theorem bBr {it a:Addr}{slot i nx:Nat}{es:Array (Int×Value)}{ep:Nat}{t:SetTable}{x:Value}{Q:Option Value->Shared->Prop}(hi:bA8 s.heap it (rawInt slot) i a es.size ep)(hs:aPp s.heap a es ep t)(hf:t.fits es.size=true)
  (hn: ∀(A:Around) (E:Value->Shared->Prop) (Q:Option (Value×Nat)->Shared->Prop),Q (some (x,nx)) s->wpAny (model prog w) A (setNext a slot i ep) Q E s)
  (q: ∀h',bA8 h' it (rawInt nx) ((i:Int)+1) a es.size ep->Heap.SameBut it s.heap h'->Q (some x) {s with heap:=h'}):wpAny (model prog w) A (pyNext (.ref it)) Q E s:=by
 obtain⟨o,ho,hc,hd⟩:=id hi;obtain⟨oa,hoa,hda⟩:=id hs;have hT:s.TypeIs (.ref it) "set_iterator":=⟨o,ho,hc⟩;unfold pyNext;refine wpAny_bind (wpAny_attempt (wpAny_callSpecial?_slot (name:=Str.ofString "__next__") hT aBx (wpAny_call_entry aBx hT aF3 ?_ (aG0 _))));unfold Builtin.«set_iterator.__next__»;obtain⟨c1,d1,x1,l1⟩:=o
 dsimp only at hc hd
 subst hc hd;generalize hSN:setNext=SN
 wp_walk using AutoSeq1.wpAny_loadPart' ho,wpAny_setEntries_of hoa hda hf
 subst hSN;rw[Int.toNat_natCast,Int.toNat_natCast,Int.toNat_natCast];refine hn _ _ _ ?_
 dsimp only
 refine wpAny_bind (wpAny_setField ho rfl (by simp) ?_);have ho2:=Heap.get?_update_self (Obj.mapFields fun z=>z.setIfInBounds 0 (rawInt nx)) ho (Obj.isFreed_of_fields (Obj.data_mapFields rfl _));have hd2:(Obj.mapFields (fun z=>z.setIfInBounds 0 (rawInt nx)) {cls:=Value.type "set_iterator",dict:=d1,data:=Data.fields #[rawInt slot,rawInt i,Value.ref a,rawInt es.size,rawInt ep],slots:=l1}).data= .fields #[rawInt nx,rawInt i,Value.ref a,rawInt es.size,rawInt ep]:=by
  rw[Obj.data_mapFields rfl];simp
 refine wpAny_bind (wpAny_setField ho2 hd2 (by simp) (wpAny_pure ⟨x,rfl,wpAny_pure (q _ ?_ ((Heap.SameBut.update ..).trans (Heap.SameBut.update ..)))⟩));exact⟨_,Heap.get?_update_self _ ho2 (Obj.isFreed_of_fields (Obj.data_mapFields hd2 _)),(Obj.cls_mapFields ..).trans (Obj.cls_mapFields ..),by rw[Obj.data_mapFields hd2];simp[rawInt]⟩
theorem bIp {it a:Addr}{slot i:Nat}{es:Array (Int×Value)}{ep:Nat}{t:SetTable}{Q:Option Value->Shared->Prop}(hh:A.handled=none)(hi:bA8 s.heap it (rawInt slot) i a es.size ep)(hs:aPp s.heap a es ep t)(hf:t.fits es.size=true)
  (hn: ∀(A:Around) (E:Value->Shared->Prop) (Q:Option (Value×Nat)->Shared->Prop),Q none s->wpAny (model prog w) A (setNext a slot i ep) Q E s)
  (q: ∀h' tk,Heap.ExtBut it s.heap h'->Q none {s with heap:=h',toks:=tk}):wpAny (model prog w) A (pyNext (.ref it)) Q E s:=by
 obtain⟨o,ho,hc,hd⟩:=id hi;obtain⟨oa,hoa,hda⟩:=id hs;have hT:s.TypeIs (.ref it) "set_iterator":=⟨o,ho,hc⟩;unfold pyNext;refine wpAny_bind (wpAny_attempt (wpAny_callSpecial?_slot (name:=Str.ofString "__next__") hT aBx (wpAny_call_entry aBx hT aF3 ?_ (aG0 _))));unfold Builtin.«set_iterator.__next__»;obtain⟨c1,d1,x1,l1⟩:=o
 dsimp only at hc hd
 subst hc hd;generalize hSN:setNext=SN
 wp_walk using AutoSeq1.wpAny_loadPart' ho,wpAny_setEntries_of hoa hda hf
 subst hSN;rw[Int.toNat_natCast,Int.toNat_natCast,Int.toNat_natCast];refine hn _ _ _ ?_
 dsimp only
 wp_walk using AutoSeq1.wpAny_loadPart' ho
 simp only[raiseNew];refine wpAny_bind (wpAny_handled ?_);rw[show A.in1.handled=none by simp[hh]];refine wpAny_bind (wpAny_pure (wpAny_throw ?_));refine wpAny_bind (wpAny_isInstance (T:="StopIteration") (b:=true) ⟨_,Heap.get?_push_size _ rfl,rfl⟩ isSubtype_stop (wpAny_pure (q _ _ ?_)));exact ((Heap.SameBut.update ..).extBut.push _).push _
theorem aUl {a:Addr}{slot i:Nat}{es:Array (Int×Value)}{ep:Nat}{t:SetTable}{Q:Option (Value×Nat)->Shared->Prop}(hb:w.params.followText "set-order"=true)(hs:aPp s.heap a es ep t)(hf:t.fits es.size=true)
  (q:Q (((pickOrder (w.params.setOrder a ep) es)[i]?).map fun e=>(e.2,slot)) s):wpAny (model prog w) A (setNext a slot i ep) Q E s:=by
 obtain⟨oa,hoa,hda⟩:=hs;unfold setNext setsByText;refine wpAny_bind (wpAny_setState_of hoa hda hf (wpAny_bind (wpAny_bind (wpAny_askSetting (wpAny_pure ?_)))))
 dsimp only
 rw[if_pos (show (model prog w).w.params.followText "set-order"=true from hb),if_neg (by simp)];unfold setWalk setsByText;refine wpAny_bind (wpAny_bind (wpAny_setState_of hoa hda hf (wpAny_bind (wpAny_bind (wpAny_askSetting (wpAny_pure ?_))))))
 dsimp only
 rw[if_pos (show (model prog w).w.params.followText "set-order"=true from hb)];refine wpAny_bind (wpAny_askSetting (wpAny_pure (wpAny_pure q)))
theorem aYp {a:Addr}{slot i:Nat}{es:Array (Int×Value)}{ep:Nat}{t:SetTable}{Q:Option (Value×Nat)->Shared->Prop}(hb:w.params.followText "set-order"=false)(hl:t.led=true)(h1:es.size<=1)(hs:aPp s.heap a es ep t)(hf:t.fits es.size=true)
  (q:Q (match es[SetTable.below t.place slot]?,t.place[SetTable.below t.place slot]? with | some (_,x),some j=>some (x,j+1) | _,_=>none) s):wpAny (model prog w) A (setNext a slot i ep) Q E s:=by
 obtain⟨oa,hoa,hda⟩:=hs;unfold setNext setsByText;refine wpAny_bind (wpAny_setState_of hoa hda hf (wpAny_bind (wpAny_bind (wpAny_askSetting (wpAny_pure ?_)))))
 dsimp only
 rw[if_neg (show ¬(model prog w).w.params.followText "set-order"=true by rw[show (model prog w).w.params.followText "set-order"=false from hb];decide)];have hd: ∀b:Bool,(b=true->False)->∀(x y:Sem (Option (Value×Nat))),wpAny (model prog w) A y Q E s->wpAny (model prog w) A (if b=true then x else y) Q E s:=fun b hb x y hy=>by rw[if_neg hb];exact hy
 refine hd _ ?_ _ _ ?_
 ·intro h
  have h2:(!t.plain&&decide (es.size>1))=true:=h;simp at h2;omega
 ·refine wpAny_bind ?_
  show wpAny _ _ (if (!t.led&& !es.isEmpty)=true then unsupported _ else pure ()) _ _ _;rw[if_neg (by simp[hl])];exact wpAny_pure (wpAny_pure q)
end
section
variable {prog:Program}{w:World}{A:Around}{E:Value->Shared->Prop}{s:Shared}
theorem bDn {h h':Heap}{it a:Addr}{f:Value}{i n ep:Int}(hi:bA8 h it f i a n ep)(e: ∀o,h.get? it=some o->h'.get? it=some o):bA8 h' it f i a n ep:=let ⟨o,g,r⟩:=hi;⟨o,e o g,r⟩
theorem aQ6 {h h':Heap}{a:Addr}{es:Array (Int×Value)}{ep:Nat}{t:SetTable}(hi:aPp h a es ep t)(e: ∀o,h.get? a=some o->h'.get? a=some o):aPp h' a es ep t:=let ⟨o,g,r⟩:=hi;⟨o,e o g,r⟩
theorem bJd {h h':Heap}{a:Addr}{xs:Array Value}(hi:IsTup h a xs)(e: ∀o,h.get? a=some o->h'.get? a=some o):IsTup h' a xs:=let ⟨o,g,r⟩:=hi;⟨o,e o g,r⟩
theorem Walks.bBt (hh:A.handled=none){it a tp:Addr}(na:a≠it)(nt:tp≠it){π:List Nat}{es:Array (Int×Value)}{ep:Nat}{t:SetTable}(hf:t.fits es.size=true)(hl:π.length=es.size)(hp: ∀k∈π,k<es.size):
  Walks prog w A it [it,a,tp] [it] es.size (fun i v=>(π.map fun k=>((es[k]?).map (·.2)).getD .none)[i]? =some v) (fun i h=>bA8 h it (.ref tp) (i:Nat) a es.size ep/\aPp h a es ep t/\IsTup h tp (π.map fun (j:Nat)=>rawInt j).toArray) where
 sub:=fun b hb=>by simp at hb;simp[hb]
 frame:=fun i h h' st hk=>⟨bDn st.1 (hk it (by simp)),aQ6 st.2.1 (hk a (by simp)),bJd st.2.2 (hk tp (by simp))⟩
 item:=fun i s Q E hi st hQ=>by
  have hi':i<π.length:=by omega
  have hk:π[i]? =some π[i]:=List.getElem?_eq_getElem hi';have hj:π[i]<es.size:=hp _ (List.getElem_mem hi');have hx:es[π[i]]? =some (es[π[i]].1,es[π[i]].2):=by rw[Array.getElem?_eq_getElem hj]
  refine aRy st.1 st.2.1 hf st.2.2 hk hx fun h' r sb=>hQ _ h' s.toks ?_ ⟨?_,aQ6 st.2.1 (fun o=>sb.extBut a o na),bJd st.2.2 (fun o=>sb.extBut tp o nt)⟩ fun b o hb e=>sb.extBut b o (fun z=>hb (by simp[z])) e
  ·simp[hk,hx]
  ·simpa using r
 done:=fun s Q E st hQ=>by
  refine aT2 hh (π:=π) (by rw[hl];exact st.1) st.2.1 hf st.2.2 fun h' tk x=>hQ h' tk fun b o hb q=>x b o (fun z=>hb (by simp[z])) q
 self:=fun _ _ _ _ st hQ=>aWf st.1 hQ
theorem Walks.bF5 (hh:A.handled=none){it a:Addr}(na:a≠it){es:Array (Int×Value)}{ep:Nat}{t:SetTable}(hf:t.fits es.size=true)(hb:w.params.followText "set-order"=true):
  Walks prog w A it [it,a] [it] es.size (fun i v=>((pickOrder (w.params.setOrder a ep) es).toList.map (·.2))[i]? =some v) (fun i h=>bA8 h it (rawInt (0:Nat)) (i:Nat) a es.size ep/\aPp h a es ep t) where
 sub:=fun b hb=>by simp at hb;simp[hb]
 frame:=fun i h h' st hk=>⟨bDn st.1 (hk it (by simp)),aQ6 st.2 (hk a (by simp))⟩
 item:=fun i s Q E hi st hQ=>by
  have hsz:(pickOrder (w.params.setOrder a ep) es).size=es.size:=by
   have:=(aLr (w.params.setOrder a ep) es).length_eq
   simpa using this
  have hx:(pickOrder (w.params.setOrder a ep) es)[i]? =some ((pickOrder (w.params.setOrder a ep) es)[i]'(by omega)):=Array.getElem?_eq_getElem (by omega);refine bBr (nx:=0) st.1 st.2 hf (fun A E Q q=>aUl hb st.2 hf (by rw[hx];exact q)) fun h' r sb=>hQ _ h' s.toks ?_ ⟨?_,aQ6 st.2 (fun o=>sb.extBut a o na)⟩ fun b o hb e=>sb.extBut b o (fun z=>hb (by simp[z])) e
  ·simp[hx]
  ·simpa using r
 done:=fun s Q E st hQ=>by
  have hsz:(pickOrder (w.params.setOrder a ep) es).size=es.size:=by
   have:=(aLr (w.params.setOrder a ep) es).length_eq
   simpa using this
  have hx:(pickOrder (w.params.setOrder a ep) es)[es.size]? =none:=Array.getElem?_eq_none (by omega);refine bIp hh st.1 st.2 hf (fun A E Q q=>aUl hb st.2 hf (by rw[hx];exact q)) fun h' tk x=>hQ h' tk fun b o hb q=>x b o (fun z=>hb (by simp[z])) q
 self:=fun _ _ _ _ st hQ=>aWf st.1 hQ
theorem aU7 {t:SetTable}{n:Nat}(h:t.fits n=true):t.place.size=n:=by
 simp only[SetTable.fits,Bool.and_eq_true,beq_iff_eq,decide_eq_true_eq] at h;exact h.1
theorem bMx {xs:Array Nat}(h:xs.size<=1):SetTable.below xs 0=0:=by
 obtain⟨l⟩:=xs
 match l,h with
 | [],_=>rfl
 | [x],_=>simp[SetTable.below,SetTable.below.go]
theorem bMw {xs:Array Nat}{x:Nat}(h:xs= #[x]):SetTable.below xs (x+1)=1:=by subst h;simp[SetTable.below,SetTable.below.go]
theorem Walks.bKf (hh:A.handled=none){it a:Addr}(na:a≠it){es:Array (Int×Value)}{ep:Nat}{t:SetTable}(hf:t.fits es.size=true)(hb:w.params.followText "set-order"=false)(hl:t.led=true)(h1:es.size<=1):
  Walks prog w A it [it,a] [it] es.size (fun i v=>(es.toList.map (·.2))[i]? =some v) (fun i h=>(∃slot:Nat,bA8 h it (rawInt slot) (i:Nat) a es.size ep/\SetTable.below t.place slot=i)/\aPp h a es ep t) where
 sub:=fun b hb=>by simp at hb;simp[hb]
 frame:=fun i h h' st hk=>⟨let ⟨c,x,y⟩:=st.1;⟨c,bDn x (hk it (by simp)),y⟩,aQ6 st.2 (hk a (by simp))⟩
 item:=fun i s Q E hi st hQ=>by
  obtain⟨⟨c,x,y⟩,z⟩:=st;have hps:=aU7 hf;have e1:es.size=1:=by omega
  have i0:i=0:=by omega
  subst i0;have hx:es[0]? =some (es[0].1,es[0].2):=by rw[Array.getElem?_eq_getElem hi]
  have hj:t.place[0]? =some t.place[0]:=Array.getElem?_eq_getElem (by omega);refine bBr (nx:=t.place[0]+1) x z hf (fun A E Q q=>aYp hb hl h1 z hf (by rw[y,hx,hj];exact q)) fun h' r sb=>hQ _ h' s.toks ?_ ⟨⟨t.place[0]+1,by simpa using r,?_⟩,aQ6 z (fun o=>sb.extBut a o na)⟩ fun b o hb e=>sb.extBut b o (fun z=>hb (by simp[z])) e
  ·simp[hx]
  ·have ep1:t.place= #[t.place[0]]:=by
    apply Array.ext
    ·simp;omega
    ·intro k k1 k2
     have:k=0:=by omega
     subst this;rfl
   exact bMw ep1
 done:=fun s Q E st hQ=>by
  obtain⟨⟨c,x,y⟩,z⟩:=st;have hx:es[es.size]? =none:=Array.getElem?_eq_none (by omega);refine bIp hh x z hf (fun A E Q q=>aYp hb hl h1 z hf (by rw[y,hx];exact q)) fun h' tk x=>hQ h' tk fun b o hb q=>x b o (fun z=>hb (by simp[z])) q
 self:=fun _ _ _ _ st hQ=>let ⟨_,x,_⟩:=st.1;aWf x hQ
theorem aZ9 (es:Array (Int×Value)):(List.range es.size).map (fun k=>((es[k]?).map (·.2)).getD .none)=es.toList.map (·.2):=by
 apply List.ext_getElem
 ·simp
 ·intro i h1 h2
  simp at h1;simp[h1]
theorem aXg {α:Type}{b c:Bool}(e:b=c){x y:Sem α}{Q:α->Shared->Prop}(h:wpAny (model prog w) A (if c=true then x else y) Q E s):wpAny (model prog w) A (if b=true then x else y) Q E s:=by subst e;exact h
theorem bF7 {a:Addr}{o:Obj}{es:Array (Int×Value)}{ep:Nat}{t:SetTable}{Q:Value->Shared->Prop}(ho:s.heap.get? a=some o)(hx:o.ExactSet)(hd:o.data= .set es ep t)(hf:t.fits es.size=true)(hz:es.size<=sizeLine)
  (hw:w.params.followText "set-order"=true\/t.led=true) (hp:es.size=0\/t.plain=false)
  (q: ∀it fp St (vals:List Value) h' d,(∀B:Around,B.handled=none->Walks prog w B it fp [it] es.size (fun i v=>vals[i]? =some v) St)->St 0 h'->(∀b∈fp,b=a\/s.heap.objs.size<=b)->vals.Perm (es.toList.map (·.2))->s.heap.objs.size<=it->
   (∀b o,s.heap.get? b=some o->h'.get? b=some o)->Q (.ref it) {s with heap:=h',drawn:=d}):wpAny (model prog w) A (pyIter (.ref a)) Q E s:=by
 have hT:s.TypeIs (.ref a) "set":=⟨o,ho,hx.1⟩;have lta:=Heap.lt_size ho;refine wpAny_pyIter_slot hT F.slot_set_iter (wpAny_call_entry F.slot_set_iter hT aQl ?_ (aTi _));unfold Builtin.«frozenset.__iter__»;refine wpAny_bind (m:=Builtin.Frozenset.slot0 "__iter__" ⟨[.ref a],[]⟩) (wpAny_pure ?_);unfold Builtin.Frozenset.sizeOf;refine wpAny_bind (wpAny_bind (wpAny_setEntries_of ho hd hf (wpAny_pure ?_)));unfold setDrawn setsByText;refine wpAny_bind (wpAny_bind (wpAny_setState_of ho hd hf (wpAny_bind (wpAny_bind (wpAny_askSetting (wpAny_pure (wpAny_pure ?_)))))));refine aXg (c:= !w.params.followText "set-order"&&(!t.plain&&decide (es.size>1))) rfl ?_;have tail: ∀(h1:Heap) (d:Drawn) (first:Value),(∀b o,s.heap.get? b=some o->h1.get? b=some o)->Q (.ref h1.objs.size) {s with heap:=h1.push {cls:= .type "set_iterator",data:= .fields #[first,rawInt (0:Nat),.ref a,rawInt es.size,rawInt ep]},drawn:=d}->
   wpAny (model prog w) A.in1 (do let e<-setEpoch a;let v<-newFields "set_iterator" [first,rawInt 0,.ref a,rawInt es.size,rawInt e];ret v) (fun fin s'=> ∃v,fin=Fin.done (Flow.ret v)/\∃T' r,s'.TypeIs v T'/\typeLookup (Value.type T') (Str.ofString "__next__")=pure (some r)/\Q v s') E {s with heap:=h1,drawn:=d}:=by
  intro h1 d first hk q1;refine wpAny_bind (wpAny_setEpoch_of (hk _ _ ho) hd hf (wpAny_bind (wpAny_newObj_type (wpAny_pure ⟨_,rfl,"set_iterator",_,⟨_,Heap.get?_push_size _ rfl,rfl⟩,aBx.lookup,q1⟩))))
 have isi: ∀(h1:Heap) (first:Value),bA8 (h1.push {cls:= .type "set_iterator",data:= .fields #[first,rawInt (0:Nat),.ref a,rawInt es.size,rawInt ep]}) h1.objs.size first (0:Nat) a es.size ep:=fun h1 first=>⟨_,Heap.get?_push_size _ rfl,rfl,rfl⟩
 by_cases hb:w.params.followText "set-order"=true
 ·rw[if_neg (by simp[hb])]
  refine wpAny_bind (wpAny_pure (tail s.heap s.drawn _ (fun _ _ e=>e) ?_));refine q _ _ _ _ _ s.drawn (fun B hB=>Walks.bF5 hB (Nat.ne_of_lt lta) hf hb) ⟨isi _ _,_,Heap.get?_push_of_some _ ho,hd⟩ ?_ ?_ (Nat.le_refl _) fun b o e=>Heap.get?_push_of_some _ e
  ·intro b hb2;simp only[List.mem_cons,List.not_mem_nil,or_false] at hb2;exact hb2.elim (fun e=> .inr (e▸Nat.le_refl _)) .inl
  ·exact (aLr _ es).map _
 ·have hb0:w.params.followText "set-order"=false:=by simpa using hb
  have hl:t.led=true:=hw.resolve_left hb;by_cases h1:es.size<=1
  ·rw[if_neg (by simp;omega)]
   refine wpAny_bind (wpAny_pure (tail s.heap s.drawn _ (fun _ _ e=>e) ?_));refine q _ _ _ _ _ s.drawn (fun B hB=>Walks.bKf hB (Nat.ne_of_lt lta) hf hb0 hl h1) ⟨⟨0,isi _ _,bMx (by rw[aU7 hf];exact h1)⟩,_,Heap.get?_push_of_some _ ho,hd⟩ ?_ (List.Perm.refl _) (Nat.le_refl _) fun b o e=>Heap.get?_push_of_some _ e
   intro b hb2;simp only[List.mem_cons,List.not_mem_nil,or_false] at hb2;exact hb2.elim (fun e=> .inr (e▸Nat.le_refl _)) .inl
  ·have hpl:t.plain=false:=hp.resolve_left (by omega)
   rw[if_pos (by simp[hb0,hpl];omega)];refine wpAny_bind (bA0 es.size (List.range es.size) _ _ (by simp) fun π d hπ=> ?_);have hlen:π.length=es.size:=by simpa using hπ.length_eq
   refine wpAny_bind (wpAny_newObj_type ?_ (by show (π.map _).toArray.size<=sizeLine;simp;omega));refine tail (s.heap.push _) d _ (fun _ _ e=>Heap.get?_push_of_some _ e) ?_;have lt1:a<(s.heap.push {cls:= .type "tuple",data:= .seq (π.map fun (i:Nat)=>rawInt i).toArray}).objs.size:=by rw[size_push'];exact Nat.lt_succ_of_lt lta
   refine q _ _ _ _ _ d (fun B hB=>Walks.bBt (tp:=s.heap.objs.size) hB (Nat.ne_of_lt lt1) (by rw[size_push'];exact Nat.ne_of_lt (Nat.lt_succ_self _)) hf hlen (fun k hk=>by simpa using hπ.subset hk)) ⟨isi _ _,⟨_,Heap.get?_push_of_some _ (Heap.get?_push_of_some _ ho),hd⟩,⟨_,Heap.get?_push_of_some _ (Heap.get?_push_size _ rfl),rfl,0,rfl⟩⟩ ?_ ?_ (by rw[size_push'];exact Nat.le_succ _) fun b o e=>Heap.get?_push_of_some _ (Heap.get?_push_of_some _ e)
   ·intro b hb2;simp only[List.mem_cons,List.not_mem_nil,or_false] at hb2;rw[size_push'] at hb2;exact hb2.elim (fun e=> .inr (e▸Nat.le_succ _)) (fun h=>h.elim .inl (fun e=> .inr (e▸Nat.le_refl _)))
   ·rw[<-aZ9];exact hπ.map _
end
section
variable {prog:Program}{w:World}{A:Around}{E:Value->Shared->Prop}{s:Shared}
theorem sub_set_self:isSubtype (.type "set") (.type "set")=pure true:=by rw[isSubtype_type];kernel_rfl
theorem aXr {a:Addr}{o:Obj}{es:Array (Int×Value)}{ep:Nat}{t:SetTable}{Q:List Value->Shared->Prop}(hh:A.handled=none)(ho:s.heap.get? a=some o)(hx:o.ExactSet)(hd:o.data= .set es ep t)(hf:t.fits es.size=true)(hz:es.size<=sizeLine)
  (hw:w.params.followText "set-order"=true\/t.led=true) (hp:es.size=0\/t.plain=false)
  (hQ: ∀vals h' tk d,vals.Perm (es.toList.map (·.2))->s.heap.objs.size<=h'.objs.size->(∀b o,s.heap.get? b=some o->h'.get? b=some o)->Q vals {s with heap:=h',toks:=tk,drawn:=d}):wpAny (model prog w) A (collect (.ref a)) Q E s:=by
 have lta:=Heap.lt_size ho;have nea:s.heap.objs.size≠a:=Nat.ne_of_gt lta;have hT: ∀h' d,(h':Heap).get? a=some o->Shared.TypeIs {s with heap:=h',drawn:=d} (.ref a) "set":=fun h' d e=>⟨o,e,hx.1⟩
 generalize hL:({cls:= .type "list",data:= .seq ([]:List Value).toArray}:Obj)=L;have ho1:(s.heap.push L).get? a=some o:=Heap.get?_push_of_some _ ho;have l1:(s.heap.push L).get? s.heap.objs.size=some L:=Heap.get?_push_size _ (by rw[<-hL];rfl);have h1:Builtin.List.listSameRef (.ref s.heap.objs.size) (.ref a)=false:=by simp[Builtin.List.listSameRef,nea]
 unfold collect;refine wpAny_bind (wpAny_runValue (codeAny_builtin F.entry_proto_collect ?_));rw[Around.under_plainId F.plain_proto_collect _];show wpAny _ A.in1 (newList []>>=fun l=>again (.builtin "list.__iadd__" ⟨[l,.ref a],[]⟩)) _ _ s;refine wpAny_bind (wpAny_newObj_type (wpAny_pure ⟨plainId_quiet F.plain_list_iadd _,codeAny_builtin F.entry_list_iadd ?_⟩));rw[Around.under_plainId F.plain_list_iadd _];show wpAny _ A.in1 (Builtin.List.listExtendWith (.ref s.heap.objs.size) (.ref a) (.ref s.heap.objs.size)) _ _ _;rw[hL];unfold Builtin.List.listExtendWith;refine wpAny_bind (wpAny_typeOf (hT _ s.drawn ho1) ?_);rw[if_neg (by rw[h1];decide)];refine wpAny_bind (bF7 (s:={s with heap:=s.heap.push L}) ho1 hx hd hf hz hw hp fun it fp St vals h2 d W0 st0 hfp hperm hit hk=>wpAny_bind (wpAny_holding ?_));have ho2:=hk a o ho1;have l2:=hk _ _ l1;unfold Builtin.List.listLengthHint;refine wpAny_bind (wpAny_specialOf (hT _ d ho2) F.slot_set_len.lookup ?_);generalize hid:("set.__len__":String)=id0;(fail_if_success (clear hid id0));wp_delta;rw[show splitId id0=some ("set","__len__") from by subst hid;decide+kernel];subst hid;refine wpAny_bind (wpAny_isInstance (b:=true) (hT _ d ho2) sub_set_self ?_);rw[if_neg (by decide)];refine aXg (c:=true) ?_ ?_
 ·decide+kernel
 rw[if_pos rfl];refine wpAny_bind (wpAny_typeOf (hT _ d ho2) (wpAny_pure ?_));refine aXg (c:=true) ?_ ?_
 ·decide+kernel
 rw[if_pos rfl];subst hL;refine wpAny_bind (wpAny_rule (wpAny_bind ?_));show wpAny _ A.in1 (updateSeq s.heap.objs.size (·.push .none)>>=fun _=>updateSeq s.heap.objs.size (·.pop)) _ _ _;refine wpAny_bind (wpAny_updateSeq l2 rfl ?_);have l3:=Heap.get?_update_self (Obj.mapSeq (·.push Value.none)) l2 rfl;refine wpAny_updateSeq l3 rfl ?_;have l4:=Heap.get?_update_self (Obj.mapSeq (·.pop)) l3 rfl;refine wpAny_pure ⟨plainId_quiet F.plain_extend_loop _,?_⟩;have W:=(W0 A.in1 (by simp[hh])).toS;have hit':s.heap.objs.size+1<=it:=by have h:=hit;dsimp only at h;rw[size_push'] at h;exact h
 have nei:s.heap.objs.size≠it:=Nat.ne_of_lt hit';have off:s.heap.objs.size∉fp:=by
  intro h;rcases hfp _ h with e | e
  ·exact nea e
  ·dsimp only at e;rw[size_push'] at e;exact absurd e (Nat.not_succ_le_self _)
 have hk2: ∀b u,b≠s.heap.objs.size->h2.get? b=some u->((h2.update s.heap.objs.size (Obj.mapSeq fun x=>x.push Value.none)).update s.heap.objs.size (Obj.mapSeq fun x=>x.pop)).get? b=some u:=fun b u hb e=>(Heap.get?_update_other _ _ (Ne.symm hb)).trans ((Heap.get?_update_other _ _ (Ne.symm hb)).trans e)
 refine codeAny_extend_loopS W hz _ off _ es.size 0 _ _ _ rfl (Nat.zero_le _) ((W0 A.in1 (by simp[hh])).frame _ _ _ st0 fun b hb u e=>hk2 b u (fun z=>off (z▸hb)) e) l4 (ItemsOf.nil _) fun s' acc c' hm hS' hacc=> ?_
 show wpAny _ A (load s.heap.objs.size>>=_) _ _ s';refine wpAny_bind (wpAny_load hS' (wpAny_pure ?_));obtain⟨h',g',d',tk',os'⟩:=s';have eg:g'=s.gens:=hm.gens;have ed:d'=d:=hm.drawn;have eo:os'=s.os:=hm.os;subst eg ed eo;have hlen:vals.length=es.size:=by simpa using hperm.length_eq
 have ea:acc.toList=vals:=by
  have hsz:=hacc.1
  apply List.ext_getElem?
  intro i;by_cases hi:i<es.size
  ·have hv:=hacc.2 i acc[i] (by simp[hsz,hi])
   rw[hv];simp[hsz,hi]
  ·rw[List.getElem?_eq_none (by simp[hsz];omega),List.getElem?_eq_none (by omega)]
 rw[ea];refine hQ vals h' tk' _ hperm (Nat.le_of_lt (Heap.lt_size hS')) fun b u e=> ?_
 have lb:=Heap.lt_size e;refine hm.heap b u ?_ (hk2 b u (Nat.ne_of_lt lb) (hk b u (Heap.get?_push_of_some _ e)));simp only[List.mem_cons,List.not_mem_nil,or_false,not_or];exact⟨Nat.ne_of_lt lb,Nat.ne_of_lt (Nat.lt_trans lb hit')⟩
end
def leS (a b:Str):Bool:= !ltCps b.cps.toList a.cps.toList
def aHz (xs:List Str):List Str:=xs.mergeSort leS
theorem aOw (a b:Str):leS a b=true↔a.cps.toList<=b.cps.toList:=by
 unfold leS;rw[ltCps_eq];simp
theorem aUv (a b c:Str)(h1:leS a b=true)(h2:leS b c=true):leS a c=true:=by
 rw[aOw] at*;exact List.le_trans h1 h2
theorem aUw (a b:Str):(leS a b || leS b a)=true:=by
 rw[Bool.or_eq_true,aOw,aOw];exact List.le_total _ _
theorem aYt (a b:Str)(h1:leS a b=true)(h2:leS b a=true):a=b:=by
 rw[aOw] at*;exact Str.ext' (Array.toList_inj.mp (List.le_antisymm h1 h2))
theorem aF9 (xs:List Str):(aHz xs).Perm xs:=List.mergeSort_perm xs leS
theorem aTx (xs:List Str):(aHz xs).Pairwise (fun a b=>leS a b=true):=List.pairwise_mergeSort aUv aUw xs
theorem aN6: ∀(l:List Str) (p:Str),risingS p l=true->(p::l).Pairwise (fun a b=>leS a b=true)
 | [],p,_=>by simp
 | x::r,p,h=>by
  have h':(!ltCps x.cps.toList p.cps.toList&&risingS x r)=true:=h;rw[Bool.and_eq_true] at h';have ih:=aN6 r x h'.2;refine List.pairwise_cons.mpr ⟨fun y hy=> ?_,ih⟩;rcases List.mem_cons.mp hy with e | e
  ·rw[e];exact h'.1
  ·exact aUv _ _ _ h'.1 (List.rel_of_pairwise_cons ih e)
theorem aT0: ∀(l:List Str),sortedS l=true->l.Pairwise (fun a b=>leS a b=true)
 | [],_=> .nil
 | x::r,h=>aN6 r x h
theorem bKb {xs ys:List Str}(hs:sortedS ys=true)(hp:ys.Perm xs):ys=aHz xs:=
 List.Perm.eq_of_pairwise (fun a b _ _=>aYt a b) (aT0 ys hs) (aTx xs) (hp.trans (aF9 xs).symm)
theorem aN8 {α:Type}[DecidableEq α]: ∀(xs ys:List α),xs.Nodup->(∀k,k∈xs->k∈ys)->ys.length=xs.length->ys.Perm xs
 | [],ys,_,_,h=>by cases ys with | nil=>exact .refl _ | cons _ _=>simp at h
 | x::xs,ys,hn,hm,h=>by
  have hx:=hm x (by simp);have hp:=List.perm_cons_erase hx;refine hp.trans (List.Perm.cons x (aN8 xs (ys.erase x) (List.nodup_cons.mp hn).2 (fun k hk=> ?_) ?_))
  ·have ne:k≠x:=fun e=>(List.nodup_cons.mp hn).1 (e▸hk)
   exact (List.mem_erase_of_ne ne).mpr (hm k (by simp[hk]))
  ·rw[List.length_erase_of_mem hx,h];simp
theorem bA6 {σ:List Str}{v:Str}(h:σ.Nodup):(aZr σ v).Nodup:=by
 unfold aZr;split
 ·exact h
 ·rename_i hc
  have hn:v∉σ:=fun hm=>hc (by simpa using hm)
  first
  | exact List.nodup_cons.mpr ⟨hn,h⟩
  |(rw[List.nodup_append];exact⟨h,by simp,by intro a ha b hb;simp at hb;subst hb;intro e;subst e;exact hn ha⟩)
theorem aOp (vs:List Str): ∀(σ:List Str),σ.Nodup->(vs.foldl aZr σ).Nodup:=by
 induction vs with
 | nil=>intro σ h;exact h
 | cons v r ih=>intro σ h;exact ih _ (bA6 h)
theorem bAl (vs:List Str):(aJj vs).Nodup:=aOp vs [] .nil
section
variable {prog:Program}{w:World}{A:Around}{E:Value->Shared->Prop}{s:Shared}
theorem aTy {x:Value}{xs:List Str}{Q:Value->Shared->Prop}(hh:A.handled=none)(h64:xs.length<64)
  (hc: ∀(B:Around) (Q':List Value->Shared->Prop),B.handled=none->(∀vals ts h' tk d,StrsAre vals ts->ts.Perm xs->s.heap.objs.size<=h'.objs.size->(∀b o,s.heap.get? b=some o->h'.get? b=some o)->Q' vals {s with heap:=h',toks:=tk,drawn:=d})->wpAny (model prog w) B (collect x) Q' E s)
  (h: ∀out l h' tk d m,StrsAre out (aHz xs)->s.heap.objs.size<=l->h'.get? l=some {cls:= .type "list",data:= .seq out.toArray m}->(∀b o,s.heap.get? b=some o->h'.get? b=some o)->Q (.ref l) {s with heap:=h',toks:=tk,drawn:=d}):
  wpAny (model prog w) A (call (.builtin "sorted") [x]) Q E s:=by
 refine Calls.call_function_entry kind_sorted plain_sorted entry_sorted (args_sorted1 _) ?_;unfold Builtin.«sorted»;refine wpAny_bind (m:=checkCount "sorted" 1 1 _) (wpAny_pure ?_);refine wpAny_bind (hc A.in1 _ (by simp[hh]) fun vals ts h1 tk d hS hp le hk=> ?_);have hvl:vals.length<64:=by rw[hS.len_eq,hp.length_eq];exact h64
 refine wpAny_bind (wpAny_newList ?_);have hoL:(h1.push (seqObj "list" vals.toArray 0)).get? h1.objs.size=some (seqObj "list" vals.toArray 0):=Heap.get?_push_size _ rfl;show wpAny _ _ _ _ _ {s with heap:=h1.push (seqObj "list" vals.toArray 0),toks:=tk,drawn:=d};refine wpAny_bind (wpAny_holding (wpAny_call_entry slot_list_sort ⟨_,hoL,rfl⟩ entry_list_sort (list_sort_treeK strKind_oneLt hoL hS.keysOf (fun v₁ v₂ rest e=>keyKind_strs (by rw[<-e];exact hS)) hvl fun st' a1 a2=>⟨_,rfl,?_⟩) (args_list_sort _)));refine wpAny_pure ⟨_,rfl,?_⟩;obtain⟨ss',b1,b2,b3⟩:=sorted_out_str hS a1 a2;have e:=bKb b3 (b2.trans hp);subst e;generalize (Array.map (fun x=>x.snd) (arrOf st'))=out at b1⊢;obtain⟨ol⟩:=out;have k1:=get?_update_seq hoL (fun _=> #[]);have k2:=get?_update_seq (Heap.get?_push_of_some (seqObj "list" #[] 0) (Heap.get?_push_of_some (seqObj "tuple" vals.toArray 0) k1)) (fun _=>ol.toArray);refine h ol h1.objs.size _ tk d _ b1 le k2 fun b o e=> ?_
 have lt:=Heap.lt_size (hk b o e);have ne:h1.objs.size≠b:=Nat.ne_of_gt lt;show (sortedHeap _ _ _ _).get? b=some o;unfold sortedHeap;rw[Heap.get?_update_other _ _ ne];refine Heap.get?_push_of_some _ (Heap.get?_push_of_some _ ?_);rw[Heap.get?_update_other _ _ ne];exact Heap.get?_push_of_some _ (hk b o e)
theorem bBj: ∀(vals:List Value),(∀v∈vals,∃k t,v=Value.str k t)->∃ts,StrsAre vals ts
 | [],_=>⟨[],.nil⟩
 | v::vs,h=>by
  obtain⟨k,t,e⟩:=h v (by simp);obtain⟨ts,h2⟩:=bBj vs fun v hv=>h v (by simp[hv])
  subst e;exact⟨k::ts,.cons k t h2⟩
theorem aX8: ∀{vals:List Value} {ts:List Str},StrsAre vals ts->∀{k:Str} {t:Tok},Value.str k t∈vals->k∈ts
 | _,_,.cons y u r,k,t,h=>by
  rcases List.mem_cons.mp h with e | e
  ·injection e with e1;subst e1;simp
  ·exact List.mem_cons_of_mem _ (aX8 r e)
theorem aZ3 {a:Addr}{ss:List Str}{Q:Value->Shared->Prop}(hh:A.handled=none)(h64:ss.length<64)(hn:ss.Nodup)(z:s.heap.SetOf (PySem.strKind prog w) a (fun k=>ss.contains k) ss.length)(zt:bA7 w s.heap a)
  (h: ∀out l h' tk d m,StrsAre out (aHz ss)->s.heap.objs.size<=l->h'.get? l=some {cls:= .type "list",data:= .seq out.toArray m}->(∀b o,s.heap.get? b=some o->h'.get? b=some o)->Q (.ref l) {s with heap:=h',toks:=tk,drawn:=d}):
  wpAny (model prog w) A (call (.builtin "sorted") [.ref a]) Q E s:=by
 obtain⟨o,es,ep,t,ho,hx,hd,hel,hm,hb,hf,hsz⟩:=z;obtain⟨o2,ho2,es2,ep2,t2,hd2,hw,hp⟩:=zt;rw[ho] at ho2;cases ho2;rw[hd] at hd2;cases hd2;have hs:sizeLine=16777216:=sizeLine_eq;refine aTy hh h64 (fun B Q' hB q=>aXr hB ho hx hd hf (by unfold scanBound at hb;omega) hw hp fun vals h' tk d pv le kp=> ?_) h;have hstr: ∀v∈vals,∃k t,v=Value.str k t:=by
  intro v hv;obtain⟨e,he,rfl⟩:=List.mem_map.mp (pv.subset hv);obtain⟨⟨k,hk,_⟩,_⟩:=hel e he;obtain⟨t,et⟩:=Value.isStrOf_shape hk;exact⟨k,t,et⟩
 obtain⟨ts,hS⟩:=bBj vals hstr;refine q vals ts h' tk d hS (aN8 ss ts hn (fun k hk=> ?_) ?_) le kp
 ·obtain⟨e,he,hi⟩:=(hm k).mp (by simpa using hk)
  obtain⟨t,et⟩:=Value.isStrOf_shape hi;refine aX8 hS (t:=t) (pv.symm.subset ?_);rw[<-et];exact List.mem_map.mpr ⟨e,he,rfl⟩
 ·rw[<-hS.len_eq,pv.length_eq,List.length_map,Array.length_toList,hsz]
end
inductive D where
 | non | bl (b:Bool) | int (i:Int) | str (x:Str) | tup (ds:List D) | lst (ds:List D) | obj (C:Addr) (fs:List (Str×D))
 | dk (kvs:List (Key×D)) | dt (kvs:List (List Key×D)) | exc (C:Addr) | set (ss:List Str)
def excAt (a C:Addr)(h:Heap):Prop:= ∃o,h.get? a=some o/\o.cls= .ref C
def TQ (K:PySem.W.Frag)(H:Hp)(a:Addr)(vs:List V):Prop:=H a=some (.tup vs)
theorem TQ.of {K:PySem.W.Frag}{H:Hp}{a:Addr}{vs:List V}(h:H a=some (.tup vs)):TQ K H a vs:=h
theorem TQ.sq {K:PySem.W.Frag}{H:Hp}{a:Addr}{vs:List V}(h:TQ K H a vs):SqT K H a vs:=SqT.of h
instance {K:PySem.W.Frag} {H:Hp} {a:Addr} {vs:List V}:Coe (TQ K H a vs) (SqT K H a vs):=⟨TQ.sq⟩
mutual
inductive Is (K:PySem.W.Frag)(H:Hp):D->V->Prop where
 | non:Is K H .non .non
 | bl (b:Bool):Is K H (.bl b) (.bl b)
 | int (i:Int):Is K H (.int i) (.int i)
 | str (x:Str):Is K H (.str x) (.str x)
 | tup {a:Addr} {ds:List D} {vs:List V} (h:TQ K H a vs) (r:IsL K H ds vs):Is K H (.tup ds) (.ref a)
 | lst {a:Addr} {ds:List D} {vs:List V} (h:SqL K H a vs) (r:IsL K H ds vs):Is K H (.lst ds) (.ref a)
 | obj {a C dx:Addr} {fs:List (Str×D)} {vs:List (Str×V)} (h:H a=some (.ins C dx vs)) (r:IsF K H fs vs):Is K H (.obj C fs) (.ref a)
 | dk {a:Addr} {kvs:List (Key×D)} {vs:List (Key×V)} (h:H a=some (.dK vs)) (r:IsK K H kvs vs):Is K H (.dk kvs) (.ref a)
 | dt {a:Addr} {kvs:List (List Key×D)} {vs:List (List Key×V)} (h:H a=some (.dT vs)) (r:IsT K H kvs vs):Is K H (.dt kvs) (.ref a)
 | exc {a C:Addr} (h:H a=some (.ext (excAt a C))):Is K H (.exc C) (.ref a)
 | set {a:Addr} {ss:List Str} (h:H a=some (.set (fun k=>ss.contains k) ss.length)):Is K H (.set ss) (.ref a)
inductive IsK (K:PySem.W.Frag)(H:Hp):List (Key×D)->List (Key×V)->Prop where
 | nil:IsK K H [] []
 | cons {x:Key} {d:D} {v:V} {ds:List (Key×D)} {vs:List (Key×V)} (h:Is K H d v) (r:IsK K H ds vs):IsK K H ((x,d)::ds) ((x,v)::vs)
inductive IsT (K:PySem.W.Frag)(H:Hp):List (List Key×D)->List (List Key×V)->Prop where
 | nil:IsT K H [] []
 | cons {x:List Key} {d:D} {v:V} {ds:List (List Key×D)} {vs:List (List Key×V)} (h:Is K H d v) (r:IsT K H ds vs):IsT K H ((x,d)::ds) ((x,v)::vs)
inductive IsL (K:PySem.W.Frag)(H:Hp):List D->List V->Prop where
 | nil:IsL K H [] []
 | cons {d:D} {v:V} {ds:List D} {vs:List V} (h:Is K H d v) (r:IsL K H ds vs):IsL K H (d::ds) (v::vs)
inductive IsF (K:PySem.W.Frag)(H:Hp):List (Str×D)->List (Str×V)->Prop where
 | nil:IsF K H [] []
 | cons {x:Str} {d:D} {v:V} {ds:List (Str×D)} {vs:List (Str×V)} (h:Is K H d v) (r:IsF K H ds vs):IsF K H ((x,d)::ds) ((x,v)::vs)
end
section
variable {K:PySem.W.Frag}{H H':Hp}
theorem SqT.mono {a:Addr}{xs:List V}(e:Same H H')(h:SqT K H a xs):SqT K H' a xs:=by
 rcases h with (h |⟨o,h⟩) | h
 ·exact .inl (.inl (e _ _ h))
 ·exact .inl (.inr ⟨o,e _ _ h⟩)
 ·exact .inr h
theorem Is.mono (e:Same H H'){d:D}{v:V}(h:Is K H d v):Is K H' d v:=
 Is.rec (motive_1:=fun d v _=>Is K H' d v) (motive_2:=fun ds vs _=>IsK K H' ds vs) (motive_3:=fun ds vs _=>IsT K H' ds vs) (motive_4:=fun ds vs _=>IsL K H' ds vs) (motive_5:=fun ds vs _=>IsF K H' ds vs)
  .non .bl .int .str (fun h _ r=> .tup (e _ _ h) r) (fun h _ r=> .lst (e.seq h) r) (fun h _ r=> .obj (e _ _ h) r) (fun h _ r=> .dk (e _ _ h) r) (fun h _ r=> .dt (e _ _ h) r) (fun h=> .exc (e _ _ h)) (fun h=> .set (e _ _ h))
  .nil (fun _ _ i r=> .cons i r) .nil (fun _ _ i r=> .cons i r) .nil (fun _ _ i r=> .cons i r) .nil (fun _ _ i r=> .cons i r) h
theorem IsK.mono (e:Same H H'): ∀{ds:List (Key×D)} {vs:List (Key×V)},IsK K H ds vs->IsK K H' ds vs:=by
 intro ds
 induction ds with
 | nil=>intro vs h;cases h;exact .nil
 | cons d ds ih=>intro vs h;cases h with | cons i r=>exact .cons (i.mono e) (ih r)
theorem IsT.mono (e:Same H H'): ∀{ds:List (List Key×D)} {vs:List (List Key×V)},IsT K H ds vs->IsT K H' ds vs:=by
 intro ds
 induction ds with
 | nil=>intro vs h;cases h;exact .nil
 | cons d ds ih=>intro vs h;cases h with | cons i r=>exact .cons (i.mono e) (ih r)
theorem IsL.mono (e:Same H H'): ∀{ds:List (D)} {vs:List (V)},IsL K H ds vs->IsL K H' ds vs:=by
 intro ds
 induction ds with
 | nil=>intro vs h;cases h;exact .nil
 | cons d ds ih=>intro vs h;cases h with | cons i r=>exact .cons (i.mono e) (ih r)
theorem IsF.mono (e:Same H H'): ∀{ds:List (Str×D)} {vs:List (Str×V)},IsF K H ds vs->IsF K H' ds vs:=by
 intro ds
 induction ds with
 | nil=>intro vs h;cases h;exact .nil
 | cons d ds ih=>intro vs h;cases h with | cons i r=>exact .cons (i.mono e) (ih r)
theorem IsL.length: ∀{ds:List D} {vs:List V},IsL K H ds vs->ds.length=vs.length:=by
 intro ds
 induction ds with
 | nil=>intro vs h;cases h;rfl
 | cons d ds ih=>intro vs h;cases h with | cons _ r=>exact congrArg (· +1) (ih r)
theorem IsL.get: ∀{ds:List D} {vs:List V} {i:Nat} {d:D},IsL K H ds vs->ds[i]? =some d->∃v,vs[i]? =some v/\Is K H d v
 | _,_,_,_,.nil,e=>by simp at e
 | _,_,0,_,.cons h _,e=>by simp at e;subst e;exact⟨_,rfl,h⟩
 | _,_,i+1,d,.cons _ r,e=>by
  obtain⟨v,h1,h2⟩:=IsL.get (i:=i) (d:=d) r (by simpa using e);exact⟨v,by simpa using h1,h2⟩
theorem IsL.bS5: ∀{ds:List D} {vs:List V} {i:Nat} {v:V},IsL K H ds vs->vs[i]? =some v->∃d,ds[i]? =some d/\Is K H d v
 | _,_,_,_,.nil,e=>by simp at e
 | _,_,0,_,.cons h _,e=>by simp at e;subst e;exact⟨_,rfl,h⟩
 | _,_,i+1,v,.cons _ r,e=>by
  obtain⟨d,h1,h2⟩:=IsL.bS5 (i:=i) (v:=v) r (by simpa using e);exact⟨d,by simpa using h1,h2⟩
theorem IsL.append: ∀{ds es:List D} {vs ws:List V},IsL K H ds vs->IsL K H es ws->IsL K H (ds++es) (vs++ws):=by
 intro ds
 induction ds with
 | nil=>intro es vs ws h s;cases h;exact s
 | cons d ds ih=>intro es vs ws h s;cases h with | cons i r=>exact .cons i (ih r s)
theorem IsL.take: ∀{ds:List D} {vs:List V} (n:Nat),IsL K H ds vs->IsL K H (ds.take n) (vs.take n)
 | _,_,0,_=> .nil
 | _,_,_+1,.nil=> .nil
 | _,_,n+1,.cons h r=> .cons h (IsL.take n r)
theorem IsL.drop: ∀{ds:List D} {vs:List V} (n:Nat),IsL K H ds vs->IsL K H (ds.drop n) (vs.drop n)
 | _,_,0,r=>r
 | _,_,_+1,.nil=> .nil
 | _,_,n+1,.cons _ r=>IsL.drop n r
theorem IsF.lookup: ∀{fs:List (Str×D)} {vs:List (Str×V)} {x:Str} {d:D},IsF K H fs vs->fs.lookup x=some d->∃v,vs.lookup x=some v/\Is K H d v
 | _,_,_,_,.nil,e=>by simp at e
 | _,_,x,d,.cons (x:=y) (d:=d') (v:=v') (ds:=fs) (vs:=vs) h r,e=>by
  rw[List.lookup_cons] at e⊢;cases q:(x==y) with
  | true=>rw[q] at e;simp at e;subst e;exact⟨_,rfl,h⟩
  | false=>rw[q] at e;exact IsF.lookup r e
theorem IsF.bAo: ∀{fs:List (Str×D)} {vs:List (Str×V)} {x:Str},IsF K H fs vs->fs.lookup x=none->vs.lookup x=none:=by
 intro fs
 induction fs with
 | nil=>intro vs x h e;cases h;rfl
 | cons f fs ih=>
  intro vs x h e;cases h with
  | cons i r=>
   rename_i y d' v' vs;rw[List.lookup_cons] at e⊢;cases q:(x==y) with
   | true=>rw[q] at e;simp at e
   | false=>rw[q] at e;exact ih r e
theorem IsF.length: ∀{ds:List (Str×D)} {vs:List (Str×V)},IsF K H ds vs->ds.length=vs.length:=by
 intro ds
 induction ds with
 | nil=>intro vs h;cases h;rfl
 | cons d ds ih=>intro vs h;cases h with | cons _ r=>exact congrArg (· +1) (ih r)
theorem aYz: ∀(ns:List Int),IsL K H (ns.map D.int) (ns.map V.int)
 | []=> .nil
 | n::r=> .cons (.int n) (aYz r)
end
inductive DO where
 | k (kvs:List (Key×D)) | t (kvs:List (List Key×D))
def DO.d:DO->D
 | .k kvs=> .dk kvs
 | .t kvs=> .dt kvs
def kD:Key->D
 | .inl i=> .int i
 | .inr x=> .str x
inductive SV where
 | sh (d:D) | own (ds:List D) | oin (a C dx:Addr) (fs:List (Str×D)) | ow (o:DO) | tk (ks:List Key)
abbrev Rho:=List (Option SV)
def SV.cur:SV->D
 | .sh d=>d
 | .own ds=> .lst ds
 | .oin _ C _ fs=> .obj C fs
 | .ow o=>o.d
 | .tk ks=> .tup (ks.map kD)
open Classical in
def Off (H:Hp)(O:Nat->Option Addr):Hp:=fun b=>if∃i,O i=some b then none else H b
theorem Off.same (H:Hp)(O:Nat->Option Addr):Same (Off H O) H:=fun b o h=>by
 unfold Off at h;split at h
 ·cases h
 ·exact h
theorem Off.of {H:Hp}{O:Nat->Option Addr}{b:Addr}{o:HO}(h:H b=some o)(n: ∀i,O i≠some b):Off H O b=some o:=by
 unfold Off;rw[if_neg (fun⟨i,e⟩=>n i e)];exact h
theorem Off.not {H:Hp}{O:Nat->Option Addr}{b:Addr}{o:HO}(h:Off H O b=some o): ∀i,O i≠some b:=fun i e=>by
 unfold Off at h;rw[if_pos ⟨i,e⟩] at h;cases h
theorem Off.mono {H H':Hp}{O:Nat->Option Addr}(e:Same H H'):Same (Off H O) (Off H' O):=fun b o h=>Off.of (e _ _ (Off.same H O b o h)) (Off.not h)
theorem Off.less {H:Hp}{O O':Nat->Option Addr}(e: ∀i a,O' i=some a->∃j,O j=some a):Same (Off H O) (Off H O'):=fun b o h=>Off.of (Off.same H O b o h) fun i q=>by
 obtain⟨j,z⟩:=e i b q;exact Off.not h j z
theorem Off.upd {H:Hp}{O:Nat->Option Addr}{a:Addr}{o:HO}{i:Nat}(h:O i=some a):Off (upd H a o) O=Off H O:=by
 funext b
 unfold Off;by_cases q: ∃j,O j=some b
 ·rw[if_pos q,if_pos q]
 ·rw[if_neg q,if_neg q,aA6]
  intro z;subst z;exact q ⟨i,h⟩
def bSu:HO->Bool
 | .lst _=>true
 | .ins _ _ _=>true
 | .dK _=>true
 | .dT _=>true
 | _=>false
def aRh (H:Hp)(O:Nat->Option Addr):Prop:= ∀i a,O i=some a->∃w,H a=some w/\bSu w=true
def IsO (K:PySem.W.Frag)(H:Hp):DO->HO->Prop
 | .k kvs,.dK vs=>IsK K H kvs vs
 | .t kvs,.dT vs=>IsT K H kvs vs
 | _,_=>False
theorem IsO.mono {K:PySem.W.Frag}{H H':Hp}(e:Same H H'){o:DO}{w:HO}(h:IsO K H o w):IsO K H' o w:=by
 cases o<;>cases w<;>first | exact False.elim h | skip
 ·exact IsK.mono e h
 ·exact IsT.mono e h
theorem IsO.mut {K:PySem.W.Frag}{H:Hp}{o:DO}{w:HO}(h:IsO K H o w):bSu w=true:=by
 cases o<;>cases w<;>first | exact False.elim h | rfl
theorem IsO.is {K:PySem.W.Frag}{H:Hp}{o:DO}{w:HO}{a:Addr}(ha:H a=some w)(h:IsO K H o w):Is K H o.d (.ref a):=by
 cases o<;>cases w<;>first | exact False.elim h | skip
 ·exact .dk ha h
 ·exact .dt ha h
theorem bSx {K:PySem.W.Frag}{H:Hp}(k:Key):Is K H (kD k) (kV k):=by
 cases k
 ·exact .int _
 ·exact .str _
theorem bJe {K:PySem.W.Frag}{H:Hp}: ∀(ks:List Key),IsL K H (ks.map kD) (ks.map kV)
 | []=> .nil
 | k::ks=> .cons (bSx k) (bJe ks)
theorem aRh.mono {H H':Hp}{O:Nat->Option Addr}(e:Same H H')(h:aRh H O):aRh H' O:=fun i a q=>by
 obtain⟨w,h1,h2⟩:=h i a q;exact⟨w,e _ _ h1,h2⟩
def Slot (K:PySem.W.Frag)(H:Hp)(O:Nat->Option Addr)(σ:St)(i:Nat):SV->Prop
 | .sh d=> ∃v,σ[i]? =some (some v)/\Is K (Off H O) d v
 | .own ds=> ∃a vs,O i=some a/\σ[i]? =some (some (.ref a))/\H a=some (.lst vs)/\IsL K (Off H O) ds vs
 | .oin a C dx fs=>O i=some a/\σ[i]? =some (some (.ref a))/\dx≠a/\(∃vs,H a=some (.ins C dx vs)/\IsF K (Off H O) fs vs)
 | .ow o=> ∃a w,O i=some a/\σ[i]? =some (some (.ref a))/\H a=some w/\IsO K (Off H O) o w
 | .tk ks=> ∃a,σ[i]? =some (some (.ref a))/\Off H O a=some (.tup (ks.map kV))
def Rel (K:PySem.W.Frag)(H₀:Hp)(ρ:Rho)(σ:St)(H:Hp):Prop:=
 ∃O:Nat->Option Addr,(∀i j a,O i=some a->O j=some a->i=j)/\aRh H O/\Same H₀ (Off H O)/\ρ.length=σ.length/\∀i sv,ρ[i]? =some (some sv)->Slot K H O σ i sv
section
variable {K:PySem.W.Frag}{H₀ H H':Hp}{ρ:Rho}{σ:St}
theorem Slot.mono {O:Nat->Option Addr}{i:Nat}{sv:SV}(e:Same H H')(h:Slot K H O σ i sv):Slot K H' O σ i sv:=by
 cases sv with
 | sh d=>obtain⟨v,h1,h2⟩:=h;exact⟨v,h1,h2.mono (Off.mono e)⟩
 | own ds=>obtain⟨a,vs,h1,h2,h3,h4⟩:=h;exact⟨a,vs,h1,h2,e _ _ h3,h4.mono (Off.mono e)⟩
 | oin a C dx fs=>obtain⟨h1,h2,h3,vs,h4,h5⟩:=h;exact⟨h1,h2,h3,vs,e _ _ h4,h5.mono (Off.mono e)⟩
 | ow o=>obtain⟨a,w,h1,h2,h3,h4⟩:=h;exact⟨a,w,h1,h2,e _ _ h3,h4.mono (Off.mono e)⟩
 | tk ks=>obtain⟨a,h1,h2⟩:=h;exact⟨a,h1,Off.mono e _ _ h2⟩
theorem Rel.mono (e:Same H H')(r:Rel K H₀ ρ σ H):Rel K H₀ ρ σ H':=by
 obtain⟨O,h1,ho,h2,hl,h3⟩:=r;exact⟨O,h1,ho.mono e,h2.trans (Off.mono e),hl,fun i sv q=>(h3 i sv q).mono e⟩
theorem Rel.get (r:Rel K H₀ ρ σ H){i:Nat}{sv:SV}(q:ρ[i]? =some (some sv)): ∃v,σ[i]? =some (some v)/\Is K H sv.cur v:=by
 obtain⟨O,h1,ho,h2,hl,h3⟩:=r;have z:=h3 i sv q;cases sv with
 | sh d=>obtain⟨v,e1,e2⟩:=z;exact⟨v,e1,e2.mono (Off.same _ _)⟩
 | own ds=>obtain⟨a,vs,e1,e2,e3,e4⟩:=z;exact⟨.ref a,e2,.lst (SqL.of e3) (e4.mono (Off.same _ _))⟩
 | oin a C dx fs=>obtain⟨e1,e2,e3,vs,e4,e5⟩:=z;exact⟨.ref a,e2,.obj e4 (e5.mono (Off.same _ _))⟩
 | ow o=>obtain⟨a,w,e1,e2,e3,e4⟩:=z;exact⟨.ref a,e2,(e4.mono (Off.same _ _)).is e3⟩
 | tk ks=>obtain⟨a,e1,e2⟩:=z;exact⟨.ref a,e1,.tup (TQ.of (Off.same _ _ _ _ e2)) (bJe ks)⟩
theorem Rel.kept (r:Rel K H₀ ρ σ H):Same H₀ H:=by
 obtain⟨O,h1,ho,h2,_⟩:=r;exact h2.trans (Off.same _ _)
end
mutual
def D.imm:D->Bool
 | .non=>true | .bl _=>true | .int _=>true | .str _=>true
 | .tup ds=>aIm ds
 | .lst _=>false
 | .obj _ _=>false
 | .dk _=>false
 | .dt _=>false
 | .exc _=>false
 | .set _=>false
def aIm:List D->Bool
 | []=>true
 | d::ds=>d.imm&&aIm ds
end
section
variable {K:PySem.W.Frag}{H H':Hp}
theorem Is.alike (ht: ∀b xs,H b=some (.tup xs)->H' b=some (.tup xs))(hf: ∀b o u,H b=some (.frz o u)->H' b=some (.frz o u)){d:D}{v:V}(q:d.imm=true)(h:Is K H d v):Is K H' d v:=
 Is.rec (motive_1:=fun d v _=>d.imm=true->Is K H' d v) (motive_2:=fun _ _ _=>True) (motive_3:=fun _ _ _=>True) (motive_4:=fun ds vs _=>aIm ds=true->IsL K H' ds vs) (motive_5:=fun _ _ _=>True)
  (fun _=> .non) (fun b _=> .bl b) (fun i _=> .int i) (fun x _=> .str x) (fun h _ r q=> .tup (ht _ _ h) (r q)) (fun _ _ _ q=>Bool.noConfusion (show false=true from q)) (fun _ _ _ q=>Bool.noConfusion (show false=true from q)) (fun _ _ _ q=>Bool.noConfusion (show false=true from q)) (fun _ _ _ q=>Bool.noConfusion (show false=true from q)) (fun _ q=>Bool.noConfusion (show false=true from q)) (fun _ q=>Bool.noConfusion (show false=true from q))
  trivial (fun _ _ _ _=>trivial) trivial (fun _ _ _ _=>trivial) (fun _=> .nil) (fun _ _ i r q=> .cons (i (Bool.and_eq_true_iff.mp q).1) (r (Bool.and_eq_true_iff.mp q).2)) trivial (fun _ _ _ _=>trivial) h q
theorem IsL.alike (ht: ∀b xs,H b=some (.tup xs)->H' b=some (.tup xs))(hf: ∀b o u,H b=some (.frz o u)->H' b=some (.frz o u)): ∀{ds:List D} {vs:List V},aIm ds=true->IsL K H ds vs->IsL K H' ds vs:=by
 intro ds
 induction ds with
 | nil=>intro vs q h;cases h;exact .nil
 | cons d ds ih=>
  intro vs q h;rw[aIm,Bool.and_eq_true] at q;cases h with | cons i r=>exact .cons (Is.alike ht hf q.1 i) (ih q.2 r)
theorem aKb {O:Nat->Option Addr}(ho:aRh H O){d:D}{v:V}(q:d.imm=true)(h:Is K H d v):Is K (Off H O) d v:=by
 refine Is.alike (fun b xs e=>Off.of e fun i z=> ?_) (fun b o u e=>Off.of e fun i z=> ?_) q h
 ·obtain⟨u,w,m⟩:=ho i b z;rw[w] at e;cases e;cases m
 ·obtain⟨u,w,m⟩:=ho i b z;rw[w] at e;cases e;cases m
theorem aJi {O:Nat->Option Addr}(ho:aRh H O){ds:List D}{vs:List V}(q:aIm ds=true)(h:IsL K H ds vs):IsL K (Off H O) ds vs:=by
 refine IsL.alike (fun b xs e=>Off.of e fun i z=> ?_) (fun b o u e=>Off.of e fun i z=> ?_) q h
 ·obtain⟨u,w,m⟩:=ho i b z;rw[w] at e;cases e;cases m
 ·obtain⟨u,w,m⟩:=ho i b z;rw[w] at e;cases e;cases m
end
abbrev M (α:Type):=Option (Except Addr α)
def ok {α:Type}(a:α):M α:=some (.ok a)
def err {α:Type}(c:Addr):M α:=some (.error c)
def bnd {α β:Type}(m:M α)(k:α->M β):M β:=match m with
 | none=>none
 | some (.error c)=>some (.error c)
 | some (.ok a)=>k a
@[simp] theorem aCx {α β:Type} (a:α) (k:α->M β):bnd (ok a) k=k a:=rfl
@[simp] theorem bTb {α β:Type} (c:Addr) (k:α->M β):bnd (err c:M α) k=err c:=rfl
@[simp] theorem bRg {α β:Type} (k:α->M β):bnd (none:M α) k=none:=rfl
theorem aCw {α:Type}{a b:α}(h:ok a=ok b):a=b:=by cases h;rfl
theorem bFa {α β:Type}{m:M α}{k:α->M β}{b:β}(h:bnd m k=ok b): ∃a,m=ok a/\k a=ok b:=by
 unfold bnd at h;split at h
 ·cases h
 ·cases h
 ·exact⟨_,rfl,h⟩
def Fly (P:Program)(w:World)(outer:List Env)(s:Shared)(ea c:Addr)(H':Hp)(s':Shared):Prop:=
 ∃Bs a0,Heap.FlyingW Bs outer ea (.ref c) a0 s'.heap/\(∀b o o',s.heap.get? b=some o'->b∉frs outer->s'.heap.get? b=some o->Bs.get? b=some o)/\HOk P w H' Bs
def Exc (X:Cx)(pins:List (Addr×Obj))(σ:St)(H:Hp)(c:Addr)(e:Value)(s:Shared):Prop:= ∃ea,e= .ref ea/\
 ((∃h args,Heap.MadeExcOf h s.heap ea (.ref c) args/\Inv X pins σ H {s with heap:=h})\/
  (∃s1 H1,Inv X pins σ H1 s1/\s.os=s1.os/\AllBare s.gens/\Un (frs X.stack) [] H1 H s1.heap s.heap/\Fly X.prog X.w X.stack s1 ea c H s))
def Thr (X:Cx)(σ:St)(H:Hp)(c:Addr):Prop:= ∀(pins:List (Addr×Obj)) (s:Shared) (H':Hp) (e:Value),Same H H'->Exc X pins σ H' c e s->X.xe e s
theorem Thr.mono {X:Cx}{σ:St}{H H':Hp}{c:Addr}(e:Same H H')(t:Thr X σ H c):Thr X σ H' c:=fun pins s H2 ev q x=>t pins s H2 ev (e.trans q) x
def Res {α:Type}(X:Cx)(σ:St)(H:Hp)(Q:α->Prop)(m:M α):Prop:=match m with
 | none=>False
 | some (.error c)=>Thr X σ H c
 | some (.ok a)=>Q a
theorem Res.bind {α β:Type}{X:Cx}{σ:St}{H:Hp}{Q:β->Prop}{m:M α}{k:α->M β}(h:Res X σ H Q (bnd m k)):Res X σ H (fun a=>Res X σ H Q (k a)) m:=by
 unfold bnd at h;split at h
 ·exact h
 ·exact h
 ·exact h
theorem Res.mono {α:Type}{X:Cx}{σ:St}{H H':Hp}{Q Q':α->Prop}{m:M α}(e:Same H H')(h:Res X σ H Q m)(i: ∀a,Q a->Q' a):Res X σ H' Q' m:=by
 unfold Res at*;split at h
 ·exact h
 ·exact Thr.mono e h
 ·exact i _ h
theorem Res.imp {α:Type}{X:Cx}{σ:St}{H:Hp}{Q Q':α->Prop}{m:M α}(h:Res X σ H Q m)(i: ∀a,Q a->Q' a):Res X σ H Q' m:=h.mono (Same.refl H) i
def tD (X:Cx)(B:Hp)(f:Rho->M D):TE:=fun σ H Q=> ∃ρ,Rel X.K B ρ σ H/\Res X σ H (fun d=> ∀v H',Same H H'->Is X.K H' d v->Q v H') (f ρ)
def tDT (X:Cx)(B:Hp)(f:Rho->M Bool):TT:=fun σ H Q=> ∃ρ,Rel X.K B ρ σ H/\Res X σ H (fun b=> ∀H',Same H H'->Q b H') (f ρ)
def tDA (X:Cx)(B:Hp)(f:Rho->M (List D)):TA:=fun σ H Q=> ∃ρ,Rel X.K B ρ σ H/\Res X σ H (fun ds=> ∀vs H',Same H H'->IsL X.K H' ds vs->Q vs H') (f ρ)
abbrev PD (X:Cx)(B:Hp)(e:Expr)(f:Rho->M D):Prop:=PE X e (tD X B f)
abbrev PDT (X:Cx)(B:Hp)(e:Expr)(f:Rho->M Bool):Prop:=PT X e (tDT X B f)
abbrev PDW (X:Cx)(B:Hp)(e:Expr)(f:Rho->M Bool):Prop:=PW X e (tDT X B f)
abbrev PDA (X:Cx)(B:Hp)(es:List Expr)(f:Rho->M (List D)):Prop:=PA X es (tDA X B f)
section
variable {X:Cx}{B:Hp}{e a b c:Expr}{es:List Expr}{pos:Pos}
theorem PE.of {t t':TE}(h:PE X e t)(i: ∀σ H Q,t' σ H Q->t σ H Q):PE X e t':=fun pins s σ H Q I q=>h pins s σ H Q I (i σ H Q q)
theorem PT.of {t t':TT}(h:PT X e t)(i: ∀σ H Q,t' σ H Q->t σ H Q):PT X e t':=fun pins s σ H Q I q=>h pins s σ H Q I (i σ H Q q)
theorem PW.of {t t':TT}(h:PW X e t)(i: ∀σ H Q,t' σ H Q->t σ H Q):PW X e t':=fun wh pins s σ H Q I q=>h wh pins s σ H Q I (i σ H Q q)
theorem PA.of {t t':TA}(h:PA X es t)(i: ∀σ H Q,t' σ H Q->t σ H Q):PA X es t':=fun pos pins s σ H Q I q=>h pos pins s σ H Q I (i σ H Q q)
def look (i:Nat):Rho->M D:=fun ρ=>match ρ[i]? with
 | some (some sv)=>ok sv.cur
 | _=>none
theorem aAb (i:Nat){x:Str}{pos:Pos}(hN:X.N[i]? =some x:=by rfl)(hv:Vis X.env.scope x:=by first | exact Or.inl rfl | exact Or.inr (Or.inl rfl) | exact Or.inr (Or.inr rfl))(hd:(x==("__debug__":Str))=false:=by decide)
  (hcd:(x==("__classdict__":Str))=false:=by decide):PD X B (.Name x pos) (look i):=by
 refine PE.of (aGd hN hv hd hcd) fun σ H Q h=> ?_
 obtain⟨ρ,r,h⟩:=h;unfold look at h;split at h
 ·rename_i sv q
  obtain⟨v,e1,e2⟩:=r.get q;exact⟨v,e1,h v H (Same.refl H) e2⟩
 ·exact False.elim h
def con (d:D):Rho->M D:=fun _=>ok d
theorem aAj {i j pos}:PD X B (.Constant (.int i) j pos) (con (.int i)):=PE.of bOu fun σ H Q ⟨ρ,r,h⟩=>h _ H (Same.refl H) (.int i)
theorem aIy {i j pos}:PD X B (.Constant (.bool i) j pos) (con (.bl i)):=PE.of bSd fun σ H Q ⟨ρ,r,h⟩=>h _ H (Same.refl H) (.bl i)
theorem aHh {j pos}:PD X B (.Constant .none j pos) (con .non):=PE.of bOt fun σ H Q ⟨ρ,r,h⟩=>h _ H (Same.refl H) .non
theorem aQw {x j pos}:PD X B (.Constant (.str x) j pos) (con (.str x)):=PE.of bIw fun σ H Q ⟨ρ,r,h⟩=>h _ H (Same.refl H) (.str x)
def b2 (g:D->D->M D)(fa fb:Rho->M D):Rho->M D:=fun ρ=>bnd (fa ρ) fun x=>bnd (fb ρ) fun y=>g x y
def aTo (X:Cx)(r:R2)(g:D->D->M D):Prop:= ∀(H:Hp) (x y:V) (dx dy d:D) (Q:VK),Is X.K H dx x->Is X.K H dy y->g dx dy=ok d->(∀v H',Same H H'->Is X.K H' d v->Q v H')->r x y H Q
def aJt {α β:Type}(g:α->β->M D):Prop:= ∀x y c,g x y≠err c
variable {fa fb fc:Rho->M D}
theorem aZm {r:R2}{g:D->D->M D}(hg:aTo X r g)(hn:aJt g){σ:St}{H:Hp}{Q:VK}(h:tD X B (b2 g fa fb) σ H Q):tOp r (tD X B fa) (tD X B fb) σ H Q:=by
 obtain⟨ρ,r1,h⟩:=h;refine⟨ρ,r1,(Res.bind h).imp fun dx h1 v H1 e1 i1=>⟨ρ,r1.mono e1,(Res.bind h1).mono e1 fun dy h2 u H2 e2 i2=> ?_⟩⟩;cases q:g dx dy with
 | none=>rw[q] at h2;exact False.elim h2
 | some z=>
  cases z with
  | error c=>exact absurd q (hn dx dy c)
  | ok d=>
   rw[q] at h2;exact hg H2 v u dx dy d Q (i1.mono e2) i2 q fun w H3 e3 i3=>h2 w H3 ((e1.trans e2).trans e3) i3
theorem bAe {op:Operator}{r:R2}{g:D->D->M D}(ho:OpR X (binaryOp op) r)(hg:aTo X r g)(hn:aJt g)(ha:PD X B a fa)(hb:PD X B b fb):PD X B (.BinOp a op b pos) (b2 g fa fb):=
 PE.of (bSb ho ha hb) fun _ _ _ h=>aZm hg hn h
theorem aUf {op:CmpOp}{r:R2}{g:D->D->M D}(ho:OpR X (compareOp op) r)(hg:aTo X r g)(hn:aJt g)(ha:PD X B a fa)(hb:PD X B b fb)(hm:behindInMarks op b=false):PD X B (.Compare a [op] [b] pos) (b2 g fa fb):=
 PE.of (bKy ho ha hb hm) fun _ _ _ h=>aZm hg hn h
def tru:D->M Bool
 | .non=>ok false
 | .bl b=>ok b
 | .int i=>ok (i !=0)
 | .tup ds=>ok (!ds.isEmpty)
 | .lst ds=>ok (!ds.isEmpty)
 | _=>none
def aVz:D->M Bool
 | .bl b=>ok b
 | _=>none
def test (f:Rho->M D):Rho->M Bool:=fun ρ=>bnd (f ρ) tru
def aA2 (f:Rho->M D):Rho->M Bool:=fun ρ=>bnd (f ρ) aVz
theorem aKa {op:CmpOp}{r:R2}{g:D->D->M D}(ho:OpR X (compareOp op) r)(hg:aTo X r g)(hn:aJt g)(ha:PD X B a fa)(hb:PD X B b fb)(hm:behindInMarks op b=false):PDT X B (.Compare a [op] [b] pos) (aA2 (b2 g fa fb)):=by
 refine PT.of (bKp ho ha hb hm) fun σ H Q h=> ?_
 obtain⟨ρ,r1,h⟩:=h;refine aZm hg hn ⟨ρ,r1,(Res.bind h).imp fun d h1 v H1 e1 i1=> ?_⟩;unfold aVz at h1;split at h1
 ·rename_i k
  cases i1;exact⟨k,rfl,h1 H1 e1⟩
 ·exact False.elim h1
theorem aO3 {K:PySem.W.Frag}{H:Hp}{ds:List D}{vs:List V}(r:IsL K H ds vs):vs.isEmpty=ds.isEmpty:=by cases r<;>rfl
theorem bRl {K:PySem.W.Frag}{H:Hp}{d:D}{v:V}{k:Bool}(i:Is K H d v)(h:tru d=ok k):bTd K v H k:=by
 cases i with
 | non=>exact (aCw h).symm
 | bl b=>exact (aCw h).symm
 | int i=>exact (aCw h).symm
 | str x=>exact absurd h (by simp[tru,ok])
 | tup h1 r=>exact .inr (.inl ⟨_,h1,by rw[aO3 r];exact (aCw h).symm⟩)
 | lst h1 r=>exact .inl ⟨_,h1,by rw[aO3 r];exact (aCw h).symm⟩
 | obj h1 r=>exact absurd h (by simp[tru,ok])
 | dk h1 r=>exact absurd h (by simp[tru,ok])
 | dt h1 r=>exact absurd h (by simp[tru,ok])
 | exc h1=>exact absurd h (by simp[tru,ok])
 | set h1=>exact absurd h (by simp[tru,ok])
theorem bBf (d:D)(c:Addr):tru d≠err c:=by cases d<;>simp[tru,ok,err]
theorem aG4 (ha:PD X B a fa)(he: ∀whole,isTrue a X.env whole=(do let v<-whole;standAt a.pos;holding [v] (truthy v)):=by intro _;rfl):PDT X B a (test fa):=by
 refine PT.of (bGk ha he) fun σ H Q h=> ?_
 obtain⟨ρ,r1,h⟩:=h;refine⟨ρ,r1,(Res.bind h).imp fun d h1 v H1 e1 i1=> ?_⟩;cases q:tru d with
 | none=>rw[q] at h1;exact False.elim h1
 | some z=>
  cases z with
  | error c=>exact absurd q (bBf d c)
  | ok k=>rw[q] at h1;exact⟨k,bRl i1 q,h1 H1 e1⟩
variable {ta tb tc:Rho->M Bool}{rest:List Expr}
def bM2 (f g:Rho->M Bool):Rho->M Bool:=fun ρ=>bnd (f ρ) fun x=>if x=true then g ρ else ok false
def orB (f g:Rho->M Bool):Rho->M Bool:=fun ρ=>bnd (f ρ) fun x=>if x=true then ok true else g ρ
def aM1 (f:Rho->M Bool):Rho->M Bool:=fun ρ=>bnd (f ρ) fun x=>ok (!x)
theorem bGt (ha:PDT X B a ta):PDW X B (.BoolOp .And [a] pos) ta:=bKn ha
theorem aN9 (ha:PDT X B a ta):PDW X B (.BoolOp .Or [a] pos) ta:=bOc ha
theorem bKz (ha:PDT X B a ta)(hb:PDW X B (.BoolOp .And (b::rest) pos) tb):PDW X B (.BoolOp .And (a::b::rest) pos) (bM2 ta tb):=by
 refine PW.of (bOd ha hb) fun σ H Q h=> ?_
 obtain⟨ρ,r1,h⟩:=h;refine⟨ρ,r1,(Res.bind h).imp fun x h1 H1 e1=> ?_⟩;cases x with
 | true=>exact⟨ρ,r1.mono e1,Res.mono e1 h1 fun y q H2 e2=>q H2 (e1.trans e2)⟩
 | false=>exact h1 H1 e1
theorem aUc (ha:PDT X B a ta)(hb:PDW X B (.BoolOp .Or (b::rest) pos) tb):PDW X B (.BoolOp .Or (a::b::rest) pos) (orB ta tb):=by
 refine PW.of (bR6 ha hb) fun σ H Q h=> ?_
 obtain⟨ρ,r1,h⟩:=h;refine⟨ρ,r1,(Res.bind h).imp fun x h1 H1 e1=> ?_⟩;cases x with
 | false=>exact⟨ρ,r1.mono e1,Res.mono e1 h1 fun y q H2 e2=>q H2 (e1.trans e2)⟩
 | true=>exact h1 H1 e1
theorem PDW.pdt {f:Rho->M Bool}(h:PDW X B e f):PDT X B e f:=h.pt
theorem aIw (ha:PDT X B a ta):PDT X B (.UnaryOp .Not a pos) (aM1 ta):=by
 refine PT.of (bOh ha) fun σ H Q h=> ?_
 obtain⟨ρ,r1,h⟩:=h;exact⟨ρ,r1,(Res.bind h).imp fun x h1 H1 e1=>h1 H1 e1⟩
def aV0 (f g:Rho->M D):Rho->M D:=fun ρ=>bnd (f ρ) fun x=>bnd (aVz x) fun k=>if k=true then g ρ else ok (.bl false)
def orV (f g:Rho->M D):Rho->M D:=fun ρ=>bnd (f ρ) fun x=>bnd (aVz x) fun k=>if k=true then ok (.bl true) else g ρ
def bSq (f:Rho->M D):Rho->M D:=fun ρ=>bnd (f ρ) fun x=>bnd (aVz x) fun k=>ok (.bl (!k))
theorem aTh {σ:St}{H:Hp}{Q:Bool->Prop}{d:D}(h:Res X σ H Q (aVz d)): ∃k,d= .bl k/\Q k:=by
 unfold aVz at h;split at h
 ·exact⟨_,rfl,h⟩
 ·exact False.elim h
theorem aQz {op}(h:PD X B a fa):PD X B (.BoolOp op [a] pos) fa:=bOr h
theorem aQ1 (ha:PD X B a fa)(hb:PD X B (.BoolOp .And (b::rest) pos) fb):PD X B (.BoolOp .And (a::b::rest) pos) (aV0 fa fb):=by
 refine PE.of (bOx ha hb) fun σ H Q h=> ?_
 obtain⟨ρ,r1,h⟩:=h;refine⟨ρ,r1,(Res.bind h).imp fun d h1 v H1 e1 i1=> ?_⟩;obtain⟨k,rfl,h2⟩:=aTh (Res.bind h1);cases i1;refine⟨k,rfl,?_⟩;cases k with
 | true=>exact⟨ρ,r1.mono e1,Res.mono e1 h2 fun y q u H2 e2 i2=>q u H2 (e1.trans e2) i2⟩
 | false=>exact h2 _ H1 e1 (.bl false)
theorem bSf (ha:PD X B a fa)(hb:PD X B (.BoolOp .Or (b::rest) pos) fb):PD X B (.BoolOp .Or (a::b::rest) pos) (orV fa fb):=by
 refine PE.of (bSa ha hb) fun σ H Q h=> ?_
 obtain⟨ρ,r1,h⟩:=h;refine⟨ρ,r1,(Res.bind h).imp fun d h1 v H1 e1 i1=> ?_⟩;obtain⟨k,rfl,h2⟩:=aTh (Res.bind h1);cases i1;refine⟨k,rfl,?_⟩;cases k with
 | false=>exact⟨ρ,r1.mono e1,Res.mono e1 h2 fun y q u H2 e2 i2=>q u H2 (e1.trans e2) i2⟩
 | true=>exact h2 _ H1 e1 (.bl true)
theorem bOz (ha:PD X B a fa):PD X B (.UnaryOp .Not a pos) (bSq fa):=by
 refine PE.of (bOs ha) fun σ H Q h=> ?_
 obtain⟨ρ,r1,h⟩:=h;refine⟨ρ,r1,(Res.bind h).imp fun d h1 v H1 e1 i1=> ?_⟩;obtain⟨k,rfl,h2⟩:=aTh (Res.bind h1);cases i1;exact⟨k,rfl,h2 _ H1 e1 (.bl _)⟩
def aD4:Expr->Bool
 | .Starred .. =>false
 | _=>true
theorem aA5 {e:Expr}{es:List Expr}{env:Env}(h:aD4 e=true):starEach (e::es) env=(false,eval e env)::starEach es env:=by
 cases e<;>first | rfl | cases h
theorem aIl {e:Expr}{env:Env}(h:aD4 e=true):starEach [e] env=[(false,eval e env)]:=aA5 h
theorem aZ1 {e f:Expr}{env:Env}(h:aD4 e=true)(h':aD4 f=true):starEach [e,f] env=[(false,eval e env),(false,eval f env)]:=by rw[aA5 h,aIl h']
def aA3:Rho->M (List D):=fun _=>ok []
def aAe (f:Rho->M D)(g:Rho->M (List D)):Rho->M (List D):=fun ρ=>bnd (f ρ) fun x=>bnd (g ρ) fun xs=>ok (x::xs)
variable {ga:Rho->M (List D)}
theorem aAk:PDA X B [] aA3:=PA.of aEi fun σ H Q ⟨ρ,r,h⟩=>h [] H (Same.refl H) .nil
theorem aAc (ha:PD X B e fa)(hr:PDA X B es ga)(hs:starEach (e::es) X.env=(false,eval e X.env)::starEach es X.env:=by exact aA5 rfl):PDA X B (e::es) (aAe fa ga):=by
 refine PA.of (aBq ha hr hs) fun σ H Q h=> ?_
 obtain⟨ρ,r1,h⟩:=h;refine⟨ρ,r1,(Res.bind h).imp fun d h1 v H1 e1 i1=>⟨ρ,r1.mono e1,(Res.bind h1).mono e1 fun ds h2 vs H2 e2 i2=> ?_⟩⟩;exact h2 (v::vs) H2 (e1.trans e2) (.cons (i1.mono e2) i2)
theorem aA4 {H:Hp}{p:Addr}(h:H p=none)(o:HO):Same H (upd H p o):=fun b u q=>by rw[aA6 (aDv q h)];exact q
def mkT (g:Rho->M (List D)):Rho->M D:=fun ρ=>bnd (g ρ) fun ds=>if ds.length<=1000 then ok (.tup ds) else none
def mkL (g:Rho->M (List D)):Rho->M D:=fun ρ=>bnd (g ρ) fun ds=>if ds.length<=1000 then ok (.lst ds) else none
theorem aOv {n:Nat}(h:n<=1000):n<=sizeLine:=Nat.le_of_lt (bBq h)
theorem aIx {x1}(h:PDA X B es ga):PD X B (.Tuple es x1 pos) (mkT ga):=by
 refine PE.of (bIv h) fun σ H Q h=> ?_
 obtain⟨ρ,r1,h⟩:=h;refine⟨ρ,r1,(Res.bind h).imp fun ds h1 vs H1 e1 i1=> ?_⟩;by_cases hl:ds.length<=1000
 ·rw[if_pos hl] at h1
  exact⟨by rw[<-i1.length];exact aOv hl,fun p hp=>h1 _ _ (e1.trans (aA4 hp _)) (.tup (TQ.of aAy) (i1.mono (aA4 hp _)))⟩
 ·rw[if_neg hl] at h1;exact False.elim h1
theorem bI1 (h:PDA X B es ga):PD X B (.List es pos) (mkL ga):=by
 refine PE.of (bIx h) fun σ H Q h=> ?_
 obtain⟨ρ,r1,h⟩:=h;refine⟨ρ,r1,(Res.bind h).imp fun ds h1 vs H1 e1 i1=> ?_⟩;by_cases hl:ds.length<=1000
 ·rw[if_pos hl] at h1
  exact⟨by rw[<-i1.length];exact aOv hl,fun p hp=>h1 _ _ (e1.trans (aA4 hp _)) (.lst (SqL.of aAy) (i1.mono (aA4 hp _)))⟩
 ·rw[if_neg hl] at h1;exact False.elim h1
end
def aXh:D->D->M D
 | .int i,.int j=>ok (.int (i-j))
 | _,_=>none
def aM5 (i j:Int):Bool:=decide (Builtin.Int.intBits i<=1048576)&&decide (Builtin.Int.intBits j<=1048576)
def bJi:D->D->M D
 | .int i,.int j=>if aM5 i j=true then ok (.int (i*j)) else none
 | _,_=>none
def aB9:D->D->M D
 | .int i,.int j=>if 0<j/\j<1073741824 then ok (.int (i/j)) else none
 | _,_=>none
def aC1:D->D->M D
 | .int i,.int j=>if 0<j then ok (.int (i%j)) else none
 | _,_=>none
def aM6:D->D->M D
 | .int i,.int j=>if 0<=j/\j<=1000/\i.natAbs<1000 then ok (.int (i^j.toNat)) else none
 | _,_=>none
section
variable {X:Cx}{B:Hp}{a b:Expr}{fa fb:Rho->M D}{pos:Pos}
theorem bLv {i j:Int}(h:aM5 i j=true):IntMulOk i j:=by
 unfold aM5 at h;rw[Bool.and_eq_true] at h;exact IntMulOk.of_bits (of_decide_eq_true h.1) (of_decide_eq_true h.2)
theorem bLg:OpR X (binaryOp .Mult) (rI (fun i j=>aM5 i j=true) fun i j=> .int (i*j)):=opI fun _ _ _ _ _ _ _ hc q=>mul_int q (bLv hc)
theorem bN5 {h:Int->Int->Int}{g:D->D->M D}(hg: ∀dx dy d,g dx dy=ok d->∃i j,dx= .int i/\dy= .int j/\d= .int (h i j)):aTo X (rI0 fun i j=> .int (h i j)) g:=by
 intro H x y dx dy d Q ix iy e q;obtain⟨i,j,rfl,rfl,rfl⟩:=hg _ _ _ e;cases ix;cases iy;exact⟨i,j,rfl,rfl,q _ H (Same.refl H) (.int _)⟩
theorem bKk {C:Int->Int->Prop}{h:Int->Int->Int}{g:D->D->M D}(hg: ∀dx dy d,g dx dy=ok d->∃i j,dx= .int i/\dy= .int j/\C i j/\d= .int (h i j)):aTo X (rI C fun i j=> .int (h i j)) g:=by
 intro H x y dx dy d Q ix iy e q;obtain⟨i,j,rfl,rfl,c,rfl⟩:=hg _ _ _ e;cases ix;cases iy;exact⟨i,j,rfl,rfl,c,q _ H (Same.refl H) (.int _)⟩
theorem bCp (ha:PD X B a fa)(hb:PD X B b fb):PD X B (.BinOp a .Sub b pos) (b2 aXh fa fb):=
 bAe bO7 (bN5 fun dx dy d e=>by
  unfold aXh at e;split at e<;>first |(cases e;done) | exact⟨_,_,rfl,rfl,(aCw e).symm⟩) (by intro x y c h;unfold aXh at h;(repeat' split at h)<;>cases h) ha hb
theorem aEd (ha:PD X B a fa)(hb:PD X B b fb):PD X B (.BinOp a .FloorDiv b pos) (b2 aB9 fa fb):=
 bAe bLh (bKk fun dx dy d e=>by
  unfold aB9 at e;split at e<;>first |(cases e;done) | skip
  split at e
  ·rename_i h;exact⟨_,_,rfl,rfl,h,(aCw e).symm⟩
  ·exact nomatch e) (by intro x y c h;unfold aB9 at h;(repeat' split at h)<;>cases h) ha hb
theorem aCm (ha:PD X B a fa)(hb:PD X B b fb):PD X B (.BinOp a .Mod b pos) (b2 aC1 fa fb):=
 bAe bO9 (bKk fun dx dy d e=>by
  unfold aC1 at e;split at e<;>first |(cases e;done) | skip
  split at e
  ·rename_i h;exact⟨_,_,rfl,rfl,h,(aCw e).symm⟩
  ·exact nomatch e) (by intro x y c h;unfold aC1 at h;(repeat' split at h)<;>cases h) ha hb
theorem aQy (ha:PD X B a fa)(hb:PD X B b fb):PD X B (.BinOp a .Pow b pos) (b2 aM6 fa fb):=
 bAe bO8 (bKk fun dx dy d e=>by
  unfold aM6 at e;split at e<;>first |(cases e;done) | skip
  split at e
  ·rename_i h;exact⟨_,_,rfl,rfl,⟨h.1,by omega,by have:=h.2.2;omega⟩,(aCw e).symm⟩
  ·exact nomatch e) (by intro x y c h;unfold aM6 at h;(repeat' split at h)<;>cases h) ha hb
def gLt:D->D->M D
 | .int i,.int j=>ok (.bl (decide (i<j)))
 | _,_=>none
def gGt:D->D->M D
 | .int i,.int j=>ok (.bl (decide (j<i)))
 | _,_=>none
def gGe:D->D->M D
 | .int i,.int j=>ok (.bl (decide (j<=i)))
 | _,_=>none
def eqF:D->D->Option Bool
 | .non,.non=>some true
 | .non,.int _=>some false
 | .int _,.non=>some false
 | .non,.bl _=>some false
 | .bl _,.non=>some false
 | .non,.str _=>some false
 | .str _,.non=>some false
 | .int i,.int j=>some (decide (i=j))
 | .bl i,.bl j=>some (decide (i=j))
 | .str i,.str j=>some (decide (i=j))
 | .int _,.str _=>some false
 | .str _,.int _=>some false
 | .bl _,.str _=>some false
 | .str _,.bl _=>some false
 | _,_=>none
def gEq (x y:D):M D:=match eqF x y with
 | some b=>ok (.bl b)
 | none=>none
def gNe (x y:D):M D:=match eqF x y with
 | some b=>ok (.bl (!b))
 | none=>none
def bDw:D->Bool
 | .non=>true
 | _=>false
def gIs:D->D->M D
 | x,.non=>ok (.bl (bDw x))
 | _,_=>none
theorem bCd {h:Int->Int->Bool}{g:D->D->M D}(hg: ∀dx dy d,g dx dy=ok d->∃i j,dx= .int i/\dy= .int j/\d= .bl (h i j)):aTo X (rI0 fun i j=> .bl (h i j)) g:=by
 intro H x y dx dy d Q ix iy e q;obtain⟨i,j,rfl,rfl,rfl⟩:=hg _ _ _ e;cases ix;cases iy;exact⟨i,j,rfl,rfl,q _ H (Same.refl H) (.bl _)⟩
theorem bUp:aTo X (rI0 fun i j=> .bl (decide (i<j))) gLt:=bCd fun dx dy d e=>by
  unfold gLt at e;split at e<;>first |(cases e;done) | exact⟨_,_,rfl,rfl,(aCw e).symm⟩
theorem bUr:aTo X (rI0 fun i j=> .bl (decide (j<i))) gGt:=bCd fun dx dy d e=>by
  unfold gGt at e;split at e<;>first |(cases e;done) | exact⟨_,_,rfl,rfl,(aCw e).symm⟩
theorem bUs:aTo X (rI0 fun i j=> .bl (decide (j<=i))) gGe:=bCd fun dx dy d e=>by
  unfold gGe at e;split at e<;>first |(cases e;done) | exact⟨_,_,rfl,rfl,(aCw e).symm⟩
theorem bU4:aJt gLt:=by intro x y c h;unfold gLt at h;split at h<;>cases h
theorem bU6:aJt gGt:=by intro x y c h;unfold gGt at h;split at h<;>cases h
theorem bU7:aJt gGe:=by intro x y c h;unfold gGe at h;split at h<;>cases h
theorem bTv:aJt gIs:=by intro x y c;cases y<;>(intro h;exact nomatch h)
theorem n_eq:aJt gEq:=by intro x y c h;unfold gEq at h;split at h<;>exact nomatch h
theorem bU3:aJt gNe:=by intro x y c h;unfold gNe at h;split at h<;>exact nomatch h
theorem bQh {K:PySem.W.Frag}{H:Hp}{dx dy:D}{x y:V}{b:Bool}(ix:Is K H dx x)(iy:Is K H dy y)(e:eqF dx dy=some b):bRy x y=true/\decide (x=y)=b:=by
 cases ix with
 | non=>cases iy<;>first |(cases e;done) |(have e':=Option.some.inj e;subst e';exact⟨rfl,by simp⟩)
 | bl=>cases iy<;>first |(cases e;done) |(have e':=Option.some.inj e;subst e';exact⟨rfl,by simp⟩)
 | int=>cases iy<;>first |(cases e;done) |(have e':=Option.some.inj e;subst e';exact⟨rfl,by simp⟩)
 | str=>cases iy<;>first |(cases e;done) |(have e':=Option.some.inj e;subst e';exact⟨rfl,by simp⟩)
 | _=>exact nomatch e
theorem bTm:aTo X rEq gEq:=by
 intro H x y dx dy d Q ix iy e q;unfold gEq at e;split at e
 ·rename_i b hb
  obtain⟨h1,h2⟩:=bQh ix iy hb;have e':=aCw e;subst e';exact⟨h1,by rw[h2];exact q _ H (Same.refl H) (.bl _)⟩
 ·exact nomatch e
theorem bUo:aTo X rNe gNe:=by
 intro H x y dx dy d Q ix iy e q;unfold gNe at e;split at e
 ·rename_i b hb
  obtain⟨h1,h2⟩:=bQh ix iy hb;have e':=aCw e;subst e';exact⟨h1,by rw[h2];exact q _ H (Same.refl H) (.bl _)⟩
 ·exact nomatch e
theorem bL7 {K:PySem.W.Frag}{H:Hp}{dx:D}{x:V}(ix:Is K H dx x):decide (x=V.non)=bDw dx:=by
 cases ix<;>simp[bDw]
theorem bTk:aTo X (fun x y H Q=>y= .non/\Q (.bl (decide (x= .non))) H) gIs:=by
 intro H x y dx dy d Q ix iy e q;cases iy<;>first |(cases e;done) | skip
 have e':=aCw e;subst e';exact⟨rfl,by rw[bL7 ix];exact q _ H (Same.refl H) (.bl _)⟩
theorem bSi (ha:PD X B a fa)(hb:PD X B b fb):PD X B (.Compare a [.GtE] [b] pos) (b2 gGe fa fb):=aUf bSo bUs bU7 ha hb (aK4 _)
theorem bK9 (ha:PD X B a fa)(hb:PD X B b fb):PD X B (.Compare a [.Eq] [b] pos) (b2 gEq fa fb):=aUf bPb bTm n_eq ha hb (aK4 _)
theorem bSg (ha:PD X B a fa)(hb:PD X B b fb):PD X B (.Compare a [.Is] [b] pos) (b2 gIs fa fb):=aUf bI3 bTk bTv ha hb (aK4 _)
theorem bIy (ha:PD X B a fa)(hb:PD X B b fb):PDT X B (.Compare a [.Lt] [b] pos) (aA2 (b2 gLt fa fb)):=aKa bSm bUp bU4 ha hb (aK4 _)
theorem bIz (ha:PD X B a fa)(hb:PD X B b fb):PDT X B (.Compare a [.Gt] [b] pos) (aA2 (b2 gGt fa fb)):=aKa bSn bUr bU6 ha hb (aK4 _)
theorem aKw (ha:PD X B a fa)(hb:PD X B b fb):PDT X B (.Compare a [.Eq] [b] pos) (aA2 (b2 gEq fa fb)):=aKa bPb bTm n_eq ha hb (aK4 _)
theorem aQu (ha:PD X B a fa)(hb:PD X B b fb):PDT X B (.Compare a [.NotEq] [b] pos) (aA2 (b2 gNe fa fb)):=aKa bSl bUo bU3 ha hb (aK4 _)
theorem aQv (ha:PD X B a fa)(hb:PD X B b fb):PDT X B (.Compare a [.Is] [b] pos) (aA2 (b2 gIs fa fb)):=aKa bI3 bTk bTv ha hb (aK4 _)
def gIx:D->D->M D
 | .lst ds,.int i=>match atI ds i with | some d=>ok d | none=>none
 | .tup ds,.int i=>match atI ds i with | some d=>ok d | none=>none
 | .str z,.int i=>if z.length<=1000 then (match atI z.cps.toList i with | some c=>ok (.str ⟨#[c]⟩) | none=>none) else none
 | _,_=>none
theorem bU5:aJt gIx:=by intro x y c h;unfold gIx at h;(repeat' split at h)<;>cases h
theorem bFf {K:PySem.W.Frag}{H:Hp}{ds:List D}{vs:List V}{i:Int}{d:D}(r:IsL K H ds vs)(e:atI ds i=some d): ∃v,atI vs i=some v/\Is K H d v:=by
 unfold atI at e⊢;rw[r.length] at e;cases q:ixN vs.length i with
 | none=>rw[q] at e;exact nomatch e
 | some j=>rw[q] at e;exact r.get e
theorem bUq:aTo X (rIx X.K) gIx:=by
 intro H x y dx dy d Q ix iy e q;unfold gIx at e;split at e
 ·split at e
  ·rename_i d' hd
   cases ix with
   | lst h r=>
    cases iy;have e':=aCw e;subst e';obtain⟨v,h1,h2⟩:=bFf r hd;exact .inl ⟨_,_,_,v,rfl,rfl,h,h1,q _ H (Same.refl H) h2⟩
  ·cases e
 ·split at e
  ·rename_i d' hd
   cases ix with
   | tup h r=>
    cases iy;have e':=aCw e;subst e';obtain⟨v,h1,h2⟩:=bFf r hd;exact .inr (.inl ⟨_,_,_,v,rfl,rfl,h,h1,q _ H (Same.refl H) h2⟩)
  ·cases e
 ·split at e
  ·rename_i hz
   split at e
   ·rename_i c hc
    cases ix;cases iy;have e':=aCw e;subst e';exact .inr (.inr ⟨_,_,c,rfl,rfl,Nat.le_trans hz (by decide),hc,q _ H (Same.refl H) (.str _)⟩)
   ·cases e
  ·cases e
 ·cases e
theorem aFq (ha:PD X B a fa)(hb:PD X B b fb)(hs:bFp b):PD X B (.Subscript a b pos) (b2 gIx fa fb):=PE.of (bSc bP4 ha hb hs) fun _ _ _ h=>aZm bUq bU5 h
def aKc (f:Rho->M D):Rho->M (Option Int):=fun ρ=>bnd (f ρ) fun d=>match d with | .int i=>ok (some i) | _=>none
def aSm:Rho->M (Option Int):=fun _=>ok none
def tDO (X:Cx)(B:Hp)(f:Rho->M (Option Int)):TO:=fun σ H Q=> ∃ρ,Rel X.K B ρ σ H/\Res X σ H (fun o=> ∀H',Same H H'->Q o H') (f ρ)
theorem aR9:PO X none (tDO X B aSm):=fun pins s σ H Q I ⟨ρ,r,h⟩=>bKt pins s σ H Q I (h H (Same.refl H))
theorem aKy {e:Expr}(he:PD X B e fa):PO X (some e) (tDO X B (aKc fa)):=fun pins s σ H Q I ⟨ρ,r,h⟩=>by
 refine bKs he pins s σ H Q I ⟨ρ,r,(Res.bind h).imp fun d h1 v H1 e1 i1=> ?_⟩;cases i1<;>first | exact False.elim h1 | exact⟨_,rfl,h1 H1 e1⟩
def cutD (xs:List D)(lo hi:Option Int):List D:=(xs.drop (HT.sIx xs.length 0 lo)).take (HT.sIx xs.length xs.length hi-HT.sIx xs.length 0 lo)
def aFx (z:Str)(lo hi:Option Int):Str:=⟨((z.cps.toList.drop (HT.sIx z.length 0 lo)).take (HT.sIx z.length z.length hi-HT.sIx z.length 0 lo)).toArray⟩
theorem aVc {α:Type}(xs:List α){i j:Nat}(h:i=0)(h':j=xs.length):(xs.drop i).take (j-i)=xs:=by
 subst h h';rw[List.drop_zero,Nat.sub_zero,List.take_length]
section
variable {prog:Program}{w:World}{A:Around}{E:Value->Shared->Prop}{s:Shared}
theorem aKg {t sl:Addr}{items:Array Value}{vl vu:Value}{lo hi:Option Int}{Q:Value->Shared->Prop}(ht:IsTup s.heap t items)(hs:s.heap.IsSliceOf sl vl vu .none)(pl:IsPart vl lo)(pu:IsPart vu hi)
  (hw:HT.sIx items.size 0 lo=0/\HT.sIx items.size items.size hi=items.size) (h:Q (.ref t) s):wpAny (model prog w) A (getItem (.ref t) (.ref sl)) Q E s:=by
 obtain⟨os,hos,hcs,hds⟩:=id hs;have hTs:s.TypeIs (.ref sl) "slice":=⟨os,hos,hcs⟩;unfold getItem
 try with_reducible refine wpAny_holding ?_
 first | refine wpAny_bind (wpAny_pure ?_) | skip
 refine wpAny_bind (wpAny_sequenceKey ht.typeIs (by decide) ?_);refine wpAny_bind (wpAny_callSpecial?_slot (name:=Str.ofString "__getitem__") ht.typeIs PyProof.Rows.slot_tuple_getitem
  (wpAny_call_entry PyProof.Rows.slot_tuple_getitem ht.typeIs entry_tuple_getitem ?_ (args_tuple_getitem _ _)))
 show wpAny _ _ (Builtin.Tuple.tupleItemsOf (.ref t)>>=_) _ _ s;refine wpAny_bind (tupleItemsOf_ ht ?_);refine wpAny_bind (wpAny_typeOf hTs ?_);rw[if_pos (by decide)];refine wpAny_bind (HT.aIg hs pl pu ?_);show wpAny _ _ (if (((HT.sIx items.size 0 lo:Nat):Int)==0&&(1:Int)==1&&(HT.sIx items.size items.size hi-HT.sIx items.size 0 lo)==items.size)=true then _ else _) _ _ s;rw[if_pos (by rw[hw.1,hw.2];simp)];refine wpAny_bind (m:=Builtin.Tuple.tupleIsExact _) (wpAny_bind (m:=typeOf _) (wpAny_typeOf ht.typeIs (wpAny_pure ?_)));rw[if_pos (by decide)];exact wpAny_bind (wpAny_rule (wpAny_bind (wpAny_pure (wpAny_pure ⟨_,rfl,wpAny_pure h⟩))))
theorem aRu (z:Str)(l u:Option (Int×Tok)):slicePicked z l u none=(List.range (HT.sIx z.length z.length (u.map (·.1))-HT.sIx z.length 0 (l.map (·.1)))).map (HT.sIx z.length 0 (l.map (·.1))+ ·):=by
 have cl: ∀(i:Int) (d:Nat),max 0 (min (if i<0 then i+(z.length:Int) else i) (z.length:Int))=((HT.sIx z.length d (some i):Nat):Int):=by
  intro i d;show _=(((if i<0 then (i+(z.length:Int)).toNat else min i.toNat z.length):Nat):Int);by_cases hv:i<0
  ·simp only[if_pos hv];omega
  ·simp only[if_neg hv];omega
 have e:slicePicked z l u none=sliceRange ((HT.sIx z.length 0 (l.map (·.1)):Nat):Int) ((HT.sIx z.length z.length (u.map (·.1)):Nat):Int) 1:=by
  unfold slicePicked Builtin.Str.strSliceIndices;simp only[Option.map_none,Option.getD_none,show (1:Int)>0 by decide,if_true]
  congr 1
  ·cases l with
   | none=>rfl
   | some i=>exact cl i.1 0
  ·cases u with
   | none=>rfl
   | some i=>exact cl i.1 z.length
 rw[e,sliceRange_one]
end
section
variable {X:Cx}
def bUt (K:PySem.W.Frag):V->Option Int->Option Int->Hp->VK->Prop:=fun x lo hi H Q=> ∃a xs,x= .ref a/\SqT K H a xs/\(HT.sIx xs.length 0 lo=0/\HT.sIx xs.length xs.length hi=xs.length)/\Q (.ref a) H
theorem bKd:SlR X (bUt X.K):=by
 intro pins s σ H x v vl vu lo hi sl Q I rx hs pl pu h;obtain⟨a,xs,rfl,hx,hw,q⟩:=h;cases rx;obtain⟨its,r,ht,hz⟩:=I.tuple hx;have hlen:its.toArray.size=xs.length:=by rw[List.size_toArray];exact r.length.symm
 exact⟨"tuple",_,PyProof.Rows.slot_tuple_getitem.lookup,ht.typeIs,aKg ht hs pl pu (by rw[hlen];exact hw) ⟨.ref a,H,I,rfl,q⟩⟩
def bUv:V->Option Int->Option Int->Hp->VK->Prop:=fun x lo hi H Q=> ∃z,x= .str z/\z.length<=sizeLine/\Q (.str (aFx z lo hi)) H
theorem part_of {v:Value}{o:Option Int}(p:IsPart v o): ∃l:Option (Int×Tok),v=partValue l/\l.map (·.1)=o:=by
 cases p with
 | none=>exact⟨none,rfl,rfl⟩
 | int i t=>exact⟨some (i,t),rfl,rfl⟩
theorem bNv:SlR X bUv:=by
 intro pins s σ H x v vl vu lo hi sl Q I rx hs pl pu h;obtain⟨z,rfl,hz,q⟩:=h;obtain⟨t,rfl⟩:=rx;obtain⟨l,rfl,rfl⟩:=part_of pl;obtain⟨u,rfl,rfl⟩:=part_of pu;refine⟨"str",_,slot_str_getitem.lookup,typeIs_str s z t,?_⟩;refine wpAny_getItem_str_slice (l:=l) (u:=u) (st:=none) hs rfl ?_;have hp:=aRu z l u;have hj:HT.sIx z.length z.length (u.map (·.1))<=z.length:=HT.bB1 _ _ (Nat.le_refl _) _;have hi0:HT.sIx z.length 0 (l.map (·.1))<=z.length:=HT.bB1 _ 0 (Nat.zero_le _) _;have hc:z.cps.toList.length=z.length:=by simp[Str.length]
 unfold sliceMade;rw[hp];split
 ·rename_i hh
  simp only[Option.map_none,Option.getD_none,List.length_map,List.length_range,Bool.and_eq_true,beq_iff_eq] at hh;have e:aFx z (l.map (·.1)) (u.map (·.1))=z:=by
   unfold aFx;rw[aVc _ (by omega) (by omega)]
  exact⟨.str z,H,I,⟨t,rfl⟩,by rw[e] at q;exact q⟩
 ·rw[pick_run]
  refine⟨?_,⟨.str (aFx z (l.map (·.1)) (u.map (·.1))),H,I.tok _,⟨_,rfl⟩,q⟩⟩;show ((z.cps.toList.drop (HT.sIx z.length 0 (l.map (·.1)))).take _).toArray.size<=sizeLine;rw[List.size_toArray,List.length_take,List.length_drop,hc];omega
end
def bT2:D->Option Int->Option Int->M D
 | .lst ds,lo,hi=>ok (.lst (cutD ds lo hi))
 | .tup ds,lo,hi=>ok (.tup (cutD ds lo hi))
 | .str z,lo,hi=>if z.length<=1000 then ok (.str (aFx z lo hi)) else none
 | _,_,_=>none
def bBb (fa:Rho->M D)(fl fh:Rho->M (Option Int)):Rho->M D:=fun ρ=>bnd (fa ρ) fun x=>bnd (fl ρ) fun l=>bnd (fh ρ) fun h=>bT2 x l h
theorem bDx {K:PySem.W.Frag}{H:Hp}{ds:List D}{vs:List V}(r:IsL K H ds vs)(lo hi:Option Int):IsL K H (cutD ds lo hi) (bJu vs lo hi):=by
 unfold cutD bJu;rw[r.length];exact (r.drop _).take _
theorem aNg {e:Expr}{lo hi:Option Expr}{fl fh:Rho->M (Option Int)}{p2:Pos}(he:PD X B e fa)(hl:PO X lo (tDO X B fl))(hu:PO X hi (tDO X B fh)):PD X B (.Subscript e (.Slice lo hi none p2) pos) (bBb fa fl fh):=by
 refine PE.of (bGo (SlR.or bKe (SlR.or bNu (SlR.or bKd bNv))) he hl hu) fun σ H Q h=> ?_
 obtain⟨ρ,r1,h⟩:=h;refine⟨ρ,r1,(Res.bind h).imp fun d h1 v H1 e1 i1=>⟨ρ,r1.mono e1,(Res.bind h1).mono e1 fun l h2 H2 e2=>⟨ρ,(r1.mono e1).mono e2,(Res.bind h2).mono (e1.trans e2) fun u h3 H3 e3=> ?_⟩⟩⟩;have i3:=(i1.mono e2).mono e3;cases i3 with
 | lst hh r=>exact .inl ⟨_,_,rfl,hh,fun p hp=>h3 _ _ (((e1.trans e2).trans e3).trans (aA4 hp _)) (.lst (SqL.of aAy) ((bDx r l u).mono (aA4 hp _)))⟩
 | tup hh r=>
  rename_i a' ds' vs';have hlen:=r.length;by_cases hn:HT.sIx vs'.length 0 l=0/\HT.sIx vs'.length vs'.length u=vs'.length
  ·have e:cutD ds' l u=ds':=by
    unfold cutD;rw[hlen];exact aVc _ hn.1 (by rw[hn.2,hlen])
   refine .inr (.inr (.inl ⟨_,_,rfl,hh,hn,?_⟩));have h4:=h3 _ _ ((e1.trans e2).trans e3) (show Is X.K H3 (.tup (cutD ds' l u)) (.ref a') by rw[e];exact .tup hh r);exact h4
  ·exact .inr (.inl ⟨_,_,rfl,hh,hn,fun p hp=>h3 _ _ (((e1.trans e2).trans e3).trans (aA4 hp _)) (.tup (TQ.of aAy) ((bDx r l u).mono (aA4 hp _)))⟩)
 | str z=>
  dsimp only[bT2] at h3
  split at h3
  ·rename_i hz
   exact .inr (.inr (.inr ⟨_,rfl,Nat.le_trans hz (by decide),h3 _ _ ((e1.trans e2).trans e3) (.str _)⟩))
  ·exact False.elim h3
 | _=>exact False.elim h3
end
def tyN:D->Option String
 | .non=>some "NoneType"
 | .bl _=>some "bool"
 | .int _=>some "int"
 | .str _=>some "str"
 | .tup _=>some "tuple"
 | .lst _=>some "list"
 | .obj _ _=>none
 | .dk _=>some "dict"
 | .dt _=>some "dict"
 | .exc _=>none
 | .set _=>none
def isB (t T:String):Bool:=t==T ||(t=="bool"&&T=="int")
def bM8:List String:=["tuple","list","bool","str","int","dict"]
theorem bDh (K:PySem.W.Frag){d:D}{t T:String}(ht:tyN d=some t)(hT:T∈bM8):PySem.W.kitOne K (.type t) (.type T)=some (isB t T):=by
 unfold bM8 at hT;simp only[List.mem_cons,List.not_mem_nil,or_false] at hT;cases d<;>(have e:=ht;unfold tyN at e;first |(cases e;done) | skip)<;>(have e':=Option.some.inj e;subst e')<;>rcases hT with rfl | rfl | rfl | rfl | rfl | rfl<;>kernel_rfl
section
variable {X:Cx}{B:Hp}{pins:List (Addr×Obj)}{σ:St}{H:Hp}{s:Shared}
theorem bJc {d:D}{x:V}{u:Value}{t:String}(I:Inv X pins σ H s)(i:Is X.K H d x)(r:RelV x u)(ht:tyN d=some t):
  ∃HH:Heap->Prop,PySem.W.KitX X.K u (.type t) HH/\HH s.heap/\u≠ .builtin "__main__.__loader__#opaque":=by
 cases i with
 | non=>cases r;cases ht;exact⟨_,PySem.W.kitx_none,True.intro,fun z=>nomatch z⟩
 | bl b=>cases r;cases ht;exact⟨_,PySem.W.kitx_bool,True.intro,fun z=>nomatch z⟩
 | int b=>obtain⟨t,rfl⟩:=r;cases ht;exact⟨_,PySem.W.kitx_int,True.intro,fun z=>nomatch z⟩
 | str b=>obtain⟨t,rfl⟩:=r;cases ht;exact⟨_,PySem.W.kitx_str,True.intro,fun z=>nomatch z⟩
 | lst h rr=>
  cases r;cases ht;obtain⟨its,_,⟨o,n,e,hc,_,_⟩,_⟩:=I.list h;exact⟨_,PySem.W.kitx_list,⟨o,e,hc⟩,fun z=>nomatch z⟩
 | tup h rr=>
  cases r;cases ht;obtain⟨its,_,⟨o,e,hc,_,_⟩,_⟩:=I.tuple h.sq;exact⟨_,PySem.W.kitx_tuple,⟨o,e,hc⟩,fun z=>nomatch z⟩
 | obj h rr=>cases ht
 | dk h rr=>
  cases r;cases ht;obtain⟨_,_,vs,_,o,es,ep,e1,e2,_⟩:=(show aDb X.prog X.w H s.heap _ (.dK _) from I.hok _ _ h);exact⟨_,PySem.W.kitx_dict,⟨o,e1,e2.1⟩,fun z=>nomatch z⟩
 | dt h rr=>
  cases r;cases ht;obtain⟨_,_,vs,_,o,es,ep,e1,e2,_⟩:=(show aDb X.prog X.w H s.heap _ (.dT _) from I.hok _ _ h);exact⟨_,PySem.W.kitx_dict,⟨o,e1,e2.1⟩,fun z=>nomatch z⟩
 | exc h=>cases ht
 | set h=>cases ht
def bL0 (t:String):List String->Bool
 | []=>false
 | T::r=>if isB t T=true then true else bL0 t r
theorem aQ5 (K:PySem.W.Frag){d:D}{t:String}(ht:tyN d=some t): ∀{Ts:List String},(∀T∈Ts,T∈bM8)->PySem.W.kitAny K (.type t) (Ts.map Value.type)=some (bL0 t Ts)
 | [],_=>rfl
 | T::r,h=>by
  show (match PySem.W.kitOne K (.type t) (.type T) with | some true=>some true | some false=>PySem.W.kitAny K (.type t) (r.map Value.type) | none=>none)=_;rw[bDh K ht (h T (by simp))];unfold bL0;cases q:isB t T with
  | true=>rfl
  | false=>exact aQ5 K ht fun T' hT=>h T' (by simp[hT])
end
section
variable {X:Cx}{B:Hp}{e:Expr}{fa:Rho->M D}{pos p p2:Pos}
def isi (T:String)(f:Rho->M D):Rho->M D:=fun ρ=>bnd (f ρ) fun d=>match tyN d with | some t=>ok (.bl (isB t T)) | none=>none
def bL5 (Ts:List String)(f:Rho->M D):Rho->M D:=fun ρ=>bnd (f ρ) fun d=>match tyN d with | some t=>ok (.bl (bL0 t Ts)) | none=>none
theorem aIh {x:Str}{T:String}(hg:Gl X "isinstance")(hm:X.mg "isinstance"=none)(hg2:Gl X x)(hm2:X.mg x=none)(hv:bootBuiltins x=some (.type T))(hT:T∈bM8)(ha:PD X B e fa)(hn:x≠"__name__":=by decide)(hd:(x==("__debug__":Str))=false:=by decide)
  (he:starEach [e,.Name x p2] X.env=[(false,eval e X.env),(false,eval (.Name x p2) X.env)]:=by exact aZ1 rfl rfl) (he2:starEach [.Name x p2] X.env=[(false,eval (.Name x p2) X.env)]:=by exact aIl rfl):PD X B (.Call (.Name "isinstance" p) [e,.Name x p2] [] pos) (isi T fa):=by
 have hc:aJe X (.builtin "isinstance") (fun xs H Q=> ∃d y t,xs=[y,.ty T]/\Is X.K H d y/\tyN d=some t/\Q (.bl (isB t T)) H):=by
  intro pins s σ H xs us Q I r h;obtain⟨d,y,t,rfl,i,ht,q⟩:=h;obtain⟨u,w',rfl,r1,r2⟩:=vals2 r;cases r2;obtain⟨HH,k1,k2,k3⟩:=bJc I i r1 ht;exact PySem.W.kia_one k1 I.kIn k2 (bDh X.K ht hT) k3 fun tk=>⟨.bl _,H,I.tok _,rfl,q⟩
 refine PE.of (aEu hc hg hm boot_isinstance (aBq ha (aBq (aR6 hg2 hm2 hv (v:=V.ty T) rfl hn hd) aEi he2) (by rw[he,he2])) (he:=by rw[he,he2]) (hpl:=by rw[he2];rfl)) fun σ H Q h=> ?_
 obtain⟨ρ,r1,h⟩:=h;refine⟨ρ,r1,(Res.bind h).imp fun d h1 v H1 e1 i1=> ?_⟩;cases q:tyN d with
 | none=>rw[q] at h1;exact False.elim h1
 | some t=>rw[q] at h1;exact⟨d,v,t,rfl,i1,q,h1 _ H1 e1 (.bl _)⟩
theorem bK6 {x y:Str}{T U:String}{k:Nat}{p3 p4:Pos}(hg:Gl X "isinstance")(hm:X.mg "isinstance"=none)(hg2:Gl X x)(hm2:X.mg x=none)(hv:bootBuiltins x=some (.type T))(hT:T∈bM8)(hg3:Gl X y)(hm3:X.mg y=none)(hv3:bootBuiltins y=some (.type U))(hU:U∈bM8)(ha:PD X B e fa)
  (hn:x≠"__name__":=by decide) (hd:(x==("__debug__":Str))=false:=by decide) (hn2:y≠"__name__":=by decide) (hd2:(y==("__debug__":Str))=false:=by decide)
  (he:starEach [e,.Tuple [.Name x p2,.Name y p3] k p4] X.env=[(false,eval e X.env),(false,eval (.Tuple [.Name x p2,.Name y p3] k p4) X.env)]:=by exact aZ1 rfl rfl) (he2:starEach [.Tuple [.Name x p2,.Name y p3] k p4] X.env=[(false,eval (.Tuple [.Name x p2,.Name y p3] k p4) X.env)]:=by exact aIl rfl)
  (he3:starEach [.Name x p2,.Name y p3] X.env=[(false,eval (.Name x p2) X.env),(false,eval (.Name y p3) X.env)]:=by exact aZ1 rfl rfl) (he4:starEach [.Name y p3] X.env=[(false,eval (.Name y p3) X.env)]:=by exact aIl rfl):
  PD X B (.Call (.Name "isinstance" p) [e,.Tuple [.Name x p2,.Name y p3] k p4] [] pos) (bL5 [T,U] fa):=by
 have hc:aJe X (.builtin "isinstance") (fun xs H Q=> ∃d y a t,xs=[y,.ref a]/\Is X.K H d y/\H a=some (.tup [.ty T,.ty U])/\tyN d=some t/\Q (.bl (bL0 t [T,U])) H):=by
  intro pins s σ H xs us Q I r h;obtain⟨d,y,a,t,rfl,i,hh,ht,q⟩:=h;obtain⟨u,w',rfl,r1,r2⟩:=vals2 r;cases r2;obtain⟨HH,k1,k2,k3⟩:=bJc I i r1 ht;obtain⟨z,its,rv,ob,o1,o2,⟨n,o3⟩,o4⟩:=(show aDb X.prog X.w H s.heap a (.tup [.ty T,.ty U]) from I.hok a _ hh);obtain⟨w1,w2,rfl,q1,q2⟩:=vals2 rv;cases q1;cases q2;obtain⟨c0,d0,dt,sl⟩:=ob;simp only at o2 o3;subst o2;subst o3;exact PySem.W.kia_tup (its:=[Value.type T,Value.type U]) k1 I.kIn k2 o1 (aQ5 X.K ht (Ts:=[T,U]) (by intro z hz;rcases List.mem_cons.mp hz with rfl | hz;exact hT;rcases List.mem_singleton.mp hz with rfl;exact hU)) k3 fun tk=>⟨.bl _,H,I.tok _,rfl,q⟩
 refine PE.of (aEu hc hg hm boot_isinstance (aBq ha (aBq (bIv (aBq (aR6 hg2 hm2 hv (v:=V.ty T) rfl hn hd) (aBq (aR6 hg3 hm3 hv3 (v:=V.ty U) rfl hn2 hd2) aEi he4) (by rw[he3,he4]))) aEi he2) (by rw[he,he2])) (he:=by rw[he,he2]) (hpl:=by rw[he2];rfl)) fun σ H Q h=> ?_
 obtain⟨ρ,r1,h⟩:=h;refine⟨ρ,r1,(Res.bind h).imp fun d h1 v H1 e1 i1=> ?_⟩;refine⟨by show 2<=sizeLine;decide,fun a ha'=> ?_⟩;cases q:tyN d with
 | none=>rw[q] at h1;exact False.elim h1
 | some t=>rw[q] at h1;exact⟨d,v,a,t,rfl,i1.mono (aA4 ha' _),aAy,q,h1 _ _ (e1.trans (aA4 ha' _)) (.bl _)⟩
def aF7:D->M D
 | .tup ds=>ok (.int ds.length)
 | .lst ds=>ok (.int ds.length)
 | _=>none
def f1 (g:D->M D)(f:Rho->M D):Rho->M D:=fun ρ=>bnd (f ρ) g
theorem aJv (hg:Gl X "len")(hm:X.mg "len"=none)(ha:PD X B e fa)(he:starEach [e] X.env=[(false,eval e X.env)]:=by exact aIl rfl):PD X B (.Call (.Name "len" p) [e] [] pos) (f1 aF7 fa):=by
 refine PE.of (aEu aVj hg hm PySem.boot_len (aBq ha aEi he) (he:=by rw[he];rfl) (hpl:=by rfl)) fun σ H Q h=> ?_
 obtain⟨ρ,r1,h⟩:=h;refine⟨ρ,r1,(Res.bind h).imp fun d h1 v H1 e1 i1=> ?_⟩;cases i1 with
 | lst hh r=>exact⟨_,_,rfl,.inl hh,by rw[<-r.length];exact h1 _ H1 e1 (.int _)⟩
 | tup hh r=>exact⟨_,_,rfl,.inr hh,by rw[<-r.length];exact h1 _ H1 e1 (.int _)⟩
 | _=>exact False.elim h1
def bT1:D->D->M D
 | .int i,.int j=>ok (.int (if j<i then j else i))
 | _,_=>none
theorem bK3 {a b:Expr}{fb:Rho->M D}(hcm:X.calm=true)(hg:Gl X "min")(hm:X.mg "min"=none)(ha:PD X B a fa)(hb:PD X B b fb)(he:starEach [a,b] X.env=[(false,eval a X.env),(false,eval b X.env)]:=by exact aZ1 rfl rfl)(he2:starEach [b] X.env=[(false,eval b X.env)]:=by exact aIl rfl):
  PD X B (.Call (.Name "min" p) [a,b] [] pos) (b2 bT1 fa fb):=by
 refine PE.of (aEu (bE0 hcm) hg hm boot_min (aBq ha (aBq hb aEi he2) (by rw[he,he2])) (he:=by rw[he,he2]) (hpl:=by rw[he2];rfl)) fun σ H Q h=> ?_
 obtain⟨ρ,r1,h⟩:=h;refine⟨ρ,r1,(Res.bind h).imp fun d h1 v H1 e1 i1=>⟨ρ,r1.mono e1,(Res.bind h1).mono e1 fun d2 h2 v2 H2 e2 i2=> ?_⟩⟩;cases i1<;>first | exact False.elim h2 | skip
 cases i2<;>first | exact False.elim h2 | skip
 exact⟨_,_,rfl,h2 _ H2 (e1.trans e2) (.int _)⟩
end
inductive Out where
 | nx (ρ:Rho) | rt (d:D) | bk (ρ:Rho) | ct (ρ:Rho) | ex (c:Addr) (ρ:Rho)
def Good (X:Cx)(B:Hp)(E:Ends):Out->Prop
 | .nx ρ=> ∀σ H,Rel X.K B ρ σ H->E.nx σ H
 | .rt d=> ∀v H,Same B H->Is X.K H d v->E.rt v H
 | .bk ρ=> ∀σ H,Rel X.K B ρ σ H->E.bk σ H
 | .ct ρ=> ∀σ H,Rel X.K B ρ σ H->E.ct σ H
 | .ex c ρ=> ∀(pins:List (Addr×Obj)) (s:Shared) (σ:St) (H:Hp) (e:Value),Rel X.K B ρ σ H->Exc X pins σ H c e s->X.xe e s
def aM8 (X:Cx)(B:Hp)(E:Ends):Option Out->Prop
 | none=>False
 | some o=>Good X B E o
def tDS (X:Cx)(B:Hp)(F:Rho->Option Out):TS:=fun E σ H=> ∃ρ,Rel X.K B ρ σ H/\aM8 X B E (F ρ)
abbrev PDS (X:Cx)(B:Hp)(st:Stmt)(F:Rho->Option Out):Prop:=PS X st (tDS X B F)
abbrev PDB (X:Cx)(B:Hp)(st:List Stmt)(F:Rho->Option Out):Prop:=PSs X st (tDS X B F)
def lft {α:Type}(m:M α)(ρ:Rho)(k:α->Option Out):Option Out:=match m with
 | none=>none
 | some (.error c)=>some (.ex c ρ)
 | some (.ok a)=>k a
@[simp] theorem aHi {α:Type} (a:α) (ρ:Rho) (k:α->Option Out):lft (ok a) ρ k=k a:=rfl
@[simp] theorem bSw {α:Type} (c:Addr) (ρ:Rho) (k:α->Option Out):lft (err c:M α) ρ k=some (.ex c ρ):=rfl
theorem aCe {α:Type}{X:Cx}{B:Hp}{E:Ends}{σ:St}{H:Hp}{ρ:Rho}{m:M α}{k:α->Option Out}(r:Rel X.K B ρ σ H)(h:aM8 X B E (lft m ρ k)):Res X σ H (fun a=>aM8 X B E (k a)) m:=by
 unfold lft at h;split at h
 ·exact h
 ·exact fun pins s H' e q x=>h pins s σ H' e (r.mono q) x
 ·exact h
section
variable {X:Cx}{B:Hp}{e c:Expr}{fa:Rho->M D}{tc:Rho->M Bool}{pos pos':Pos}{st:Stmt}{sts rest:List Stmt}{F G:Rho->Option Out}
theorem PS.of {t t':TS}(h:PS X st t)(i: ∀E σ H,t' E σ H->t E σ H):PS X st t':=fun pins s σ H E I q=>h pins s σ H E I (i E σ H q)
theorem PSs.of {t t':TS}(h:PSs X sts t)(i: ∀E σ H,t' E σ H->t E σ H):PSs X sts t':=fun pins s σ H E I q=>h pins s σ H E I (i E σ H q)
def aAp:Rho->Option Out:=fun ρ=>some (.nx ρ)
def aAi (F G:Rho->Option Out):Rho->Option Out:=fun ρ=>match F ρ with
 | some (.nx ρ')=>G ρ'
 | o=>o
theorem aAh:PDB X B [] aAp:=PSs.of bKq fun E σ H ⟨ρ,r,h⟩=>h σ H r
theorem aAa (h1:PDS X B st F)(h2:PDB X B rest G):PDB X B (st::rest) (aAi F G):=by
 refine PSs.of (bGl h1 h2) fun E σ H h=> ?_
 obtain⟨ρ,r,h⟩:=h;refine⟨ρ,r,?_⟩;unfold aAi at h;cases q:F ρ with
 | none=>rw[q] at h;exact h
 | some o=>
  rw[q] at h;cases o with
  | nx ρ'=>exact fun σ' H' r'=>⟨ρ',r',h⟩
  | rt d=>exact h
  | bk ρ'=>exact h
  | ct ρ'=>exact h
  | ex c ρ'=>exact h
def aB7 (f:Rho->M D):Rho->Option Out:=fun ρ=>lft (f ρ) ρ fun d=>some (.rt d)
theorem aAr (he:PD X B e fa):PDS X B (.Return (some e) pos) (aB7 fa):=by
 refine PS.of (bOi he) fun E σ H h=> ?_
 obtain⟨ρ,r,h⟩:=h;exact⟨ρ,r,(aCe r h).imp fun d h1 v H1 e1 i1=>h1 v H1 (r.kept.trans e1) i1⟩
def aP8 (f:Rho->M D):Rho->Option Out:=fun ρ=>lft (f ρ) ρ fun _=>some (.nx ρ)
theorem aYj (he:PD X B e fa)(hs:swapsWith e none pos.line X.env=pure false:=by rfl):PDS X B (.Expr e pos) (aP8 fa):=by
 refine PS.of (aR5 he hs) fun E σ H h=> ?_
 obtain⟨ρ,r,h⟩:=h;exact⟨ρ,r,(aCe r h).imp fun d h1 v H1 e1 i1=>h1 σ H1 (r.mono e1)⟩
def sIf (t:Rho->M Bool)(F G:Rho->Option Out):Rho->Option Out:=fun ρ=>lft (t ρ) ρ fun k=>if k=true then F ρ else G ρ
theorem aCa {a b:List Stmt}(hc:PDT X B c tc)(ha:PDB X B a F)(hb:PDB X B b G):PDS X B (.If c a b pos) (sIf tc F G):=by
 refine PS.of (bR7 hc ha hb) fun E σ H h=> ?_
 obtain⟨ρ,r,h⟩:=h;refine⟨ρ,r,(aCe r h).imp fun k h1 H1 e1=> ?_⟩;cases k with
 | true=>exact⟨ρ,r.mono e1,h1⟩
 | false=>exact⟨ρ,r.mono e1,h1⟩
def SV.rel:SV->SV
 | .sh d=> .sh d
 | .own ds=> .sh (.lst ds)
 | .oin a C dx fs=> .sh (.obj C fs)
 | .ow o=> .sh o.d
 | .tk ks=> .sh (.tup (ks.map kD))
def free (ρ:Rho):Rho:=ρ.map fun o=>o.map SV.rel
def aLk (i:Nat)(d:D)(ρ:Rho):Rho:=if d.imm=true then ρ.set i (some (.sh d)) else (free ρ).set i (some (.sh d))
theorem Rel.bBs {K:PySem.W.Frag}{H₀ H:Hp}{ρ:Rho}{σ:St}{i:Nat}{d:D}{v:V}(O:Nat->Option Addr)(h1: ∀i j a,O i=some a->O j=some a->i=j)(ho:aRh H O)(h2:Same H₀ (Off H O))(hl:ρ.length=σ.length)(h3: ∀j sv,ρ[j]? =some (some sv)->j≠i->Slot K H O σ j sv)
  (iv:Is K (Off H O) d v):Rel K H₀ (ρ.set i (some (.sh d))) (σ.set i (some v)) H:=by
 have hO: ∀(j:Nat) (a:Addr),(if j=i then none else O j)=some a->O j=some a:=fun j a q=>by
  split at q
  ·cases q
  ·exact q
 have less:Same (Off H O) (Off H fun j=>if j=i then none else O j):=Off.less fun j a q=>⟨j,hO j a q⟩
 refine⟨fun j=>if j=i then none else O j,fun j k a q1 q2=>h1 j k a (hO j a q1) (hO k a q2),fun j a q=>ho j a (hO j a q),h2.trans less,by rw[List.length_set,List.length_set,hl],fun j sv q=> ?_⟩;by_cases e:j=i
 ·subst e
  have hj:j<ρ.length:=by
   have:=(List.getElem?_eq_some_iff.mp q).1
   rwa [List.length_set] at this
  rw[List.getElem?_set_self hj] at q;have q':=Option.some.inj (Option.some.inj q);subst q';exact⟨v,List.getElem?_set_self (by rw[<-hl];exact hj),iv.mono less⟩
 ·rw[List.getElem?_set_ne (Ne.symm e)] at q
  have z:=h3 j sv q e;cases sv with
  | sh d'=>obtain⟨v',e1,e2⟩:=z;exact⟨v',by rw[List.getElem?_set_ne (Ne.symm e)];exact e1,e2.mono less⟩
  | own ds=>obtain⟨a,vs,e1,e2,e3,e4⟩:=z;exact⟨a,vs,by show (if j=i then none else O j)=some a;rw[if_neg e];exact e1,by rw[List.getElem?_set_ne (Ne.symm e)];exact e2,e3,e4.mono less⟩
  | oin a C dx fs=>obtain⟨e1,e2,e3,vs,e4,e5⟩:=z;exact⟨by show (if j=i then none else O j)=some a;rw[if_neg e];exact e1,by rw[List.getElem?_set_ne (Ne.symm e)];exact e2,e3,vs,e4,e5.mono less⟩
  | ow o=>obtain⟨a,w,e1,e2,e3,e4⟩:=z;exact⟨a,w,by show (if j=i then none else O j)=some a;rw[if_neg e];exact e1,by rw[List.getElem?_set_ne (Ne.symm e)];exact e2,e3,e4.mono less⟩
  | tk ks=>obtain⟨a,e1,e2⟩:=z;exact⟨a,by rw[List.getElem?_set_ne (Ne.symm e)];exact e1,less _ _ e2⟩
theorem Rel.freed {K:PySem.W.Frag}{H₀ H:Hp}{ρ:Rho}{σ:St}(r:Rel K H₀ ρ σ H):Rel K H₀ (free ρ) σ H:=by
 obtain⟨O,h1,ho,h2,hl,h3⟩:=id r;have e0:Off H (fun _=>none)=H:=by funext b;unfold Off;rw[if_neg (fun⟨i,e⟩=>nomatch e)]
 refine⟨fun _=>none,(by intro _ _ _ q;cases q),(by intro _ _ q;cases q),by rw[e0];exact r.kept,by unfold free;rw[List.length_map,hl],fun i sv q=> ?_⟩;unfold free at q;rw[List.getElem?_map] at q;obtain⟨o,e1,e2⟩:=Option.map_eq_some_iff.mp q;cases o with
 | none=>cases e2
 | some sv0=>
  have e2':sv0.rel=sv:=Option.some.inj e2;subst e2';obtain⟨v,e3,e4⟩:=r.get e1;have:sv0.rel= .sh sv0.cur:=by cases sv0<;>rfl
  rw[this];exact⟨v,e3,by rw[e0];exact e4⟩
theorem Rel.aLk {K:PySem.W.Frag}{H₀ H:Hp}{ρ:Rho}{σ:St}{i:Nat}{d:D}{v:V}(r:Rel K H₀ ρ σ H)(iv:Is K H d v):Rel K H₀ (aLk i d ρ) (σ.set i (some v)) H:=by
 unfold PU.aLk;by_cases q:d.imm=true
 ·rw[if_pos q]
  obtain⟨O,h1,ho,h2,hl,h3⟩:=r;exact Rel.bBs O h1 ho h2 hl (fun j sv e _=>h3 j sv e) (aKb ho q iv)
 ·rw[if_neg q]
  obtain⟨O,h1,ho,h2,hl,h3⟩:=r.freed;have e0:Off H (fun _=>none)=H:=by funext b;unfold Off;rw[if_neg (fun⟨i,e⟩=>nomatch e)]
  have s0:Same (Off H O) (Off H fun _=>none):=Off.less (by intro j a q;cases q);refine Rel.bBs (fun _=>none) (by intro _ _ _ q;cases q) (by intro _ _ q;cases q) (h2.trans s0) hl (fun j sv e _=> ?_) (by rw[e0];exact iv);unfold free at e;rw[List.getElem?_map] at e;obtain⟨o,e1,e2⟩:=Option.map_eq_some_iff.mp e;cases o with
  | none=>cases e2
  | some sv0=>
   have e2':sv0.rel=sv:=Option.some.inj e2;subst e2';have z:=h3 j sv0.rel (by unfold free;rw[List.getElem?_map,e1];rfl);have:sv0.rel= .sh sv0.cur:=by cases sv0<;>rfl
   rw[this] at z⊢;obtain⟨v',f1,f2⟩:=z;exact⟨v',f1,f2.mono s0⟩
def aDy (i:Nat)(f:Rho->M D):Rho->Option Out:=fun ρ=>lft (f ρ) ρ fun d=>some (.nx (aLk i d ρ))
theorem aA9 {i:Nat}{x:Str}(hN:X.N.Nodup)(hi:X.N[i]? =some x)(hx:Loc X.env.scope x)(he:PD X B e fa)(hs:swapsWith e (some (.Name x pos')) pos.line X.env=pure false:=by rfl)(hf:X.fn x=true\/X.env.scope.names.lookup x=some .local:=by first | exact .inl rfl | exact .inr rfl | assumption):
  PDS X B (.Assign [.Name x pos'] e pos) (aDy i fa):=by
 refine PS.of (aQs hN hi hx he hs hf) fun E σ H h=> ?_
 obtain⟨ρ,r,h⟩:=h;exact⟨ρ,r,(aCe r h).imp fun d h1 v H1 e1 i1=>h1 _ H1 ((r.mono e1).aLk i1)⟩
end
def spR (K:PySem.W.Frag)(H:Hp)(Q:VK)(E:XK):M D->Prop
 | none=>False
 | some (.error c)=> ∀H',Same H H'->E (.ref c) none H'
 | some (.ok d)=> ∀v H',Same H H'->Is K H' d v->Q v H'
def spD (K:PySem.W.Frag)(n:Nat)(F:List D->M D):Sp:=fun vs H Q E=> ∃ds,IsL K H ds vs/\vs.length=n/\spR K H Q E (F ds)
def CXD (P:Program)(w:World):CXT:=fun outer H s E e s'=> ∃(c ea:Addr) (H':Hp),e= .ref ea/\s'.os=s.os/\AllBare s'.gens/\Un (frs outer) [] H H' s.heap s'.heap/\Fly P w outer s ea c H' s'/\E (.ref c) none H'
abbrev FnD (P:Program)(w:World)(K:PySem.W.Frag)(mg:Str->Option Value)(base:Heap)(k:Nat)(f:Addr)(fd:FuncData)(ps:List Str)(F:List D->M D):Prop:=bFt P w K mg base (CXD P w) k f fd ps (spD K ps.length F)
def Def (P:Program)(w:World)(K:PySem.W.Frag)(mg:Str->Option Value)(base:Heap)(k:Nat)(x:Str)(F:List D->M D):Prop:=
 ∃f fd ps,mg x=some (.ref f)/\PySem.W.keepIn K (.ref f)=true/\Binds K fd ps []/\(∀ds r,F ds=some r->ds.length=ps.length)/\FnD P w K mg base k f fd ps F
def Mth (P:Program)(w:World)(K:PySem.W.Frag)(mg:Str->Option Value)(base:Heap)(k:Nat)(C:Addr)(m:Str)(F:List D->M D):Prop:=
 ∃f fd ps,Cls K C/\Meth K C m f/\Binds K fd ps []/\(∀ds r,F ds=some r->ds.length=ps.length)/\FnD P w K mg base k f fd ps F
section
variable {X:Cx}{B:Hp}{k:Nat}{f:Addr}{fd:FuncData}{ps:List Str}{F:List D->M D}{pins:List (Addr×Obj)}{σ:St}{H:Hp}{s:Shared}{Q:VK}{us:List Value}{vs:List V}{ds:List D}
theorem bNz (G:FnD X.prog X.w X.K X.mg X.base k f fd ps F)(hr:aDm k X.A)(hb:Binds X.K fd ps [])(I:Inv X pins σ H s)(r:Vals vs us)(i:IsL X.K H ds vs)
  (h:Res X σ H (fun d=> ∀v H',Same H H'->Is X.K H' d v->Q v H') (F ds)) (hL: ∀ds r,F ds=some r->ds.length=ps.length):wpAny (model X.prog X.w) X.A (call (.ref f) us) (EP X pins σ Q) X.xe s:=by
 have hn:ds.length=ps.length:=by
  cases q:F ds with
  | none=>rw[q] at h;exact False.elim h
  | some z=>exact hL ds z q
 have hl:(us++ []).length=ps.length:=by rw[List.append_nil,<-r.length,<-i.length];exact hn
 have hbb:=hb s us I.kIn hl;rw[List.append_nil] at hbb;have hsp:spD X.K ps.length F vs H Q (fun cv _ H'=> ∃c,cv= .ref c/\Same H H'/\Thr X σ H c):=by
  refine⟨ds,i,by rw[<-i.length];exact hn,?_⟩;cases q:F ds with
  | none=>rw[q] at h;exact False.elim h
  | some z=>
   rw[q] at h;cases z with
   | error c=>exact fun H' e=>⟨c,rfl,e,h⟩
   | ok d=>exact h
 refine wpAny_call (codeAny_mono (G.run X.A X.stack s H ⟨us,[]⟩ us vs Q _ hr I.env0 hbb r hsp) fun r s' hq=> ?_);cases r with
 | error e=>
  obtain⟨c,ea,H',ee,os,bare,un,fl,c',ec,sm',th⟩:=hq;cases ec;exact th pins s' H' e sm' ⟨ea,ee,.inr ⟨s,H,I,os,bare,un,fl⟩⟩
 | ok fl=>
  cases fl with
  | ret u=>exact I.after hq
  | next=>exact False.elim hq
  | brk=>exact False.elim hq
  | cont=>exact False.elim hq
variable {x m:Str}{p pos apos:Pos}{e o:Expr}{es:List Expr}{ga:Rho->M (List D)}{fo:Rho->M D}{C:Addr}
def app (F:List D->M D)(g:Rho->M (List D)):Rho->M D:=fun ρ=>bnd (g ρ) F
theorem bFh {R:List V->Hp->Prop}(hR: ∀ds vs H1,Same H H1->IsL X.K H1 ds vs->Res X σ H1 (fun d=> ∀v H',Same H1 H'->Is X.K H' d v->Q v H') (F ds)->R vs H1)(h:tD X B (app F ga) σ H Q):tDA X B ga σ H R:=by
 obtain⟨ρ,r,h⟩:=h;exact⟨ρ,r,(Res.bind h).imp fun ds h1 vs H1 e1 i1=>hR ds vs H1 e1 i1 (h1.mono e1 fun d q v H2 e2 i2=>q v H2 (e1.trans e2) i2)⟩
theorem aAx (G:Def X.prog X.w X.K X.mg X.base k x F)(hr:aDm k X.A)(hg:Gl X x)(ha:PDA X B (e::es) ga)(hdb:(x==("__debug__":Str))=false:=by decide)(he:starEach (e::es) X.env=(false,eval e X.env)::starEach es X.env:=by exact aA5 rfl)
  (hpl:(backTo pos (starEach es X.env)).any (·.1)=false:=by rfl):PD X B (.Call (.Name x p) (e::es) [] pos) (app F ga):=by
 intro pins s σ H Q I h;obtain⟨f,fd,ps,h1,h2,h3,hl,h4⟩:=G;refine wpAny_Call_Name_kw (aLz I hg h1 ?_ hdb);refine PySem.W.callWith_K (h₀:=X.base) I.ok.mod.kin h2 (thn (ha pos pins s σ H _ I (bFh (R:=fun vs H1=> ∃ds,IsL X.K H1 ds vs/\Res X σ H1 (fun d=> ∀v H',Same H1 H'->Is X.K H' d v->Q v H') (F ds)) (fun ds vs H1 e1 i1 h1=>⟨ds,i1,h1⟩) h)) fun us s1 ⟨vs,H1,I1,r,ds,i1,q⟩=>⟨I1.kIn,?_⟩) he hpl;exact bNz h4 hr h3 I1 r i1 q hl
def aTn (m:Str)(FM:Addr->Option (List D->M D))(fo:Rho->M D)(g:Rho->M (List D)):Rho->M D:=fun ρ=>bnd (fo ρ) fun x=>match x with
 | .obj C fs=>match FM C,fs.lookup m with
  | some F,none=>bnd (g ρ) fun ds=>F (x::ds)
  | _,_=>none
 | _=>none
theorem aOa {pl:Sem Bool}{FM:Addr->Option (List D->M D)}(G: ∀C F,FM C=some F->Mth X.prog X.w X.K X.mg X.base k C m F)(hr:aDm k X.A)(he:PD X B o fo)(ha:PDA X B (e::es) ga)
  (hst:starEach (e::es) X.env=(false,eval e X.env)::starEach es X.env:=by exact aA5 rfl) (hpl:(backTo pos (starEach es X.env)).any (·.1)=false:=by rfl)
  (ht:eval (.Call (.Attribute o m apos) (e::es) [] pos) X.env=(do
   let ov<-eval o X.env
   standAt apos.atName
   let (f,first)<-holding [ov] (getMethod ov m pl)
   callWith pos f first (backTo pos (starEach (e::es) X.env)) (backToKw pos (keywordEach [] X.env))):=by rfl):
  PD X B (.Call (.Attribute o m apos) (e::es) [] pos) (aTn m FM fo ga):=by
 intro pins s σ H Q I h;obtain⟨ρ,r,h⟩:=h;refine PySem.W.methodCall_KW (pl:=pl) (thn (he pins s σ H (fun v H1=> ∃a C dx fs vs F,v= .ref a/\H1 a=some (.ins C dx vs)/\IsF X.K H1 fs vs/\fs.lookup m=none/\FM C=some F/\Same H H1/\Res X σ H (fun ds=>Res X σ H (fun d=> ∀v H',Same H H'->Is X.K H' d v->Q v H') (F (.obj C fs::ds))) (ga ρ)) I ⟨ρ,r,(Res.bind h).imp fun d h1 v H1 e1 i1=> ?_⟩) fun u s1 hP=> ?_) ht
 ·cases i1 with
  | obj hh rr=>
   dsimp only at h1
   split at h1
   ·rename_i F hF hl;exact⟨_,_,_,_,_,F,rfl,hh,rr,hl,hF,e1,Res.bind h1⟩
   ·exact False.elim h1
  | _=>exact False.elim h1
 obtain⟨x,H1,I1,rx,a,C,dx,fs,vs,F,ex,ea,ifs,l,hF,e1,q⟩:=hP;subst ex;obtain rfl:u=Value.ref a:=rx;obtain⟨f,fd,ps,h1,h2,h3,hl,h4⟩:=G C F hF;refine bAw I1 ea h1 h2 (ifs.bAo l) ?_;have q':tDA X B ga σ H1 (fun vs' H2=> ∃ds,Same H1 H2/\IsL X.K H2 ds vs'/\Res X σ H (fun d=> ∀v H',Same H H'->Is X.K H' d v->Q v H') (F (.obj C fs::ds))):=
  ⟨ρ,r.mono e1,Res.mono e1 q fun ds q1 vs' H2 e2 i2=>⟨ds,e2,i2,q1⟩⟩
 refine PySem.W.callWith_K (first:=[.ref a]) (h₀:=X.base) I.ok.mod.kin h2.kp (thn (ha pos pins s1 σ H1 _ I1 q') fun us s2 ⟨vs',H2,I2,r2,ds,e2,i2,q2⟩=>⟨I2.kIn,?_⟩) hst hpl;exact bNz (us:= .ref a::us) (vs:= .ref a::vs') (ds:= .obj C fs::ds) h4 hr h3 I2 (.cons rfl r2) (.cons (.obj (e2 _ _ ea) (ifs.mono e2)) i2) (q2.mono (e1.trans e2) fun d z v H' e' i'=>z v H' ((e1.trans e2).trans e') i') hl
def fld (cs:Addr->Bool)(f:Str)(fo:Rho->M D):Rho->M D:=fun ρ=>bnd (fo ρ) fun x=>match x with
 | .obj C fs=>if cs C=true then (match fs.lookup f with | some d=>ok d | none=>none) else none
 | _=>none
theorem aQ0 {cs:Addr->Bool}{f:Str}(hC: ∀C,cs C=true->Cls X.K C/\aGm X.K C f)(he:PD X B o fo)(hb:attributeBase o f X.env (eval o X.env)=eval o X.env:=by rfl):PD X B (.Attribute o f pos) (fld cs f fo):=by
 refine PE.of (bOv he hb) fun σ H Q h=> ?_
 obtain⟨ρ,r,h⟩:=h;refine⟨ρ,r,(Res.bind h).imp fun d h1 v H1 e1 i1=> ?_⟩;cases i1 with
 | obj hh rr=>
  rename_i a C dx fs vs
  dsimp only at h1
  split at h1
  ·rename_i hc
   split at h1
   ·rename_i d hl
    obtain⟨v,q1,q2⟩:=rr.lookup hl;exact⟨a,C,dx,vs,v,rfl,hh,(hC C hc).1,(hC C hc).2,q1,h1 v H1 e1 q2⟩
   ·exact False.elim h1
  ·exact False.elim h1
 | _=>exact False.elim h1
def hid (H:Hp)(a:Addr):Hp:=fun b=>if b=a then none else H b
def spI (K:PySem.W.Frag)(C:Addr)(n:Nat)(F:List D->M (List (Str×D))):Sp:=fun vs H Q E=> ∃a dx ws ds,vs= .ref a::ws/\H a=some (.ins C dx [])/\dx≠a/\IsL K (hid H a) ds ws/\vs.length=n/\(match F ds with
 | none=>False
 | some (.error c)=> ∀H',Same (hid H a) H'->E (.ref c) none H'
 | some (.ok fs)=> ∀H' fvs,H' a=some (.ins C dx fvs)->IsF K H' fs fvs->Same (hid H a) H'->Q .non H')
def Ctor (P:Program)(w:World)(K:PySem.W.Frag)(mg:Str->Option Value)(base:Heap)(k:Nat)(x:Str)(C:Addr)(F:List D->M (List (Str×D))):Prop:=
 ∃f fd ps,mg x=some (.ref C)/\Mk K C f/\Binds K fd ps []/\(∀ds r,F ds=some r->ds.length+1=ps.length)/\bFt P w K mg base (CXD P w) k f fd ps (spI K C ps.length F)
def mkO (C:Addr)(F:List D->M (List (Str×D)))(ds:List D):M D:=bnd (F ds) fun fs=>ok (.obj C fs)
theorem run_mk {ps:List Str}{F:List D->M (List (Str×D))}(Mm:Mk X.K C f)(G:bFt X.prog X.w X.K X.mg X.base (CXD X.prog X.w) k f fd ps (spI X.K C ps.length F))(hr:aDm (k+1) X.A)(hb:Binds X.K fd ps [])(I:Inv X pins σ H s)(r:Vals vs us)(i:IsL X.K H ds vs)
  (h:Res X σ H (fun d=> ∀v H',Same H H'->Is X.K H' d v->Q v H') (mkO C F ds)) (hL: ∀ds r,F ds=some r->ds.length+1=ps.length):wpAny (model X.prog X.w) X.A (call (.ref C) us) (EP X pins σ Q) X.xe s:=by
 have hF: ∃z,F ds=some z:=by
  cases q:F ds with
  | none=>unfold mkO at h;rw[q] at h;exact False.elim h
  | some z=>exact⟨z,rfl⟩
 obtain⟨z,hz⟩:=hF;have hn:=hL ds z hz;have hsp: ∀x dx,H x=none->H dx=none->dx≠x->spI X.K C ps.length F (.ref x::vs) (upd (upd H dx (.own x)) x (.ins C dx [])) (fun v H2=>v= .non/\Q (.ref x) H2) (fun cv _ H'=> ∃c,cv= .ref c/\Same H H'/\Thr X σ H c):=by
  intro x dx hx hdx ne;have sm:Same H (hid (upd (upd H dx (.own x)) x (.ins C dx [])) x):=fun b o q=>by
   have hb:b≠x:=aDv q hx;unfold hid;rw[if_neg hb,aA6 hb,aA6 (aDv q hdx)];exact q
  refine⟨x,dx,vs,ds,rfl,aAy,ne,i.mono sm,by rw[List.length_cons,<-i.length];exact hn,?_⟩;unfold mkO at h;rw[hz] at h⊢;cases z with
  | error c=>exact fun H' e=>⟨c,rfl,sm.trans e,h⟩
  | ok fs=>exact fun H' fvs e1 e2 e3=>⟨rfl,h _ H' (sm.trans e3) (.obj e1 e2)⟩
 have hq:=hsp (s.heap.objs.size+1) s.heap.objs.size (I.hok.fresh (Nat.le_succ _)) (I.hok.fresh (Nat.le_refl _)) (Nat.ne_of_lt (Nat.lt_succ_self _));have I2:=Inv.made (C:=C) I;have r2:Vals (V.ref (s.heap.objs.size+1)::vs) (Value.ref (s.heap.objs.size+1)::us):= .cons rfl r;have hl:((Value.ref (s.heap.objs.size+1)::us)++ []).length=ps.length:=by
  rw[List.append_nil,List.length_cons,<-r.length,<-i.length];exact hn
 have hbb:=hb {s with heap:=(s.heap.push PySem.W.emptyDict).push (PySem.W.instObj C s.heap.objs.size)} (Value.ref (s.heap.objs.size+1)::us) I2.kIn hl;rw[List.append_nil] at hbb;refine wpAny_call (bHl (f:=f) I.kIn Mm.makes Mm.init (beq_iff_eq.mp Mm.fn) (codeAny_mono (G.run _ X.stack _ _ ⟨Value.ref (s.heap.objs.size+1)::us,[]⟩ (Value.ref (s.heap.objs.size+1)::us) _ _ _ (hr.make C us [])
  (I2.env0.make C us []) hbb r2 hq) fun r s' hq'=> ?_))
 cases r with
 | error e=>
  obtain⟨c,ea,H',ee,os,bare,un,fl,c',ec,sm',th⟩:=hq';cases ec;exact th pins s' H' e sm' ⟨ea,ee,.inr ⟨_,_,I2,os,bare,un,fl⟩⟩
 | ok fl=>
  cases fl with
  | ret u=>
   obtain⟨v,H',I3,rv,ev,q3⟩:=I2.after hq';subst ev;exact⟨rv,⟨V.ref (s.heap.objs.size+1),H',I3,rfl,q3⟩⟩
  | next=>exact False.elim hq'
  | brk=>exact False.elim hq'
  | cont=>exact False.elim hq'
theorem bCr {F:List D->M (List (Str×D))}(G:Ctor X.prog X.w X.K X.mg X.base k x C F)(hr:aDm (k+1) X.A)(hg:Gl X x)(ha:PDA X B (e::es) ga)(hdb:(x==("__debug__":Str))=false:=by decide)(he:starEach (e::es) X.env=(false,eval e X.env)::starEach es X.env:=by exact aA5 rfl)
  (hpl:(backTo pos (starEach es X.env)).any (·.1)=false:=by rfl):PD X B (.Call (.Name x p) (e::es) [] pos) (app (mkO C F) ga):=by
 intro pins s σ H Q I h;obtain⟨f,fd,ps,h1,h2,h3,hl,h4⟩:=G;refine wpAny_Call_Name_kw (aLz I hg h1 ?_ hdb);refine PySem.W.callWith_K (h₀:=X.base) I.ok.mod.kin h2.kp (thn (ha pos pins s σ H _ I (bFh (R:=fun vs H1=> ∃ds,IsL X.K H1 ds vs/\Res X σ H1 (fun d=> ∀v H',Same H1 H'->Is X.K H' d v->Q v H') (mkO C F ds)) (fun ds vs H1 e1 i1 h1=>⟨ds,i1,h1⟩) h)) fun us s1 ⟨vs,H1,I1,r,ds,i1,q⟩=>⟨I1.kIn,?_⟩) he hpl;exact run_mk h2 h4 hr h3 I1 r i1 q hl
theorem aGw {F:List D->M (List (Str×D))}(G:Ctor X.prog X.w X.K X.mg X.base k x C F)(hr:aDm (k+1) X.A)(hg:Gl X x)(hdb:(x==("__debug__":Str))=false:=by decide):PD X B (.Call (.Name x p) [] [] pos) (fun _=>mkO C F []):=by
 intro pins s σ H Q I h;obtain⟨f,fd,ps,h1,h2,h3,hl,h4⟩:=G;obtain⟨ρ,r,h⟩:=h;refine wpAny_Call_Name_kw (aLz I hg h1 ?_ hdb);exact PySem.W.callWith_K0 I.kIn h2.kp (run_mk (us:=[]) (vs:=[]) (ds:=[]) h2 h4 hr h3 I .nil .nil h hl)
end
def tDG (X:Cx)(B:Hp)(G:D->Rho->Option Rho):TG:=fun v σ H Q=> ∃ρ d ρ',Rel X.K B ρ σ H/\Is X.K H d v/\G d ρ=some ρ'/\∀σ' H',Rel X.K B ρ' σ' H'->Q σ' H'
abbrev PDG (X:Cx)(B:Hp)(tg:Expr)(G:D->Rho->Option Rho):Prop:=PG X tg (tDG X B G)
section
variable {X:Cx}{B:Hp}{tg:Expr}{pos:Pos}{x:Str}
def gN (i:Nat):D->Rho->Option Rho:=fun d ρ=>some (aLk i d ρ)
theorem aE8 {i:Nat}(hN:X.N.Nodup)(hi:X.N[i]? =some x)(hx:Loc X.env.scope x)(hf:X.fn x=true\/X.env.scope.names.lookup x=some .local:=by first | exact .inl rfl | exact .inr rfl | assumption):PDG X B (.Name x pos) (gN i):=by
 intro pins s σ H v u Q I r h;obtain⟨ρ,d,ρ',r1,i1,e,q⟩:=h;cases e;exact aLs hN hi hx hf pins s σ H v u Q I r (q _ H (r1.aLk i1))
def gN2 (i j:Nat):D->Rho->Option Rho:=fun d ρ=>match d with
 | .tup [a,b]=>some (aLk j b (aLk i a ρ))
 | _=>none
theorem aNf {i j:Nat}{y:Str}{p1 p2:Pos}{k:Nat}(hc:X.calm=true)(hN:X.N.Nodup)(hi:X.N[i]? =some x)(hx:Loc X.env.scope x)(hj:X.N[j]? =some y)(hy:Loc X.env.scope y)
  (hf:X.fn x=true\/X.env.scope.names.lookup x=some .local:=by first | exact .inl rfl | exact .inr rfl | assumption) (hf2:X.fn y=true\/X.env.scope.names.lookup y=some .local:=by first | exact .inl rfl | exact .inr rfl | assumption):
  PDG X B (.Tuple [.Name x p1,.Name y p2] k pos) (gN2 i j):=by
 intro pins s σ H v u Q I r h;obtain⟨ρ,d,ρ',r1,i1,e,q⟩:=h;unfold gN2 at e;split at e
 ·rename_i a b
  cases e;cases i1 with
  | tup hh rr=>
   cases rr with
   | cons ia rr=>
    cases rr with
    | cons ib rr=>
     cases rr;refine bIu (n:=2) hc (aNd (aLs hN hi hx hf) (aNd (aLs hN hj hy hf2) bCk)) rfl rfl pins s σ H _ u Q I r ?_;refine⟨_,_,rfl,hh.sq,rfl,_,_,rfl,_,_,rfl,rfl,?_⟩;exact q _ H ((r1.aLk ia).aLk ib)
 ·cases e
end
def loop (G:D->Rho->Option Rho)(F:Rho->Option Out):List D->Rho->Option Out
 | [],ρ=>some (.nx ρ)
 | d::ds,ρ=>match G d ρ with
  | none=>none
  | some ρ1=>match F ρ1 with
   | some (.nx ρ2)=>loop G F ds ρ2
   | some (.ct ρ2)=>loop G F ds ρ2
   | some (.bk ρ2)=>some (.nx ρ2)
   | some (.rt d)=>some (.rt d)
   | some (.ex c ρ2)=>some (.ex c ρ2)
   | none=>none
structure ItD (K:PySem.W.Frag)(J:It)(ds:List D)(B:Hp):Prop where
 go: ∀j H,Same B H->j<ds.length->J.go j H
 yld: ∀j H x H',Same B H->J.yld j H x H'->j<ds.length->Same H H'/\∃d,ds[j]? =some d/\Is K H' d x
 stop: ∀j H,Same B H->ds.length<=j->J.stop j H
theorem aNi {K:PySem.W.Frag}{a:Addr}{ds:List D}{vs:List V}{B:Hp}(h:SqL K B a vs)(r:IsL K B ds vs):ItD K (Itl K a) ds B where
 go:=fun j H e q=>⟨vs,vs[j]'(by rw[<-r.length];exact q),e.seq h,by simp[show j<vs.length by rw[<-r.length];exact q]⟩
 yld:=fun j H x H' e y q=>by
  obtain⟨y1,y2⟩:=y;subst y1;obtain⟨d,h1,h2⟩:=r.bS5 (y2 vs (e.seq h));exact⟨Same.refl _,d,h1,h2.mono e⟩
 stop:=fun j H e q=>⟨vs,e.seq h,by rw[<-r.length];exact q⟩
theorem aSw {K:PySem.W.Frag}{a:Addr}{ds:List D}{vs:List V}{B:Hp}(h:SqT K B a vs)(r:IsL K B ds vs):ItD K (Itt K a) ds B where
 go:=fun j H e q=>⟨vs,vs[j]'(by rw[<-r.length];exact q),SqT.mono e h,by simp[show j<vs.length by rw[<-r.length];exact q]⟩
 yld:=fun j H x H' e y q=>by
  obtain⟨y1,y2⟩:=y;subst y1;obtain⟨d,h1,h2⟩:=r.bS5 (y2 vs (SqT.mono e h));exact⟨Same.refl _,d,h1,h2.mono e⟩
 stop:=fun j H e q=>⟨vs,SqT.mono e h,by rw[<-r.length];exact q⟩
def rng (lo:Int)(n:Nat):List D:=(List.range n).map fun (j:Nat)=>D.int (lo+(j:Int))
theorem bDq {K:PySem.W.Frag}(lo:Int)(n:Nat)(B:Hp):ItD K (Itr lo n) (rng lo n) B where
 go:=fun j H e q=>by unfold rng at q;rw[List.length_map,List.length_range] at q;exact q
 yld:=fun j H x H' e y q=>by
  unfold rng at q;rw[List.length_map,List.length_range] at q;obtain⟨y1,y2⟩:=y;subst y2;subst y1;refine⟨Same.refl _,.int (lo+j),?_,.int _⟩;unfold rng;rw[List.getElem?_map,List.getElem?_range q];rfl
 stop:=fun j H e q=>by unfold rng at q;rw[List.length_map,List.length_range] at q;exact q
section
variable {X:Cx}{B:Hp}{tg iter:Expr}{pos:Pos}{G:D->Rho->Option Rho}{F:Rho->Option Out}{body:List Stmt}
theorem Rel.sub {K:PySem.W.Frag}{B B':Hp}{ρ:Rho}{σ:St}{H:Hp}(e:Same B B')(r:Rel K B' ρ σ H):Rel K B ρ σ H:=by
 obtain⟨O,h1,ho,h2,hl,h3⟩:=r;exact⟨O,h1,ho,e.trans h2,hl,h3⟩
def bJ0 (X:Cx)(B:Hp)(σ:St)(ds:List D)(ρ1:Rho)(J:It)(H1:Hp):Prop:= ∃B',ItD X.K J ds B'/\Rel X.K B' ρ1 σ H1/\Same B B'
theorem bMh {J:It}{H1:Hp}{σ:St}{E:Ends}{ds:List D}{ρ1:Rho}(hi:bJ0 X B σ ds ρ1 J H1)(h:aM8 X B E (loop G F ds ρ1)){g:TG}{tb:TS}(hg: ∀B v σ H Q,tDG X B G v σ H Q->g v σ H Q)(hb: ∀B E σ H,tDS X B F E σ H->tb E σ H):
  ∃W:Nat->Nat->St->Hp->Prop,(∃m,W 0 m σ H1)/\∀i m σ H,W i m σ H->
   (J.stop i H/\E.nx σ H)\/(J.go i H/\∃N:St->Hp->Prop,(∀σ' H',N σ' H'->∃m',m'<m/\W (i+1) m' σ' H')/\∀x H',J.yld i H x H'->g x σ H' fun σ2 H2=>tb {E with nx:=N,ct:=N,bk:=E.nx} σ2 H2):=by
 obtain⟨B',hJ,r1,sB⟩:=hi;refine⟨fun j m σ H=>m=ds.length-j/\j<=ds.length/\∃ρj,Rel X.K B' ρj σ H/\aM8 X B E (loop G F (ds.drop j) ρj),⟨ds.length,by simp,Nat.zero_le _,ρ1,r1,by simpa using h⟩,?_⟩
 rintro j m σ H ⟨rfl,hj,ρj,rj,gj⟩
 have sH:Same B' H:=rj.kept;by_cases hlt:j<ds.length
 ·have hd:ds.drop j=ds[j]::ds.drop (j+1):=List.drop_eq_getElem_cons hlt
  rw[hd] at gj;refine .inr ⟨hJ.go j H sH hlt,fun σ' H'=> ∃ρ',Rel X.K B' ρ' σ' H'/\aM8 X B E (loop G F (ds.drop (j+1)) ρ'),fun σ' H' ⟨ρ',r',g'⟩=>⟨ds.length-(j+1),by omega,rfl,hlt,ρ',r',g'⟩,fun x H' y=> ?_⟩;obtain⟨e1,d,e2,e3⟩:=hJ.yld j H x H' sH y hlt;have ed:ds[j]=d:=by rw[List.getElem?_eq_getElem hlt] at e2;exact Option.some.inj e2
  rw[ed] at gj;unfold loop at gj;cases q:G d ρj with
  | none=>rw[q] at gj;exact False.elim gj
  | some ρa=>
   rw[q] at gj;refine hg B' x σ H' _ ⟨ρj,d,ρa,rj.mono e1,e3,q,fun σ2 H2 r2=>hb B' _ σ2 H2 ⟨ρa,r2,?_⟩⟩
   dsimp only at gj
   cases qf:F ρa with
   | none=>rw[qf] at gj;exact False.elim gj
   | some o=>
    rw[qf] at gj;cases o with
    | nx ρ2=>exact fun σ3 H3 r3=>⟨ρ2,r3,gj⟩
    | ct ρ2=>exact fun σ3 H3 r3=>⟨ρ2,r3,gj⟩
    | bk ρ2=>exact fun σ3 H3 r3=>gj σ3 H3 (r3.sub sB)
    | rt d=>exact fun v H3 s3 i3=>gj v H3 (sB.trans s3) i3
    | ex c ρ2=>exact fun pins s σ3 H3 ev r3 x3=>gj pins s σ3 H3 ev (r3.sub sB) x3
 ·have e:ds.drop j=[]:=List.drop_eq_nil_of_le (by omega)
  rw[e] at gj;exact .inl ⟨hJ.stop j H sH (by omega),gj σ H (rj.sub sB)⟩
def itD:D->M (List D)
 | .lst ds=>ok ds
 | .tup ds=>ok ds
 | _=>none
def iD (X:Cx)(tl:TE):TI:=fun σ H R=>tl σ H fun x H1=>(∃a,x= .ref a/\(∃xs,SqL X.K H1 a xs)/\R (Itl X.K a) H1)\/(∃a,x= .ref a/\(∃xs,SqT X.K H1 a xs)/\R (Itt X.K a) H1)
theorem bQ7 {l:Expr}{tl:TE}(hl:PE X l tl):PI X tg l (iD X tl):=by
 intro pins s σ H R I h;refine thn (hl pins s σ H _ I h) fun v s1 ⟨x,H1,I1,r1,q1⟩=> ?_
 rcases q1 with⟨a,e,⟨xs,hq⟩,q⟩ |⟨a,e,⟨xs,hq⟩,q⟩
 ·subst e
  cases r1;obtain⟨its,rv,p,hz⟩:=I1.list hq;refine wpAny_pyIter_list p.isList ?_;refine⟨s1.heap.objs.size,[s1.heap.objs.size],_,_,H1,rfl,I1.kept (t':=s1.toks) fun b o e=>Heap.get?_push_of_some _ e,bBc a _,⟨_,Heap.get?_push_size _ rfl,rfl,rfl⟩,fun b hb=> ?_,q⟩;have e:b=s1.heap.objs.size:=by simpa using hb
  subst e;exact I1.bNc (Nat.le_refl _) (I1.hok.fresh (Nat.le_refl _))
 ·subst e
  cases r1;obtain⟨its,rv,p,hz⟩:=I1.tuple hq;refine wpAny_pyIter_tuple (show s1.heap.IsTuple a its.toArray from p) ?_;refine⟨s1.heap.objs.size,[s1.heap.objs.size],_,_,H1,rfl,I1.kept (t':=s1.toks) fun b o e=>Heap.get?_push_of_some _ e,aZw a _,⟨_,Heap.get?_push_size _ rfl,rfl,rfl⟩,fun b hb=> ?_,q⟩;have e:b=s1.heap.objs.size:=by simpa using hb
  subst e;exact I1.bNc (Nat.le_refl _) (I1.hok.fresh (Nat.le_refl _))
theorem aNe {wi:TI}{S:Rho->Option Out}(hp:PassesOwn (model X.prog X.w) X.A X.env X.xe)(hc:X.calm=true)(hi:PI X tg iter wi)(hg: ∀B,PDG X B tg G)(hb: ∀B,PDB X B body F)
  (hr: ∀E σ H R,tDS X B S E σ H->(∀J H1 ds ρ1,bJ0 X B σ ds ρ1 J H1->aM8 X B E (loop G F ds ρ1)->R J H1)->wi σ H R) (hs: ∀x,foldedSetIterable iter X.env x=pure x:=by intro _;rfl):PDS X B (.For tg iter body [] pos) S:=by
 have hg':PG X tg (fun v σ H Q=> ∃B,tDG X B G v σ H Q):=fun pins s σ H v u Q I r ⟨B,h⟩=>hg B pins s σ H v u Q I r h
 have hb':PSs X body (fun E σ H=> ∃B,tDS X B F E σ H):=fun pins s σ H E I ⟨B,h⟩=>hb B pins s σ H E I h
 refine PS.of (bOj hp hc hi hg' hb' hs) fun E σ H h=> ?_
 exact hr E σ H _ h fun J H1 ds ρ1 i1 g1=>bMh (g:=fun v σ H Q=> ∃B,tDG X B G v σ H Q) (tb:=fun E σ H=> ∃B,tDS X B F E σ H) i1 g1 (fun B v σ H Q q=>⟨B,q⟩) fun B E σ H q=>⟨B,q⟩
def aJr (i:Nat)(ρ:Rho):Rho:=match ρ[i]? with
 | some (some (.own _))=>free ρ
 | some (some (.oin _ _ _ _))=>free ρ
 | some (some (.ow _))=>free ρ
 | some (some (.tk _))=>free ρ
 | _=>ρ
def aF0 (i:Nat)(G:D->Rho->Option Rho)(F:Rho->Option Out):Rho->Option Out:=fun ρ=>match look i ρ with
 | some (.ok d)=>(match itD d with
  | some (.ok ds)=>loop G F ds (aJr i ρ)
  | _=>none)
 | _=>none
theorem Rel.base {K:PySem.W.Frag}{B:Hp}{ρ:Rho}{σ:St}{H:Hp}(r:Rel K B ρ σ H): ∃B',Rel K B' ρ σ H/\Same B B'/\Same B' H/\(∀(i:Nat) (d:D),ρ[i]? =some (some (SV.sh d))->∃v,σ[i]? =some (some v)/\Is K B' d v)/\(∀d v,d.imm=true->Is K H d v->Is K B' d v):=by
 obtain⟨O,h1,ho,h2,hl,h3⟩:=r;exact⟨Off H O,⟨O,h1,ho,Same.refl _,hl,h3⟩,h2,Off.same _ _,fun i d q=>h3 i _ q,fun d v q i=>aKb ho q i⟩
theorem Rel.aPl {K:PySem.W.Frag}{B:Hp}{ρ:Rho}{σ:St}{H:Hp}(r:Rel K B ρ σ H):Rel K H (free ρ) σ H:=by
 have e0:Off H (fun _=>none)=H:=by funext b;unfold Off;rw[if_neg (fun⟨i,e⟩=>nomatch e)]
 refine⟨fun _=>none,(by intro _ _ _ q;cases q),(by intro _ _ q;cases q),by rw[e0];exact Same.refl _,?_,fun i sv q=> ?_⟩
 ·obtain⟨O,_,_,_,hl,_⟩:=r.freed
  exact hl
 ·unfold free at q
  rw[List.getElem?_map] at q;obtain⟨o,e1,e2⟩:=Option.map_eq_some_iff.mp q;cases o with
  | none=>cases e2
  | some sv0=>
   have e2':sv0.rel=sv:=Option.some.inj e2;subst e2';obtain⟨v,e3,e4⟩:=r.get e1;have:sv0.rel= .sh sv0.cur:=by cases sv0<;>rfl
   rw[this];exact⟨v,e3,by rw[e0];exact e4⟩
theorem aO1 {K:PySem.W.Frag}{H:Hp}{d:D}{v:V}{ds:List D}(i:Is K H d v)(h:itD d=ok ds): ∃a vs,v= .ref a/\IsL K H ds vs/\(SqL K H a vs\/SqT K H a vs):=by
 cases i with
 | lst hh r=>have:=aCw h;subst this;exact⟨_,_,rfl,r,.inl hh⟩
 | tup hh r=>have:=aCw h;subst this;exact⟨_,_,rfl,r,.inr hh⟩
 | _=>exact nomatch h
theorem aGv (i:Nat){x:Str}{p:Pos}(hN:X.N[i]? =some x)(hv:Vis X.env.scope x)(hp:PassesOwn (model X.prog X.w) X.A X.env X.xe)(hc:X.calm=true)(hg: ∀B,PDG X B tg G)(hb: ∀B,PDB X B body F)
  (hd:(x==("__debug__":Str))=false:=by decide) (hcd:(x==("__classdict__":Str))=false:=by decide) (hs: ∀y,foldedSetIterable (.Name x p) X.env y=pure y:=by intro _;rfl):PDS X B (.For tg (.Name x p) body [] pos) (aF0 i G F):=by
 refine aNe hp hc (bQ7 (aGd hN hv hd hcd)) hg hb (fun E σ H R h k=> ?_) hs;obtain⟨ρ,r,h⟩:=h;unfold aF0 look at h;split at h
 ·rename_i d0 hd0
  split at hd0
  ·rename_i sv q
   have e:=aCw hd0;subst e;split at h
   ·rename_i ds hds
    obtain⟨v,e1,e2⟩:=r.get q;obtain⟨a,vs,rfl,il,hq⟩:=aO1 e2 hds;refine⟨_,e1,?_⟩;have key: ∃B' vs,Rel X.K B' (aJr i ρ) σ H/\Same B B'/\IsL X.K B' ds vs/\(SqL X.K B' a vs\/SqT X.K B' a vs):=by
     cases sv with
     | sh d=>
      obtain⟨B',b1,b2,b3,b4,b5⟩:=r.base;obtain⟨v',f1,f2⟩:=b4 i d q;rw[e1] at f1;have:=Option.some.inj (Option.some.inj f1);subst this;obtain⟨a',vs',ea,il',hq'⟩:=aO1 f2 hds;cases ea;have e:aJr i ρ=ρ:=by unfold aJr;rw[q]
      exact⟨B',vs',by rw[e];exact b1,b2,il',hq'⟩
     | own ds'=>
      have e:aJr i ρ=free ρ:=by unfold aJr;rw[q]
      exact⟨H,vs,by rw[e];exact r.aPl,r.kept,il,hq⟩
     | oin a C dx fs=>
      have e:aJr i ρ=free ρ:=by unfold aJr;rw[q]
      exact⟨H,vs,by rw[e];exact r.aPl,r.kept,il,hq⟩
     | ow o=>
      have e:aJr i ρ=free ρ:=by unfold aJr;rw[q]
      exact⟨H,vs,by rw[e];exact r.aPl,r.kept,il,hq⟩
     | tk ks=>
      have e:aJr i ρ=free ρ:=by unfold aJr;rw[q]
      exact⟨H,vs,by rw[e];exact r.aPl,r.kept,il,hq⟩
    obtain⟨B',vs',k1,k2,k3,k4⟩:=key;rcases k4 with k4 | k4
    ·exact .inl ⟨a,rfl,⟨_,k1.kept.seq k4⟩,k _ H ds (aJr i ρ) ⟨B',aNi k4 k3,k1,k2⟩ h⟩
    ·exact .inr ⟨a,rfl,⟨_,SqT.mono k1.kept k4⟩,k _ H ds (aJr i ρ) ⟨B',aSw k4 k3,k1,k2⟩ h⟩
   ·exact False.elim h
  ·exact nomatch hd0
 ·exact False.elim h
def bB4 (f:Rho->M D)(G:D->Rho->Option Rho)(F:Rho->Option Out):Rho->Option Out:=fun ρ=>lft (f ρ) ρ fun d=>match itD d with
 | some (.ok ds)=>loop G F ds (if d.imm=true then ρ else free ρ)
 | _=>none
theorem bGx {fa:Rho->M D}(hp:PassesOwn (model X.prog X.w) X.A X.env X.xe)(hc:X.calm=true)(he:PD X B iter fa)(hg: ∀B,PDG X B tg G)(hb: ∀B,PDB X B body F)(hs: ∀y,foldedSetIterable iter X.env y=pure y:=by intro _;rfl):PDS X B (.For tg iter body [] pos) (bB4 fa G F):=by
 refine aNe hp hc (bQ7 he) hg hb (fun E σ H R h k=> ?_) hs;obtain⟨ρ,r,h⟩:=h;refine⟨ρ,r,(aCe r h).imp fun d h1 v H1 e1 i1=> ?_⟩;split at h1
 ·rename_i ds hds
  obtain⟨a,vs,rfl,il,hq⟩:=aO1 i1 hds;have r1:=r.mono e1;have key: ∃B' vs,Rel X.K B' (if d.imm=true then ρ else free ρ) σ H1/\Same B B'/\IsL X.K B' ds vs/\(SqL X.K B' a vs\/SqT X.K B' a vs):=by
   by_cases q:d.imm=true
   ·obtain⟨B',b1,b2,b3,b4,b5⟩:=r1.base
    obtain⟨a',vs',ea,il',hq'⟩:=aO1 (b5 d _ q i1) hds;cases ea;rw[if_pos q];exact⟨B',vs',b1,b2,il',hq'⟩
   ·rw[if_neg q]
    exact⟨H1,vs,r1.aPl,r1.kept,il,hq⟩
  obtain⟨B',vs',k1,k2,k3,k4⟩:=key;rcases k4 with k4 | k4
  ·exact .inl ⟨a,rfl,⟨_,k1.kept.seq k4⟩,k _ H1 ds _ ⟨B',aNi k4 k3,k1,k2⟩ h1⟩
  ·exact .inr ⟨a,rfl,⟨_,SqT.mono k1.kept k4⟩,k _ H1 ds _ ⟨B',aSw k4 k3,k1,k2⟩ h1⟩
 ·exact False.elim h1
def aEt (f:Rho->M D)(G:D->Rho->Option Rho)(F:Rho->Option Out):Rho->Option Out:=fun ρ=>lft (f ρ) ρ fun d=>match d with
 | .int j=>if j<2^62/\ -(2^62)<=j then loop G F (rng 0 j.toNat) ρ else none
 | _=>none
theorem aKx {a:Expr}{fa:Rho->M D}{p p1:Pos}(hgl:Gl X "range")(hm:X.mg "range"=none)(hp:PassesOwn (model X.prog X.w) X.A X.env X.xe)(hc:X.calm=true)(he:PD X B a fa)(hg: ∀B,PDG X B tg G)(hb: ∀B,PDB X B body F)
  (hst:starEach [a] X.env=[(false,eval a X.env)]:=by exact aIl rfl) (hs: ∀y,foldedSetIterable (.Call (.Name "range" p) [a] [] p1) X.env y=pure y:=by intro _;rfl):PDS X B (.For tg (.Call (.Name "range" p) [a] [] p1) body [] pos) (aEt fa G F):=by
 refine aNe hp hc (aUb hgl hm (aBq he aEi hst) hst) hg hb (fun E σ H R h k=> ?_) hs;obtain⟨ρ,r,h⟩:=h;refine⟨ρ,r,(aCe r h).imp fun d h1 v H1 e1 i1=> ?_⟩;cases i1<;>first | exact False.elim h1 | skip
 rename_i j
 dsimp only at h1
 split at h1
 ·rename_i hj
  obtain⟨B',b1,b2,b3,b4,b5⟩:=(r.mono e1).base;exact⟨j,rfl,hj.2,hj.1,k _ H1 _ ρ ⟨B',bDq 0 j.toNat B',b1,b2⟩ h1⟩
 ·exact False.elim h1
end
def putD (f:Str)(v:D):List (Str×D)->List (Str×D)
 | []=> [(f,v)]
 |(g,x)::r=>if g=f then (g,v)::r else (g,x)::putD f v r
theorem bD0 {K:PySem.W.Frag}{H:Hp}{f:Str}{d:D}{v:V}(i:Is K H d v): ∀{fs:List (Str×D)} {vs:List (Str×V)},IsF K H fs vs->IsF K H (putD f d fs) (aQr f v vs)
 | _,_,.nil=> .cons i .nil
 | _,_,.cons (x:=g) h r=>by
  unfold putD aQr;by_cases q:g=f
  ·rw[if_pos q,if_pos q];exact .cons i r
  ·rw[if_neg q,if_neg q];exact .cons h (bD0 i r)
section
variable {X:Cx}{B:Hp}{e:Expr}{fa:Rho->M D}{pos pos' p:Pos}{x f:Str}
theorem Rel.put {K:PySem.W.Frag}{B H:Hp}{ρ:Rho}{σ:St}{i:Nat}{a C dx:Addr}{fs:List (Str×D)}{d:D}{v:V}(O:Nat->Option Addr)(h1: ∀i j a,O i=some a->O j=some a->i=j)(ho:aRh H O)(h2:Same B (Off H O))(hl:ρ.length=σ.length)
  (h3: ∀i sv,ρ[i]? =some (some sv)->Slot K H O σ i sv) (q:ρ[i]? =some (some (.oin a C dx fs))) (iv:Is K (Off H O) d v) {vs:List (Str×V)} (hv:H a=some (.ins C dx vs)):Rel K B (ρ.set i (some (.oin a C dx (putD f d fs)))) σ (upd H a (.ins C dx (aQr f v vs))):=by
 obtain⟨z1,z2,z3,vs',z4,z5⟩:=h3 i _ q;rw[hv] at z4;cases z4;have eo:Off (upd H a (.ins C dx (aQr f v vs))) O=Off H O:=Off.upd z1;refine⟨O,h1,fun j b qj=> ?_,by rw[eo];exact h2,by rw[List.length_set,hl],fun j sv qj=> ?_⟩
 ·by_cases e:b=a
  ·subst e;exact⟨_,aAy,rfl⟩
  ·obtain⟨u,w,m⟩:=ho j b qj
   exact⟨u,by rw[aA6 e];exact w,m⟩
 ·by_cases e:j=i
  ·subst e
   have hj:j<ρ.length:=(List.getElem?_eq_some_iff.mp q).1;rw[List.getElem?_set_self hj] at qj;have q':=Option.some.inj (Option.some.inj qj);subst q';exact⟨z1,z2,z3,_,aAy,by rw[eo];exact bD0 iv z5⟩
  ·rw[List.getElem?_set_ne (Ne.symm e)] at qj
   have z:=h3 j sv qj;cases sv with
   | sh d'=>obtain⟨v',e1,e2⟩:=z;exact⟨v',e1,by rw[eo];exact e2⟩
   | own ds=>
    obtain⟨b,ws,e1,e2,e3,e4⟩:=z;have nb:b≠a:=fun w=>e (h1 j i a (by rw[<-w];exact e1) z1)
    exact⟨b,ws,e1,e2,by rw[aA6 nb];exact e3,by rw[eo];exact e4⟩
   | oin b C' dx' fs'=>
    obtain⟨e1,e2,e3,ws,e4,e5⟩:=z;have nb:b≠a:=fun w=>e (h1 j i a (by rw[<-w];exact e1) z1)
    exact⟨e1,e2,e3,ws,by rw[aA6 nb];exact e4,by rw[eo];exact e5⟩
   | ow o=>
    obtain⟨b,u,e1,e2,e3,e4⟩:=z;have nb:b≠a:=fun w=>e (h1 j i a (by rw[<-w];exact e1) z1)
    exact⟨b,u,e1,e2,by rw[aA6 nb];exact e3,by rw[eo];exact e4⟩
   | tk ks=>obtain⟨b,e1,e2⟩:=z;exact⟨b,e1,by rw[eo];exact e2⟩
def putAt (cs:Addr->Bool)(i:Nat)(f:Str)(d:D)(ρ:Rho):Option Out:=match ρ[i]? with
 | some (some (.oin a C dx fs))=>if cs C=true/\fs.length<1000 then some (.nx (ρ.set i (some (.oin a C dx (putD f d fs))))) else none
 | _=>none
def aJq (cs:Addr->Bool)(i:Nat)(f:Str)(fa:Rho->M D):Rho->Option Out:=fun ρ=>lft (fa ρ) ρ fun d=>if d.imm=true then putAt cs i f d ρ else none
theorem aE7 {cs:Addr->Bool}{i:Nat}(hC: ∀C,cs C=true->Cls X.K C/\aGm X.K C f)(hN:X.N[i]? =some x)(hv:Vis X.env.scope x)(he:PD X B e fa)(hs:swapsWith e (some (.Attribute (.Name x p) f pos')) pos.line X.env=pure false:=by rfl)
  (hd:(x==("__debug__":Str))=false:=by decide) (hcd:(x==("__classdict__":Str))=false:=by decide):PDS X B (.Assign [.Attribute (.Name x p) f pos'] e pos) (aJq cs i f fa):=by
 refine PS.of (bIs (aGd hN hv hd hcd) he hs) fun E σ H h=> ?_
 obtain⟨ρ,r,h⟩:=h;refine⟨ρ,r,(aCe r h).imp fun d h1 v H1 e1 i1=> ?_⟩;split at h1
 ·rename_i hm
  unfold putAt at h1;split at h1
  ·rename_i a C dx fs q
   split at h1
   ·rename_i hc
    obtain⟨O,g1,go,g2,gl,g3⟩:=r.mono e1;obtain⟨z1,z2,z3,vs,z4,z5⟩:=g3 i _ q;exact⟨_,z2,a,C,dx,vs,rfl,z4,(hC C hc.1).1,(hC C hc.1).2,by rw[<-z5.length];exact hc.2,h1 σ _ (Rel.put O g1 go g2 gl g3 q (aKb go hm i1) z4)⟩
   ·exact False.elim h1
  ·exact False.elim h1
 ·exact False.elim h1
def bB5 (cs:Addr->Bool)(i:Nat)(f:Str)(j:Nat):Rho->Option Out:=fun ρ=>match ρ[j]? with
 | some (some (.sh d))=>putAt cs i f d ρ
 | _=>none
theorem bGy {cs:Addr->Bool}{i j:Nat}{y:Str}{p2:Pos}(hC: ∀C,cs C=true->Cls X.K C/\aGm X.K C f)(hN:X.N[i]? =some x)(hv:Vis X.env.scope x)(hN2:X.N[j]? =some y)(hv2:Vis X.env.scope y)(hs:swapsWith (.Name y p2) (some (.Attribute (.Name x p) f pos')) pos.line X.env=pure false:=by rfl)
  (hd:(x==("__debug__":Str))=false:=by decide) (hcd:(x==("__classdict__":Str))=false:=by decide) (hd2:(y==("__debug__":Str))=false:=by decide) (bP8:(y==("__classdict__":Str))=false:=by decide):PDS X B (.Assign [.Attribute (.Name x p) f pos'] (.Name y p2) pos) (bB5 cs i f j):=by
 refine PS.of (bIs (aGd hN hv hd hcd) (aGd hN2 hv2 hd2 bP8) hs) fun E σ H h=> ?_
 obtain⟨ρ,r,h⟩:=h;unfold bB5 at h;split at h
 ·rename_i d qd
  unfold putAt at h;split at h
  ·rename_i a C dx fs q
   split at h
   ·rename_i hc
    obtain⟨O,g1,go,g2,gl,g3⟩:=r;obtain⟨v,y1,y2⟩:=g3 j _ qd;obtain⟨z1,z2,z3,vs,z4,z5⟩:=g3 i _ q;exact⟨v,y1,_,z2,a,C,dx,vs,rfl,z4,(hC C hc.1).1,(hC C hc.1).2,by rw[<-z5.length];exact hc.2,h σ _ (Rel.put O g1 go g2 gl g3 q y2 z4)⟩
   ·exact False.elim h
  ·exact False.elim h
 ·exact False.elim h
end
def aBg (N:List Str)(ds:List D):Rho:=ds.map (fun d=>some (.sh d))++List.replicate (N.length-ds.length) none
def aAn:Option Out->M D
 | some (.rt d)=>ok d
 | some (.nx _)=>ok .non
 | some (.ex c _)=>err c
 | _=>none
theorem aJ2 {α β:Type}{f:α->β}: ∀{l:List α} {r:List β} {i:Nat} {b:β},(l.map f++r)[i]? =some b->(∃a,l[i]? =some a/\b=f a)\/(l.length<=i/\r[i-l.length]? =some b)
 | l,r,i,b,h=>by
  by_cases q:i<l.length
  ·rw[List.getElem?_append_left (by simpa using q),List.getElem?_map] at h
   obtain⟨a,e1,e2⟩:=Option.map_eq_some_iff.mp h;exact .inl ⟨a,e1,e2.symm⟩
  ·rw[List.getElem?_append_right (by simpa using q),List.length_map] at h
   exact .inr ⟨by omega,h⟩
theorem aNu {N:List Str}{vs:List V}{i:Nat}{v:V}(h:vs[i]? =some v):(start N vs)[i]? =some (some v):=by
 unfold start;have q:i<vs.length:=(List.getElem?_eq_some_iff.mp h).1;rw[List.getElem?_append_left (by simpa using q),List.getElem?_map,h];rfl
theorem aMf {N:List Str}{vs:List V}(h:vs.length<=N.length):(start N vs).length=N.length:=by
 unfold start;rw[List.length_append,List.length_map,List.length_replicate];omega
theorem aWm {N:List Str}{ds:List D}(h:ds.length<=N.length):(aBg N ds).length=N.length:=by
 unfold aBg;rw[List.length_append,List.length_map,List.length_replicate];omega
theorem aT7 {K:PySem.W.Frag}{H:Hp}{N:List Str}{ds:List D}{vs:List V}(i:IsL K H ds vs)(hl:ds.length<=N.length):Rel K H (aBg N ds) (start N vs) H:=by
 have e0:Off H (fun _=>none)=H:=by funext b;unfold Off;rw[if_neg (fun⟨i,e⟩=>nomatch e)]
 refine⟨fun _=>none,(by intro _ _ _ q;cases q),(by intro _ _ q;cases q),by rw[e0];exact Same.refl _,by rw[aWm hl,aMf (by rw[<-i.length];exact hl)],fun j sv q=> ?_⟩;unfold aBg at q;rcases aJ2 q with⟨d,e1,e2⟩ |⟨_,e2⟩
 ·cases e2
  obtain⟨v,h1,h2⟩:=i.get e1;exact⟨v,aNu h1,by rw[e0];exact h2⟩
 ·rw[List.getElem?_replicate] at e2
  split at e2<;>cases e2
section
variable {P:Program}{w:World}{K:PySem.W.Frag}{mg:Str->Option Value}{base:Heap}
abbrev cxN (P:Program)(w:World)(K:PySem.W.Frag)(mg:Str->Option Value)(base:Heap)(N:List Str)(qual:Str)(scope:Scope)(f:Addr)(cd:Value)(A:Around)(outer:List Env)(s:Shared)(H:Hp)(E:XK):Cx:=
 (bMr (CXD P w) P w K mg base N qual scope f cd A outer s H E).nox
theorem aLl {x qual:Str}{st:Stmt}{f:Addr}{fd:FuncData}{N ps:List Str}{k:Nat}{F:List D->M D}(Fu:Fun K x qual st f fd)(S:aA0 N ps (aAd st))(hL: ∀ds r,F ds=some r->ds.length=ps.length)
  (hbody: ∀(cdv:Value) (A:Around) (outer:List Env) (s:Shared) (H:Hp) (E:XK),aDm k (A.deeper (envOfC qual (aAd st) s.heap.objs.size f cdv))->
   ∃F',(∀B,PDB (cxN P w K mg base N qual (aAd st) f cdv A outer s H E) B (aAt st) F')/\∀ds r,F ds=some r->∃d,r= .ok d/\aAn (F' (aBg N ds))=ok d):FnD P w K mg base (k+1) f fd ps F:=by
 obtain⟨oc,od,kV,doc,pm,an,cdv,ct,osl,rfl,lk,hcd⟩:=Fu.ex;refine bHy lk hcd S (fun vs H Q E ⟨ds,i,hl,_⟩=>hl) fun A outer s H vs Q E hr hsp=> ?_
 obtain⟨F',hF,hq⟩:=hbody cdv A outer s H E hr;refine⟨_,(hF H).nox,?_⟩;obtain⟨ds,i,hl,h⟩:=hsp;have hn:ps.length<=N.length:=by have:=congrArg List.length S.pre;rw[List.length_take] at this;omega
 cases q:F ds with
 | none=>rw[q] at h;exact False.elim h
 | some r=>
  rw[q] at h;obtain⟨d,rfl,e⟩:=hq ds r q;refine⟨aBg N ds,aT7 i (by rw[i.length,hl];exact hn),?_⟩;cases qf:F' (aBg N ds) with
  | none=>rw[qf] at e;cases e
  | some o=>
   rw[qf] at e;cases o with
   | rt d'=>have:=aCw e;subst this;exact fun v H' s' i'=>h v H' s' i'
   | nx ρ=>have:=aCw e;subst this;exact fun σ' H' r'=>h _ H' r'.kept .non
   | bk ρ=>cases e
   | ct ρ=>cases e
   | ex c ρ=>cases e
def aNc (N:List Str)(a C dx:Addr)(ds:List D):Rho:=some (.oin a C dx [])::(ds.map (fun d=>some (.sh d))++List.replicate (N.length-(ds.length+1)) none)
theorem aQq {H:Hp}{N:List Str}{a C dx:Addr}{ds:List D}{vs:List V}(ha:H a=some (.ins C dx []))(hd:dx≠a)(i:IsL K (hid H a) ds vs)(hl:ds.length+1<=N.length):Rel K (hid H a) (aNc N a C dx ds) (start N (.ref a::vs)) H:=by
 have e0:Off H (fun j=>if j=0 then some a else none)=hid H a:=by
  funext b;unfold Off hid
  by_cases q:b=a
  ·rw[if_pos q,if_pos ⟨0,by simp[q]⟩]
  ·rw[if_neg q,if_neg]
   rintro⟨j,e⟩
   dsimp only at e
   split at e
   ·cases e;exact q rfl
   ·cases e
 refine⟨fun j=>if j=0 then some a else none,fun j k b q1 q2=> ?_,fun j b q=> ?_,by rw[e0];exact Same.refl _,?_,fun j sv q=> ?_⟩
 ·by_cases z1:j=0
  ·by_cases z2:k=0
   ·omega
   ·simp[z2] at q2
  ·simp[z1] at q1
 ·by_cases z1:j=0
  ·simp[z1] at q;subst q;exact⟨_,ha,rfl⟩
  ·simp[z1] at q
 ·rw[aMf (by rw[List.length_cons,<-i.length];exact hl)]
  unfold aNc;rw[List.length_cons,List.length_append,List.length_map,List.length_replicate];omega
 ·cases j with
  | zero=>
   unfold aNc at q;cases q;exact⟨rfl,aNu rfl,hd,[],ha,.nil⟩
  | succ j=>
   unfold aNc at q;rw[List.getElem?_cons_succ] at q;rcases aJ2 q with⟨d,e1,e2⟩ |⟨_,e2⟩
   ·cases e2
    obtain⟨v,h1,h2⟩:=i.get e1;exact⟨v,aNu (by rw[List.getElem?_cons_succ];exact h1),by rw[e0];exact h2⟩
   ·rw[List.getElem?_replicate] at e2
    split at e2<;>cases e2
def aE5 (a C dx:Addr):Option Out->M (List (Str×D))
 | some (.nx (some (.oin a' C' dx' fs)::_))=>if a'=a/\C'=C/\dx'=dx then ok fs else none
 | _=>none
theorem aY4 {x qual:Str}{st:Stmt}{f C:Addr}{fd:FuncData}{N ps:List Str}{k:Nat}{F:List D->M (List (Str×D))}(Fu:Fun K x qual st f fd)(S:aA0 N ps (aAd st))(hL: ∀ds r,F ds=some r->ds.length+1=ps.length)
  (hbody: ∀(cdv:Value) (A:Around) (outer:List Env) (s:Shared) (H:Hp) (E:XK),aDm k (A.deeper (envOfC qual (aAd st) s.heap.objs.size f cdv))->
   ∃F',(∀B,PDB (cxN P w K mg base N qual (aAd st) f cdv A outer s H E) B (aAt st) F')/\∀ds r a dx,F ds=some r->∃fs,r= .ok fs/\aE5 a C dx (F' (aNc N a C dx ds))=ok fs):bFt P w K mg base (CXD P w) (k+1) f fd ps (spI K C ps.length F):=by
 obtain⟨oc,od,kV,doc,pm,an,cdv,ct,osl,rfl,lk,hcd⟩:=Fu.ex;refine bHy lk hcd S (fun vs H Q E hz=>by obtain⟨a,dx,ws,ds,_,_,_,_,hl,_⟩:=hz;exact hl) fun A outer s H vs Q E hr hsp=> ?_
 obtain⟨F',hF,hq⟩:=hbody cdv A outer s H E hr;obtain⟨a,dx,ws,ds,rfl,ha,hd,i,hl,h⟩:=hsp;refine⟨_,(hF (hid H a)).nox,?_⟩;have hn:ps.length<=N.length:=by have:=congrArg List.length S.pre;rw[List.length_take] at this;omega
 cases q:F ds with
 | none=>rw[q] at h;exact False.elim h
 | some r=>
  rw[q] at h;obtain⟨fs,rfl,e⟩:=hq ds r a dx q;refine⟨aNc N a C dx ds,aQq ha hd i (by rw[i.length];rw[List.length_cons] at hl;omega),?_⟩;unfold aE5 at e;split at e
  ·rename_i a' C' dx' fs' rest qf
   split at e
   ·rename_i hh
    obtain⟨rfl,rfl,rfl⟩:=hh;have:=aCw e;subst this;rw[qf];intro σ' H' r';obtain⟨O,g1,go,g2,gl,g3⟩:=r';obtain⟨z1,z2,z3,vs',z4,z5⟩:=g3 0 _ rfl;exact h H' vs' z4 (z5.mono (Off.same _ _)) (g2.trans (Off.same _ _))
   ·cases e
  ·cases e
end
theorem aAg {F G:Rho->Option Out}{ρ ρ':Rho}(h:F ρ=some (.nx ρ')):aAi F G ρ=G ρ':=by unfold aAi;rw[h]
theorem aBf {F G:Rho->Option Out}{ρ:Rho}{d:D}(h:F ρ=some (.rt d)):aAi F G ρ=some (.rt d):=by unfold aAi;rw[h]
theorem aMy {t:Rho->M Bool}{F G:Rho->Option Out}{ρ:Rho}(h:t ρ=ok true):sIf t F G ρ=F ρ:=by unfold sIf;rw[h];rfl
theorem aJ9 {t:Rho->M Bool}{F G:Rho->Option Out}{ρ:Rho}(h:t ρ=ok false):sIf t F G ρ=G ρ:=by unfold sIf;rw[h];rfl
theorem aBp {f:Rho->M D}{ρ:Rho}{d:D}(h:f ρ=ok d):aB7 f ρ=some (.rt d):=by unfold aB7;rw[h];rfl
theorem aR1 {i:Nat}{f:Rho->M D}{ρ:Rho}{d:D}(h:f ρ=ok d):aDy i f ρ=some (.nx (aLk i d ρ)):=by unfold aDy;rw[h];rfl
theorem aEk {i:Nat}{d:D}{ρ:Rho}(h:d.imm=true):aLk i d ρ=ρ.set i (some (.sh d)):=by unfold aLk;rw[if_pos h]
theorem bB3 {f:Rho->M D}{G:D->Rho->Option Rho}{F:Rho->Option Out}{ρ:Rho}{j:Int}(h:f ρ=ok (.int j))(h1:j<2^62)(h2: -(2^62)<=j):aEt f G F ρ=loop G F (rng 0 j.toNat) ρ:=by
 unfold aEt;rw[h,aHi]
 dsimp only
 rw[if_pos ⟨h1,h2⟩]
theorem bGc {f:Rho->M D}{G:D->Rho->Option Rho}{F:Rho->Option Out}{ρ:Rho}{d:D}{ds:List D}(h:f ρ=ok d)(h1:itD d=ok ds):bB4 f G F ρ=loop G F ds (if d.imm=true then ρ else free ρ):=by
 unfold bB4;rw[h,aHi,h1];rfl
theorem aYr {G:D->Rho->Option Rho}{F:Rho->Option Out}(P:List D->Rho->Prop): ∀(ds pre:List D) (ρ:Rho),P pre ρ->
  (∀p d q ρ,pre++ds=p++d::q->P p ρ->∃ρ1 ρ2,G d ρ=some ρ1/\(F ρ1=some (.nx ρ2)\/F ρ1=some (.ct ρ2))/\P (p++ [d]) ρ2)->∃ρ',loop G F ds ρ=some (.nx ρ')/\P (pre++ds) ρ'
 | [],pre,ρ,h,_=>⟨ρ,rfl,by rw[List.append_nil];exact h⟩
 | d::ds,pre,ρ,h,st=>by
  obtain⟨ρ1,ρ2,h1,h2,h3⟩:=st pre d ds ρ rfl h;obtain⟨ρ',h4,h5⟩:=aYr P ds (pre++ [d]) ρ2 h3 (fun p d' q ρ e hp=>st p d' q ρ (by rw[<-e,List.append_assoc];rfl) hp);refine⟨ρ',?_,by rw[List.append_assoc] at h5;exact h5⟩;unfold loop;rw[h1]
  dsimp only
  rcases h2 with h2 | h2<;>rw[h2]<;>exact h4
theorem aUs {G:D->Rho->Option Rho}{F:Rho->Option Out}(P:List D->Rho->Prop)(ds:List D)(ρ:Rho)(h:P [] ρ)
  (st: ∀p d q ρ,ds=p++d::q->P p ρ->∃ρ1 ρ2,G d ρ=some ρ1/\(F ρ1=some (.nx ρ2)\/F ρ1=some (.ct ρ2))/\P (p++ [d]) ρ2): ∃ρ',loop G F ds ρ=some (.nx ρ')/\P ds ρ':=by
 have:=aYr P ds [] ρ h (fun p d q ρ e=>st p d q ρ (by simpa using e))
 simpa using this
mutual
def D.dep:D->Nat
 | .tup ds=>aZd ds+1
 | .lst ds=>aZd ds+1
 | _=>0
def aZd:List D->Nat
 | []=>0
 | d::ds=>max d.dep (aZd ds)
end
mutual
def D.pl:D->Bool
 | .tup ds=>decide (ds.length<=100000)&&plL ds
 | .lst ds=>decide (ds.length<=100000)&&plL ds
 | .obj _ _=>false
 | .dk _=>false
 | .dt _=>false
 | .exc _=>false
 | .set _=>false
 | _=>true
def plL:List D->Bool
 | []=>true
 | d::ds=>d.pl&&plL ds
end
theorem bJr: ∀{ds:List D} {i:Nat} {d:D},ds[i]? =some d->d.dep<=aZd ds
 | [],_,_,h=>by simp at h
 | x::ds,0,d,h=>by simp at h;subst h;unfold aZd;omega
 | x::ds,i+1,d,h=>by have:=bJr (ds:=ds) (i:=i) (d:=d) (by simpa using h);unfold aZd;omega
theorem bOl: ∀{ds:List D} {i:Nat} {d:D},plL ds=true->ds[i]? =some d->d.pl=true
 | [],_,_,_,h=>by simp at h
 | x::ds,0,d,q,h=>by simp at h;subst h;unfold plL at q;rw[Bool.and_eq_true] at q;exact q.1
 | x::ds,i+1,d,q,h=>by unfold plL at q;rw[Bool.and_eq_true] at q;exact bOl (ds:=ds) (i:=i) q.2 (by simpa using h)
def aPc (F:List D->M D):Rho->Option Out:=
  (aAi (sIf (orB (aA2 (b2 gNe (isi "tuple" (look 1)) (isi "tuple" (look 0)))) (aA2 (b2 gNe (isi "list" (look 1)) (isi "list" (look 0))))) (aAi (aB7 (con (.bl false)))
  aAp) aAp)
  (aAi (sIf (test (bL5 ["tuple","list"] (look 1))) (aAi (sIf (aA2 (b2 gNe (f1 aF7 (look 0)) (f1 aF7 (look 1)))) (aAi (aB7 (con (.bl false)))
  aAp) aAp)
  (aAi (aEt (f1 aF7 (look 1)) (gN 2) (aAi (sIf (aM1 (test (app F (aAe (b2 gIx (look 0) (look 2)) (aAe (b2 gIx (look 1) (look 2)) aA3))))) (aAi (aB7 (con (.bl false)))
  aAp) aAp)
  aAp))
  (aAi (aB7 (con (.bl true)))
  aAp))) aAp)
  (aAi (sIf (aA2 (b2 gIs (look 1) (con .non))) (aAi (aB7 (b2 gIs (look 0) (con .non)))
  aAp) aAp)
  (aAi (sIf (orB (aA2 (b2 gNe (isi "bool" (look 1)) (isi "bool" (look 0)))) (aA2 (b2 gNe (isi "str" (look 1)) (isi "str" (look 0))))) (aAi (aB7 (con (.bl false)))
  aAp) aAp)
  (aAi (aB7 (aV0 (b2 gEq (isi "int" (look 1)) (isi "int" (look 0))) (b2 gEq (look 0) (look 1))))
  aAp)))))
open Classical in
def aEe (k:Nat):List D->M D
 | [x,y]=>if x=y/\x.pl=true/\x.dep<k then ok (.bl true) else none
 | _=>none
theorem aU9 (k:Nat): ∀ds r,aEe k ds=some r->ds.length=2:=by
 intro ds r h;unfold aEe at h;split at h
 ·rfl
 ·cases h
open Classical in
theorem aJl {k:Nat}{x:D}(h1:x.pl=true)(h2:x.dep<k):aEe k [x,x]=ok (.bl true):=by
 show (if x=x/\x.pl=true/\x.dep<k then ok (D.bl true) else none)=_;rw[if_pos ⟨rfl,h1,h2⟩]
theorem bAy (ds:List D):aEe 0 ds=none:=by
 unfold aEe;split
 ·rw[if_neg];rintro⟨_,_,h⟩;omega
 ·rfl
theorem bBw {k:Nat}{x:D}{xs:List D}(hx:x= .tup xs\/x= .lst xs)(hp:plL xs=true)(hd:aZd xs<k)(o:Option SV):
  ∃o',loop (gN 2) (aAi (sIf (aM1 (test (app (aEe k) (aAe (b2 gIx (look 0) (look 2)) (aAe (b2 gIx (look 1) (look 2)) aA3))))) (aAi (aB7 (con (.bl false))) aAp) aAp) aAp) (rng 0 xs.length) [some (.sh x),some (.sh x),o]=some (.nx [some (.sh x),some (.sh x),o']):=by
 obtain⟨ρ',h1,o',h2⟩:=aUs (G:=gN 2) (F:=aAi (sIf (aM1 (test (app (aEe k) (aAe (b2 gIx (look 0) (look 2)) (aAe (b2 gIx (look 1) (look 2)) aA3))))) (aAi (aB7 (con (.bl false))) aAp) aAp) aAp)
  (fun _ ρ=> ∃o',ρ=[some (.sh x),some (.sh x),o']) (rng 0 xs.length) [some (.sh x),some (.sh x),o] ⟨o,rfl⟩ (fun p d q ρ e ⟨o1,eρ⟩=>by
   subst eρ;have hm:d∈rng 0 xs.length:=by rw[e];simp
   unfold rng at hm;obtain⟨j,hj,rfl⟩:=List.mem_map.mp hm;rw[List.mem_range] at hj;have hz:xs[j]? =some xs[j]:=List.getElem?_eq_getElem hj;have ha:atI xs (0+(j:Int))=some xs[j]:=by rw[Int.zero_add];exact aPm hz
   have g1:gIx x (.int (0+(j:Int)))=ok xs[j]:=by
    rcases hx with rfl | rfl
    ·show (match atI xs (0+(j:Int)) with | some d=>ok d | none=>none)=_;rw[ha]
    ·show (match atI xs (0+(j:Int)) with | some d=>ok d | none=>none)=_;rw[ha]
   have f1:aEe k [xs[j],xs[j]]=ok (.bl true):=aJl (bOl hp hz) (Nat.lt_of_le_of_lt (bJr hz) hd);refine⟨[some (.sh x),some (.sh x),some (.sh (.int (0+(j:Int))))],[some (.sh x),some (.sh x),some (.sh (.int (0+(j:Int))))],rfl,.inl ?_,_,rfl⟩;have e1:app (aEe k) (aAe (b2 gIx (look 0) (look 2)) (aAe (b2 gIx (look 1) (look 2)) aA3)) [some (.sh x),some (.sh x),some (.sh (.int (0+(j:Int))))]=ok (.bl true):=by
    show bnd (bnd (gIx x (.int (0+(j:Int)))) fun a=>bnd (bnd (bnd (ok x) fun x'=>bnd (ok (.int (0+(j:Int)))) fun y=>gIx x' y) fun b=>bnd (ok []) fun r=>ok (b::r)) fun r=>ok (a::r)) (aEe k)=_;rw[g1];show bnd (bnd (bnd (gIx x (.int (0+(j:Int)))) fun b=>ok [b]) fun r=>ok (xs[j]::r)) (aEe k)=_;rw[g1];exact f1
   show aAi (sIf (aM1 (test _)) _ _) _ _=_;unfold aAi sIf aM1 test;rw[e1];rfl)
 exact⟨o',by rw[h1,h2]⟩
theorem aYe {k:Nat}{x:D}{xs:List D}(hx:x= .tup xs\/x= .lst xs)(hl:xs.length<=100000)(hp:plL xs=true)(hd:aZd xs<k):aAn (aPc (aEe k) [some (.sh x),some (.sh x),none])=ok (.bl true):=by
 obtain⟨o',h⟩:=bBw hx hp hd none;have hj:((xs.length:Nat):Int)<2^62/\ -(2^62)<=((xs.length:Nat):Int):=by omega
 have e:aEt (f1 aF7 (look 1)) (gN 2) (aAi (sIf (aM1 (test (app (aEe k) (aAe (b2 gIx (look 0) (look 2)) (aAe (b2 gIx (look 1) (look 2)) aA3))))) (aAi (aB7 (con (.bl false))) aAp) aAp) aAp) [some (.sh x),some (.sh x),none]=some (.nx [some (.sh x),some (.sh x),o']):=by
  have e1:f1 aF7 (look 1) [some (.sh x),some (.sh x),none]=ok (.int xs.length):=by rcases hx with rfl | rfl<;>rfl
  rw[bB3 e1 hj.1 hj.2,Int.toNat_natCast];exact h
 have d1:sIf (orB (aA2 (b2 gNe (isi "tuple" (look 1)) (isi "tuple" (look 0)))) (aA2 (b2 gNe (isi "list" (look 1)) (isi "list" (look 0))))) (aAi (aB7 (con (.bl false))) aAp) aAp [some (.sh x),some (.sh x),none]=some (.nx [some (.sh x),some (.sh x),none]):=by
  rcases hx with rfl | rfl<;>rfl
 have d3:sIf (aA2 (b2 gNe (f1 aF7 (look 0)) (f1 aF7 (look 1)))) (aAi (aB7 (con (.bl false))) aAp) aAp [some (.sh x),some (.sh x),none]=some (.nx [some (.sh x),some (.sh x),none]):=by
  rcases hx with rfl | rfl<;>simp[sIf,aA2,b2,f1,aF7,look,gNe,eqF,bnd,ok,lft,aVz,SV.cur,aAp]
 have d4:test (bL5 ["tuple","list"] (look 1)) [some (.sh x),some (.sh x),none]=ok true:=by rcases hx with rfl | rfl<;>rfl
 unfold aPc;rw[aAg d1];have d5: ∀G,aAi (sIf (test (bL5 ["tuple","list"] (look 1))) (aAi (sIf (aA2 (b2 gNe (f1 aF7 (look 0)) (f1 aF7 (look 1)))) (aAi (aB7 (con (.bl false))) aAp) aAp) (aAi (aEt (f1 aF7 (look 1)) (gN 2) (aAi (sIf (aM1 (test (app (aEe k) (aAe (b2 gIx (look 0) (look 2)) (aAe (b2 gIx (look 1) (look 2)) aA3))))) (aAi (aB7 (con (.bl false))) aAp) aAp) aAp)) (aAi (aB7 (con (.bl true))) aAp))) aAp) G [some (.sh x),some (.sh x),none]=some (.rt (.bl true)):=by
  intro G
  apply aBf
  rw[aMy d4,aAg d3,aAg e];rfl
 rw[d5];rfl
theorem bGa {k:Nat}(N:List Str)(hN:N.length=3): ∀ds r,aEe (k+1) ds=some r->∃d,r= .ok d/\aAn (aPc (aEe k) (aBg N ds))=ok d:=by
 intro ds r h;unfold aEe at h;split at h
 ·rename_i x y
  split at h
  ·rename_i hh
   obtain⟨rfl,hp,hd⟩:=hh;have e:=Option.some.inj h;subst e;refine⟨.bl true,rfl,?_⟩;have e0:aBg N [x,x]=[some (.sh x),some (.sh x),none]:=by unfold aBg;rw[hN];rfl
   rw[e0];cases x with
   | non=>rfl
   | bl b=>cases b<;>rfl
   | int i=>
    simp[aPc,aAi,sIf,aB7,aA2,b2,gNe,gIs,gEq,eqF,isi,bL5,look,lft,bnd,orB,aV0,aVz,test,tru,tyN,isB,bL0,aAn,SV.cur,ok,con,bDw,aAp]
   | str i=>
    simp[aPc,aAi,sIf,aB7,aA2,b2,gNe,gIs,gEq,eqF,isi,bL5,look,lft,bnd,orB,aV0,aVz,test,tru,tyN,isB,bL0,aAn,SV.cur,ok,con,bDw,aAp]
   | obj C fs=>simp[D.pl] at hp
   | dk kvs=>simp[D.pl] at hp
   | dt kvs=>simp[D.pl] at hp
   | exc C=>simp[D.pl] at hp
   | set ss=>simp[D.pl] at hp
   | tup xs=>
    simp only[D.pl,Bool.and_eq_true,decide_eq_true_eq] at hp;exact aYe (.inl rfl) hp.1 hp.2 (by simp only[D.dep] at hd;omega)
   | lst xs=>
    simp only[D.pl,Bool.and_eq_true,decide_eq_true_eq] at hp;exact aYe (.inr rfl) hp.1 hp.2 (by simp only[D.dep] at hd;omega)
  ·cases h
 ·cases h
open Classical in
def tt (S:List D->Prop):List D->M D:=fun ds=>if S ds then ok (.bl true) else none
theorem bRk {S:List D->Prop}{ds:List D}(h:S ds):tt S ds=ok (.bl true):=by unfold tt;rw[if_pos h]
theorem bIk {S:List D->Prop}{ds:List D}{r:Except Addr D}(h:tt S ds=some r):S ds/\r= .ok (.bl true):=by
 unfold tt at h;split at h
 ·rename_i q;exact⟨q,(Option.some.inj h).symm⟩
 ·cases h
theorem intBits_le {a:Int}{k:Nat}(h:a.natAbs<2^k):Builtin.Int.intBits a<=k:=by
 unfold Builtin.Int.intBits;split
 ·exact Nat.zero_le _
 ·rename_i q
  have hz:a.natAbs≠0:=by intro z;apply q;simp_all
  have:=(Nat.log2_lt hz).mpr h;omega
theorem aW8 {i j:Int}(hi:i.natAbs<2^1048576)(hj:j.natAbs<2^1048576):aM5 i j=true:=by
 unfold aM5;rw[Bool.and_eq_true];exact⟨decide_eq_true (intBits_le hi),decide_eq_true (intBits_le hj)⟩
theorem aF1 {n m k:Nat}(h:n<2^m)(q:m<=k):n<2^k:=Nat.lt_of_lt_of_le h (Nat.pow_le_pow_right (by decide) q)
def fAt:List D->M D
 | [.lst xs,.int k]=>if 0<=k then (if k<xs.length then (match xs[k.toNat]? with | some d=>ok d | none=>none) else ok (.int 0)) else none
 | _=>none
theorem bMn: ∀ds r,fAt ds=some r->ds.length=2:=by
 intro ds r h;unfold fAt at h;split at h
 ·rfl
 ·cases h
def atZ (ns:List Int)(k:Nat):Int:=ns.getD k 0
theorem bH3 (ns:List Int)(k:Nat):fAt [.lst (ns.map D.int),.int k]=ok (.int (atZ ns k)):=by
 show (if 0<=(k:Int) then (if (k:Int)<(ns.map D.int).length then (match (ns.map D.int)[((k:Int)).toNat]? with | some d=>ok d | none=>none) else ok (.int 0)) else none)=_;rw[if_pos (by omega),Int.toNat_natCast,List.length_map];unfold atZ;by_cases h:k<ns.length
 ·rw[if_pos (by omega),List.getElem?_map,List.getElem?_eq_getElem h]
  simp[List.getD_eq_getElem?_getD,List.getElem?_eq_getElem h]
 ·rw[if_neg (by omega)]
  simp[List.getD_eq_getElem?_getD,List.getElem?_eq_none (Nat.le_of_not_lt h)]
def bMp:Rho->Option Out:=
  (aAi (sIf (aA2 (b2 gLt (look 1) (f1 aF7 (look 0)))) (aAi (aB7 (b2 gIx (look 0) (look 1)))
  aAp) aAp)
  (aAi (aB7 (con (.int 0)))
  aAp))
theorem bQz (N:List Str)(hN:N.length=2): ∀ds r,fAt ds=some r->∃d,r= .ok d/\aAn (bMp (aBg N ds))=ok d:=by
 intro ds r h;unfold fAt at h;split at h
 ·rename_i xs k
  have e0:aBg N [.lst xs,.int k]=[some (.sh (.lst xs)),some (.sh (.int k))]:=by unfold aBg;rw[hN];rfl
  rw[e0];split at h
  ·rename_i h0
   split at h
   ·rename_i hk
    split at h
    ·rename_i d hd
     cases h;refine⟨d,rfl,?_⟩;have t1:aA2 (b2 gLt (look 1) (f1 aF7 (look 0))) [some (.sh (.lst xs)),some (.sh (.int k))]=ok true:=by
      show ok (decide (k<(xs.length:Int)))=ok true;rw[decide_eq_true hk]
     have t2:b2 gIx (look 0) (look 1) [some (.sh (.lst xs)),some (.sh (.int k))]=ok d:=by
      show (match atI xs k with | some d=>ok d | none=>none)=ok d;have e:k=((k.toNat:Nat):Int):=by omega
      have:atI xs k=some d:=by rw[e];exact aPm hd
      rw[this]
     unfold bMp;rw[aBf (d:=d)]
     ·rfl
     ·rw[aMy t1,aBf (aBp t2)]
    ·cases h
   ·rename_i hk
    cases h;refine⟨_,rfl,?_⟩;have t1:aA2 (b2 gLt (look 1) (f1 aF7 (look 0))) [some (.sh (.lst xs)),some (.sh (.int k))]=ok false:=by
     show ok (decide (k<(xs.length:Int)))=ok false;rw[decide_eq_false hk]
    unfold bMp;rw[aAg (ρ':=[some (.sh (.lst xs)),some (.sh (.int k))])]
    ·rfl
    ·rw[aJ9 t1];rfl
  ·cases h
 ·cases h
theorem bFi {m:Str}{FM:Addr->Option (List D->M D)}{fo:Rho->M D}{g:Rho->M (List D)}{ρ:Rho}{C:Addr}{fs:List (Str×D)}{F:List D->M D}{ds:List D}(h1:fo ρ=ok (.obj C fs))(h2:FM C=some F)(h3:fs.lookup m=none)(h4:g ρ=ok ds):
  aTn m FM fo g ρ=F (.obj C fs::ds):=by
 unfold aTn;rw[h1,aCx]
 dsimp only
 rw[h2,h3]
 dsimp only
 rw[h4,aCx]
theorem bEf {cs:Addr->Bool}{f:Str}{fo:Rho->M D}{ρ:Rho}{C:Addr}{fs:List (Str×D)}{d:D}(h1:fo ρ=ok (.obj C fs))(h2:cs C=true)(h3:fs.lookup f=some d):fld cs f fo ρ=ok d:=by
 unfold fld;rw[h1,aCx]
 dsimp only
 rw[if_pos h2,h3]
theorem aBj {F:List D->M D}{g:Rho->M (List D)}{ρ:Rho}{ds:List D}(h:g ρ=ok ds):app F g ρ=F ds:=by
 unfold app;rw[h,aCx]
theorem aAf {f:Rho->M D}{g:Rho->M (List D)}{ρ:Rho}{d:D}{ds:List D}(h1:f ρ=ok d)(h2:g ρ=ok ds):aAe f g ρ=ok (d::ds):=by
 unfold aAe;rw[h1,aCx,h2,aCx]
theorem aAs {ρ:Rho}:aA3 ρ=ok []:=rfl
theorem bPl {g:Rho->M (List D)}{ρ:Rho}{ds:List D}(h:g ρ=ok ds)(hl:ds.length<=1000:=by simp):mkL g ρ=ok (.lst ds):=by
 unfold mkL;rw[h,aCx,if_pos hl]
theorem aGu {g:D->D->M D}{fa fb:Rho->M D}{ρ:Rho}{x y:D}{r:M D}(h1:fa ρ=ok x)(h2:fb ρ=ok y)(h3:g x y=r):b2 g fa fb ρ=r:=by
 unfold b2;rw[h1,aCx,h2,aCx,h3]
theorem bBh {f:Rho->M D}{ρ:Rho}{d:D}{b:Bool}(h:f ρ=ok d)(q:tru d=ok b):test f ρ=ok b:=by unfold test;rw[h,aCx,q]
theorem aEa {f:Rho->M D}{ρ:Rho}{b:Bool}(h:f ρ=ok (.bl b)):aA2 f ρ=ok b:=by unfold aA2;rw[h,aCx];rfl
theorem bC8 {f:Rho->M Bool}{ρ:Rho}{b:Bool}(h:f ρ=ok b):aM1 f ρ=ok (!b):=by unfold aM1;rw[h,aCx]
theorem aJh {f:Rho->M D}{F:Rho->Option Out}{ρ:Rho}(h:f ρ=ok (.bl true)):sIf (aM1 (test f)) F aAp ρ=some (.nx ρ):=by
 rw[aJ9 (bC8 (bBh h rfl))];rfl
theorem bMk {P:Program}{w:World}{K:PySem.W.Frag}{mg:Str->Option Value}{base:Heap}{k:Nat}{f:Addr}{fd:FuncData}{ps:List Str}{F:List D->M D}(h: ∀ds,F ds=none):FnD P w K mg base k f fd ps F:=by
 have no: ∀vs H Q E,¬spD K ps.length F vs H Q E:=fun vs H Q E ⟨ds,_,_,q⟩=>by rw[h ds] at q;exact q
 exact⟨fun vs H Q E q=>absurd q (no vs H Q E),fun A outer s H args us vs Q E _ _ _ _ q=>absurd q (no vs H Q E)⟩
def num (c:Int):Int:=if c%3=0 then c/3%4 else if c%3=1 then c/3%100000000000000000000*1000000000000000000000000000000000000000+c%7 else c/3%1000000000000000000000000000000000000000000000000000000000000
theorem aYn (c:Int):0<=num c/\num c<1000000000000000000000000000000000000000000000000000000000000:=by
 unfold num;split
 ·omega
 ·split<;>omega
def aGl:List D->M D
 | [.int c]=>ok (.int (num c))
 | _=>none
theorem bC9 {i j:Int}(h1:0<=i)(h2:i<1000000000000000000000000000000000000000000000000000000000000)(h3:0<=j)(h4:j<1000000000000000000000000000000000000000000000000000000000000):aM5 i j=true:=by
 have q: ∀z:Int,0<=z->z<1000000000000000000000000000000000000000000000000000000000000->z.natAbs<2^1048576:=fun z a b=>aF1 (m:=200) (by omega) (by decide)
 exact aW8 (q i h1 h2) (q j h3 h4)
theorem aXk: ∀ds r,aGl ds=some r->ds.length=1:=by
 intro ds r h;unfold aGl at h;split at h
 ·rfl
 ·cases h
abbrev cxC (X:Cx)(scope:Scope)(cl:List (Str×Addr))(N:List Str)(C:Addr)(s₀:Shared)(H₀:Hp)(ex:List Addr):Cx:=
 {X with env:=compEnvC scope cl C X.env,N:=N,s₀:=s₀,H₀:=H₀,outer:=X.stack,ex:=ex,fn:=fun _=>false,pn:=[],xe:=fun _ _=>False}
def aOs (cl:List (Str×Addr))(env:Env):Bool:=cl.all fun p=>(env.cells.lookup p.1==some p.2)&&(env.kindOf p.1==some .cell || env.kindOf p.1==some .free)
def aW7 (N N':List Str)(sc:Scope):Bool:=(List.range N.length).all fun i=>match N'[i]? with
 | some x=>((N[i]? ==some x)&&(sc.names.lookup x==some .cell || sc.names.lookup x==some .free)) ||(sc.names.lookup x==none)
 | none=>false
def aU6 (cl:List (Str×Addr))(sc:Scope):Bool:=sc.names.all fun p=>(p.2 != .cell&&p.2 != .free) ||(cl.lookup p.1).isSome
theorem lookup_mem {α β:Type}[BEq α][LawfulBEq α]: ∀{l:List (α×β)} {x:α} {b:β},l.lookup x=some b->(x,b)∈l
 | [],_,_,h=>by simp at h
 |(y,c)::l,x,b,h=>by
  rw[List.lookup_cons] at h;cases q:x==y with
  | true=>rw[q] at h;simp at h;subst h;have:=LawfulBEq.eq_of_beq q;subst this;exact List.mem_cons_self
  | false=>rw[q] at h;exact List.mem_cons_of_mem _ (lookup_mem h)
theorem aL5 {prog:Program}{w:World}{A:Around}{R:Result->Shared->Prop}{s:Shared}{elt target iter:Expr}{ifs:List Expr}{scope:Scope}{pos:Pos}{it acc:Value}{env:Env}(I:Nat->Shared->Prop)
  (turn: ∀n s,I n s->wpAny (model prog w) A (pyNext it) (fun r s₁=>match r with
   | none=>R (.ok .next) s₁
   | some v=>wpAny (model prog w) A (letOwnedTupleGo target it v) (fun _ s₁'=>wpAny (model prog w) A (assign target env v) (fun _ s₂=>
     wpAny (model prog w) A (forIn ifs true fun c r=>if r=true then do let ok<-isTrue c env (eval c env);pure (ForInStep.yield ok) else pure (ForInStep.yield r)) (fun ok s₃=>
      if ok=true then wpAny (model prog w) A (eval elt env) (fun x s₄=>
       wpAny (model prog w) A (call (.builtin "list.append") [acc,x]) (fun _ s₅=> ∃m,m<n/\I m s₅) (fun _ _=>False) s₄) (fun _ _=>False) s₃
      else∃m,m<n/\I m s₃) (fun _ _=>False) s₂) (fun _ _=>False) s₁') (fun _ _=>False) s₁) (fun _ _=>False) s)
  (n:Nat) (h:I n s):codeAny (model prog w) A (.compLoop (.ListComp elt [⟨target,iter,ifs,0⟩] scope pos) 0 it acc env) R s:=by
 refine codeAny_loop rfl I (fun n s hI=> ?_) n h;show wpAny _ A ((compTurn (.ListComp elt [⟨target,iter,ifs,0⟩] scope pos) 0 it acc env).onRaise (fun x=>do noteFrame x env;theTreesLotGoes x)) _ _ s;refine wpAny_noted ?_;rw[compTurn_list];refine wpAny_bind (wpAny_standAt (wpAny_bind (wpAny_mono (turn n s hI) (fun r s₁ h₁=> ?_) fun _ _ h'=>h'.elim)));cases r with
 | none=>exact wpAny_pure h₁
 | some v=>
  refine wpAny_bind (wpAny_mono h₁ (fun _ s₁' h₁'=> ?_) fun _ _ h'=>h'.elim);refine wpAny_bind (wpAny_mono h₁' (fun _ s₂ h₂=>wpAny_bind (wpAny_mono h₂ (fun ok s₃ h₃=> ?_) fun _ _ h'=>h'.elim)) fun _ _ h'=>h'.elim);cases ok with
  | false=>exact wpAny_pure ⟨rfl,h₃⟩
  | true=>
   exact wpAny_bind (wpAny_bind (wpAny_mono h₃ (fun x s₄ h₄=>wpAny_bind (wpAny_mono h₄ (fun _ s₅ h₅=>wpAny_pure (wpAny_pure ⟨rfl,h₅⟩)) fun _ _ h'=>h'.elim)) fun _ _ h'=>h'.elim))
def PIf (X:Cx)(B:Hp)(ifs:List Expr)(ft:Rho->M Bool):Prop:=(ifs=[]/\ft=fun _=>ok true)\/∃c,ifs=[c]/\PDT X B c ft
def aZ5 (σ:St):List Nat->List V->St
 | k::ks,v::vs=>aZ5 (σ.set k (some v)) ks vs
 | _,_=>σ
def bF8 (ρ:Rho):List Nat->List D->Rho
 | k::ks,d::ds=>bF8 (ρ.set k (some (.sh d))) ks ds
 | _,_=>ρ
def PDH (X:Cx)(tg:Expr)(ks:List Nat)(G:D->Option (List D)):Prop:=
 PG X tg (fun v σ H Q=> ∃d es,Is X.K H d v/\G d=some es/\∀vs,IsL X.K H es vs->vs.length=ks.length->Q (aZ5 σ ks vs) H)
def aMp (ks:List Nat)(G:D->Option (List D))(ft:Rho->M Bool)(fe:Rho->M D):List D->Rho->M (List D)
 | [],_=>ok []
 | d::ds,ρ=>match G d with
  | none=>none
  | some es=>match ft (bF8 ρ ks es) with
   | some (.ok true)=>(match fe (bF8 ρ ks es) with
    | some (.ok r)=>if r.imm=true then bnd (aMp ks G ft fe ds ρ) fun rs=>ok (r::rs) else none
    | _=>none)
   | some (.ok false)=>aMp ks G ft fe ds ρ
   | _=>none
def ext (m:Nat)(ρ:Rho):Rho:=ρ++List.replicate m none
def cmp (m:Nat)(it:Rho->M (List D))(ks:List Nat)(G:D->Option (List D))(ft:Rho->M Bool)(fe:Rho->M D):Rho->M D:=fun ρ=>
 bnd (it ρ) fun ds=>if ds.length<=1000000 then bnd (aMp ks G ft fe ds (ext m (free ρ))) fun rs=>ok (.lst rs) else none
theorem aL6 {ks:List Nat}{G:D->Option (List D)}{ft:Rho->M Bool}{fe:Rho->M D}: ∀{ds:List D} {ρ:Rho} {c:Addr},aMp ks G ft fe ds ρ≠some (.error c)
 | [],ρ,c=>fun h=>by cases h
 | d::ds,ρ,c=>fun h=>by
  unfold aMp at h;split at h
  ·cases h
  ·split at h
   ·split at h
    ·split at h
     ·cases q:aMp ks G ft fe ds ρ with
      | none=>rw[q] at h;cases h
      | some z=>
       cases z with
       | error c'=>exact aL6 q
       | ok z=>rw[q] at h;cases h
     ·cases h
    ·cases h
   ·exact aL6 h
   ·cases h
theorem aO6: ∀(a b:List D),aIm (a++b)=(aIm a&&aIm b)
 | [],b=>by simp[aIm]
 | d::a,b=>by
  show (d.imm&&aIm (a++b))=((d.imm&&aIm a)&&aIm b);rw[aO6 a b,Bool.and_assoc]
theorem aNv: ∀{ks:List Nat} {σ:St} {vs:List V},(aZ5 σ ks vs).length=σ.length
 | [],σ,vs=>by cases vs<;>rfl
 | k::ks,σ,[]=>rfl
 | k::ks,σ,v::vs=>by
  show (aZ5 (σ.set k (some v)) ks vs).length=_;rw[aNv,List.length_set]
theorem aYc: ∀{ks:List Nat} {σ:St} {vs:List V} {i:Nat},i∉ks->(aZ5 σ ks vs)[i]? =σ[i]?
 | [],σ,vs,i,_=>by cases vs<;>rfl
 | k::ks,σ,[],i,_=>rfl
 | k::ks,σ,v::vs,i,h=>by
  show (aZ5 (σ.set k (some v)) ks vs)[i]? =_;rw[aYc (fun z=>h (List.mem_cons_of_mem _ z)),List.getElem?_set_ne (fun z=>h (by rw[z];exact List.mem_cons_self))]
def Shr (K:PySem.W.Frag)(H:Hp)(ρ:Rho)(σ:St):Prop:=ρ.length=σ.length/\∀(i:Nat) (sv:SV),ρ[i]? =some (some sv)->∃d v,sv= .sh d/\σ[i]? =some (some v)/\Is K H d v
theorem Shr.rel {K:PySem.W.Frag}{H:Hp}{ρ:Rho}{σ:St}(h:Shr K H ρ σ):Rel K H ρ σ H:=by
 have e0:Off H (fun _=>none)=H:=by funext b;unfold Off;rw[if_neg (fun⟨i,e⟩=>nomatch e)]
 refine⟨fun _=>none,(by intro _ _ _ q;cases q),(by intro _ _ q;cases q),by rw[e0];exact Same.refl _,h.1,fun i sv q=> ?_⟩;obtain⟨d,v,rfl,e1,e2⟩:=h.2 i sv q;exact⟨v,e1,by rw[e0];exact e2⟩
theorem Shr.mono {K:PySem.W.Frag}{H H':Hp}{ρ:Rho}{σ:St}(e:Same H H')(h:Shr K H ρ σ):Shr K H' ρ σ:=⟨h.1,fun i sv q=>by
 obtain⟨d,v,e0,e1,e2⟩:=h.2 i sv q;exact⟨d,v,e0,e1,e2.mono e⟩⟩
theorem Shr.free {K:PySem.W.Frag}{B H:Hp}{ρ:Rho}{σ:St}(r:Rel K B ρ σ H):Shr K H (free ρ) σ:=by
 refine⟨?_,fun i sv q=> ?_⟩
 ·obtain⟨_,_,_,_,hl,_⟩:=r.freed;exact hl
 ·unfold PU.free at q
  rw[List.getElem?_map] at q;obtain⟨o,e1,e2⟩:=Option.map_eq_some_iff.mp q;cases o with
  | none=>cases e2
  | some sv0=>
   have e2':sv0.rel=sv:=Option.some.inj e2;subst e2';obtain⟨v,e3,e4⟩:=r.get e1;exact⟨sv0.cur,v,by cases sv0<;>rfl,e3,e4⟩
theorem Shr.more {K:PySem.W.Frag}{H:Hp}{ρ:Rho}{σ:St}(m:Nat)(h:Shr K H ρ σ):Shr K H (ext m ρ) (σ++List.replicate m none):=by
 refine⟨by unfold ext;simp[h.1],fun i sv e=> ?_⟩;have e':ρ[i]? =some (some sv):=by
  unfold ext at e;by_cases hi:i<ρ.length
  ·rw[List.getElem?_append_left hi] at e;exact e
  ·rw[List.getElem?_append_right (by omega),List.getElem?_replicate] at e
   split at e<;>cases e
 have hi:i<σ.length:=by rw[<-h.1];exact (List.getElem?_eq_some_iff.mp e').1
 obtain⟨d,v,e0,e1,e2⟩:=h.2 i sv e';exact⟨d,v,e0,by rw[List.getElem?_append_left hi];exact e1,e2⟩
theorem Shr.set {K:PySem.W.Frag}{H:Hp}{ρ:Rho}{σ:St}{k:Nat}{d:D}{v:V}(h:Shr K H ρ σ)(i:Is K H d v):Shr K H (ρ.set k (some (.sh d))) (σ.set k (some v)):=by
 refine⟨by rw[List.length_set,List.length_set,h.1],fun j sv e=> ?_⟩;by_cases q:j=k
 ·subst q
  have hj:j<ρ.length:=by
   have:=(List.getElem?_eq_some_iff.mp e).1
   rwa [List.length_set] at this
  rw[List.getElem?_set_self hj] at e;have e':=Option.some.inj (Option.some.inj e);exact⟨d,v,e'.symm,List.getElem?_set_self (by rw[<-h.1];exact hj),i⟩
 ·rw[List.getElem?_set_ne (Ne.symm q)] at e
  obtain⟨d',v',e0,e1,e2⟩:=h.2 j sv e;exact⟨d',v',e0,by rw[List.getElem?_set_ne (Ne.symm q)];exact e1,e2⟩
theorem Shr.bIq {K:PySem.W.Frag}{H:Hp}: ∀{ks:List Nat} {ρ:Rho} {σ:St} {ds:List D} {vs:List V},Shr K H ρ σ->IsL K H ds vs->Shr K H (bF8 ρ ks ds) (aZ5 σ ks vs)
 | [],ρ,σ,ds,vs,h,i=>by cases i<;>exact h
 | k::ks,ρ,σ,_,_,h,.nil=>h
 | k::ks,ρ,σ,d::ds,v::vs,h,.cons i r=>by
  show Shr K H (bF8 (ρ.set k (some (.sh d))) ks ds) (aZ5 (σ.set k (some v)) ks vs);exact Shr.bIq (ks:=ks) (h.set (k:=k) i) r
section
variable {X:Cx}{B:Hp}{scope:Scope}{cl:List (Str×Addr)}{N':List Str}{m:Nat}
theorem aX4 {env:Env}(hf:aU6 cl (relabel scope env)=true){x:Str}{k:NameKind}(hk:(relabel scope env).names.lookup x=some k)(hc:k= .cell\/k= .free): ∃c,cl.lookup x=some c:=by
 have h:=List.all_eq_true.mp hf _ (lookup_mem hk)
 dsimp only at h
 rw[Bool.or_eq_true] at h;rcases h with h | h
 ·rcases hc with rfl | rfl<;>simp at h
 ·exact Option.isSome_iff_exists.mp h
theorem bA2 {pins:List (Addr×Obj)}{σ:St}{H:Hp}{s:Shared}{fp:List Addr}{h₁:Heap}{tk:Nat}(I:Inv X pins σ H s)(hkind:scope.kind= .function)(hcl:aOs cl X.env=true)(hnm:aW7 X.N N' (relabel scope X.env)=true)(hf:aU6 cl (relabel scope X.env)=true)(hl:N'.length=X.N.length+m)
  (hfp: ∀b∈fp,bIf X pins H b/\b<s.heap.objs.size) (hk: ∀b o,s.heap.get? b=some o->h₁.get? b=some o) {mm:Str->Option Value} (hns:h₁.Ns s.heap.objs.size mm):
  Inv (cxC X scope cl N' s.heap.objs.size s H fp) [] (σ++List.replicate m none) H {s with heap:=h₁,toks:=tk}:=by
 have sub: ∀x c,cl.lookup x=some c->X.env.cells.lookup x=some c/\(X.env.kindOf x=some .cell\/X.env.kindOf x=some .free):=fun x c e=>by
  have h:=List.all_eq_true.mp hcl _ (lookup_mem e)
  dsimp only at h
  rw[Bool.and_eq_true,Bool.or_eq_true] at h;exact⟨beq_iff_eq.mp h.1,h.2.elim (fun z=> .inl (beq_iff_eq.mp z)) fun z=> .inr (beq_iff_eq.mp z)⟩
 have bMg: ∀b∈fp,b∉frs X.stack:=fun b hb z=>by
  rcases List.mem_cons.mp (I.aYa b z) with e | e
  ·exact (hfp b hb).1.2.1 e
  ·exact (hfp b hb).1.2.2.1 e
 refine⟨⟨I.ok.mod,hkind,I.ok.glob,I.ok.blt,Nat.le_refl _,fun x y c h1 h2=>I.ok.inj x y c (sub x c h1).1 (sub y c h2).1,fun x hx=> ?_,(fun x c h=>by cases h),I.ok.hd,I.ok.frames,.inl rfl,fun b hb=> ?_,I.bs,Nat.le_trans I.ok.bsz I.sz,fun b o e hb=> ?_,bMg,I.stack,I.aLo⟩,
  rfl,I.bare,Un.kept hk,⟨mm,hns,fun i x v h1 h2 h3=> ?_⟩,fun x c e=> ?_,I.hok.fresh (Nat.le_refl _),fun x c e=>I.aI4 x c (sub x c e).1,(fun p hp=>by cases hp),I.hok.kept hk,?_⟩
 ·rcases hx with hx | hx
  ·exact aX4 hf hx (.inl rfl)
  ·exact aX4 hf hx (.inr rfl)
 ·exact⟨Nat.ne_of_lt (hfp b hb).2,fun x c e=>(hfp b hb).1.2.2.2.2.1 x c (sub x c e).1⟩
 ·rcases (hfp b hb).1.2.2.2.1 with z | z
  ·exact I.ok.bI5 b o e z
  ·exact absurd (Nat.lt_of_lt_of_le (Heap.lt_size e) (Nat.le_trans I.ok.bsz z)) (Nat.lt_irrefl _)
 ·--a name of the outer def
  have hi:i<σ.length:=by
   by_cases hi:i<σ.length
   ·exact hi
   ·rw[List.getElem?_append_right (by omega),List.getElem?_replicate] at h2
    split at h2<;>cases h2
  rw[List.getElem?_append_left hi] at h2;have hiN:i<X.N.length:=by rw[<-I.len];exact hi
  have hn:=List.all_eq_true.mp hnm i (List.mem_range.mpr hiN)
  (try dsimp only at h1)
  (try dsimp only at hn)
  rw[h1] at hn
  (try dsimp only at hn)
  rw[Bool.or_eq_true] at hn;have bVa: ∃k,(relabel scope X.env).names.lookup x=some k:=by
   rcases h3 with h | h | h
   ·exact⟨_,h⟩
   ·exact⟨_,h⟩
   ·exact⟨_,h⟩
  obtain⟨kx,hkx⟩:=bVa;rcases hn with hn | hn
  ·rw[Bool.and_eq_true,Bool.or_eq_true] at hn
   have hXN:X.N[i]? =some x:=beq_iff_eq.mp hn.1;have hcf:(relabel scope X.env).names.lookup x=some .cell\/(relabel scope X.env).names.lookup x=some .free:=hn.2.elim (fun z=> .inl (beq_iff_eq.mp z)) fun z=> .inr (beq_iff_eq.mp z)
   obtain⟨c,hc⟩: ∃c,cl.lookup x=some c:=hcf.elim (fun z=>aX4 hf z (.inl rfl)) fun z=>aX4 hf z (.inr rfl)
   obtain⟨m0,hm0,lk⟩:=I.loc;have hk0:=(sub x c hc).2;obtain⟨u,ru,lu⟩:=lk i x v hXN h2 (hk0.elim (fun z=> .inr (.inl z)) fun z=> .inr (.inr z));refine⟨u,ru,.inr ⟨hcf,c,hc,?_⟩⟩;rcases lu with⟨z1,_⟩ |⟨_,c',e1,o,ho,hd⟩
   ·rcases hk0 with z | z<;>rw[z] at z1<;>cases z1
   ·rw[(sub x c hc).1] at e1
    cases e1;exact⟨o,hk _ _ ho,hd⟩
  ·have e:=beq_iff_eq.mp hn
   rw[hkx] at e;cases e
 ·obtain⟨v,z⟩:=I.cell x c (sub x c e).1
  obtain⟨o,ho,hd⟩:=z;exact⟨v,o,hk _ _ ho,hd⟩
 ·show (σ++List.replicate m none).length=N'.length
  rw[List.length_append,List.length_replicate,I.len,hl]
variable {x:Str}{tg iter elt:Expr}{ifs:List Expr}{pos:Pos}{ks:List Nat}{G:D->Option (List D)}{ft:Rho->M Bool}{fe:Rho->M D}{it:Rho->M (List D)}
def PIt (X:Cx)(B:Hp)(tg iter:Expr)(it:Rho->M (List D)):Prop:=
 ∀(pins:List (Addr×Obj)) (s:Shared) (σ:St) (H:Hp) (R:It->Hp->Prop) (ρ:Rho),Inv X pins σ H s->Rel X.K B ρ σ H->
  Res X σ H (fun ds=> ∀J H1,Same H H1->ItD X.K J ds H1->R J H1) (it ρ)->
  wpAny (model X.prog X.w) X.A (eval iter X.env) (fun v s1=>wpAny (model X.prog X.w) X.A (pyIter v) (PIE X pins σ tg R) X.xe s1) X.xe s
def bT5 (X:Cx)(pins:List (Addr×Obj))(C:Addr):Prop:=(C∈X.ex\/X.s₀.heap.objs.size<=C)/\C≠X.env.locals/\(∀x c,X.env.cells.lookup x=some c->c≠C)/\∀p∈X.pn++pins,p.1≠C
theorem none_of {H H':Hp}{a:Addr}(e:Same H H')(h:H' a=none):H a=none:=by
 cases q:H a with
 | none=>rfl
 | some o=>rw[e _ _ q] at h;cases h
theorem aPg (hclos:closureFor scope X.env=pure cl)(hcell: ∀y∈scope.names,y.2≠ .cell)(hkind:scope.kind= .function)(hnames: ∀y∈scope.names,y.2= .local->scope.names.lookup y.1=some .local)(hcl:aOs cl X.env=true)
  (hnm:aW7 X.N N' (relabel scope X.env)=true) (hf:aU6 cl (relabel scope X.env)=true) (hl:N'.length=X.N.length+m) (hks: ∀k∈ks,X.N.length<=k) (hcm:X.calm=true) (hi:PIt X B tg iter it)
  (hg: ∀C s₀ H₀ ex,PDH (cxC X scope cl N' C s₀ H₀ ex) tg ks G) (ht: ∀C s₀ H₀ ex B,PIf (cxC X scope cl N' C s₀ H₀ ex) B ifs ft) (he: ∀C s₀ H₀ ex B,PD (cxC X scope cl N' C s₀ H₀ ex) B elt fe)
  (hs: ∀x,foldedSetIterable iter X.env x=pure x) {p0:Pos} {use:Option (Value->Sem Unit)} {Q':Value->Shared->Prop} {Kp:List D->Prop} {pins:List (Addr×Obj)} {s:Shared} {σ:St} {H:Hp} {ρ:Rho} (I:Inv X pins σ H s) (r:Rel X.K B ρ σ H) (h:Res X σ H (fun d=> ∀rs,d= .lst rs->Kp rs) (cmp m it ks G ft fe ρ))
  (fin: ∀(Dd Cc:Addr) (s3:Shared) (Hj:Hp) (rs:List D),(∀h',Heap.SameBut Cc s3.heap h'->Inv X pins σ Hj {s3 with heap:=h'})->(∃m,s3.heap.Ns Cc m)->bT5 X pins Cc->Hj Cc=none->Same H Hj->H Dd=none->aIm rs=true->(∃vs,Hj Dd=some (.lst vs)/\IsL X.K Hj rs vs)->Kp rs->
   compPost (model X.prog X.w) X.A X.xe use Q' (.ref Dd) Cc (.ok .next) s3):
  wpAny (model X.prog X.w) X.A (comprehension (.ListComp elt [⟨tg,iter,ifs,0⟩] scope pos) scope X.env p0 (newList []) false (eval iter X.env) use) Q' X.xe s:=by
 refine wpAny_comprehension_free (use:=use) rfl hs hclos hkind hnames ?_;show wpAny (model X.prog X.w) X.A (eval iter X.env) _ X.xe s;refine thn (hi pins s σ H (fun J H1=> ∃ds,Same H H1/\ItD X.K J ds H1/\ds.length<=1000000/\∃rs,aMp ks G ft fe ds (ext m (free ρ))=ok rs/\Kp rs) ρ I r ((Res.bind h).imp fun ds h1 J H1 e1 i1=> ?_)) fun v s1 h1=>thn h1 fun itv s2 h2=> ?_
 ·split at h1
  ·rename_i hlen
   refine⟨ds,e1,i1,hlen,?_⟩;have h2:=Res.bind h1;cases q:aMp ks G ft fe ds (ext m (free ρ)) with
   | none=>rw[q] at h2;exact False.elim h2
   | some z=>
    cases z with
    | error c=>exact absurd q aL6
    | ok rs=>rw[q] at h2;exact⟨rs,rfl,h2 rs rfl⟩
  ·exact False.elim h1
 obtain⟨ia,fp,tn,J,H2,rfl,I2,T,st2,f2,ds,e1,hJ,hlen,rs,hrs,hQ⟩:=h2;have bUk:Shr X.K H2 (ext m (free ρ)) (σ++List.replicate m none):=((Shr.free r).mono e1).more m;have fpl: ∀b∈fp,b<s2.heap.objs.size:=fun b hb=>let ⟨o,ho,_⟩:=T.obj 0 _ st2 b hb;Heap.lt_size ho
 refine wpAny_newObj_type (wpAny_newFunctionEnv hcell (by intro y hy;simp at hy) (fun h₁ hns₁ hsb₁=> ?_) hkind)
 dsimp only at hns₁ hsb₁⊢
 have I0:Inv X pins σ (upd H2 s2.heap.objs.size (.lst [])) {s2 with heap:=s2.heap.push {cls:= .type "list",dict:=none,data:= .seq ([]:List Value).toArray}}:=I2.bTx (t':=s2.toks) (its:=[]) .nil (Nat.zero_le _);have hsz:(s2.heap.push {cls:= .type "list",dict:=none,data:= .seq ([]:List Value).toArray}).objs.size=s2.heap.objs.size+1:=Heap.size_push _ _;generalize hP:s2.heap.push {cls:= .type "list",dict:=none,data:= .seq ([]:List Value).toArray}=P2 at hns₁ hsb₁ I0 hsz⊢;generalize hD:s2.heap.objs.size=Dd at*;generalize hC:P2.objs.size=Cc at*;have bVl:Dd≠Cc:=by omega
 have bS4: ∀b o,P2.get? b=some o->h₁.get? b=some o:=fun b o e=>hsb₁.extBut b o (Nat.ne_of_lt (by rw[<-hC];exact Heap.lt_size e)) (Heap.get?_push_of_some _ e)
 have bS3: ∀b o,s2.heap.get? b=some o->P2.get? b=some o:=fun b o e=>by rw[<-hP];exact Heap.get?_push_of_some _ e
 have nD2:H2 Dd=none:=I2.hok.fresh (by omega);have nC2:H2 Cc=none:=I2.hok.fresh (by omega);have sm0:Same H2 (upd H2 Dd (.lst [])):=aA4 nD2 _;have fp0: ∀b∈fp,bIf X pins (upd H2 Dd (.lst [])) b/\b<P2.objs.size:=fun b hb=>by
  have hb':=fpl b hb;obtain⟨f0,f1⟩:=f2 b hb;exact⟨⟨by rw[aA6 (Nat.ne_of_lt hb')];exact f0,f1⟩,by rw[hC,hsz];exact Nat.lt_succ_of_lt hb'⟩
 have IC:=bA2 (tk:=s2.toks+([]:List (Str×Value)).length) I0 hkind hcl hnm hf hl fp0 bS4 (by rw[hC];exact hns₁);rw[hC] at IC;have loop: ∀s₄:Shared,s₄={s2 with heap:=h₁,toks:=s2.toks+([]:List (Str×Value)).length}->
   codeAny (model X.prog X.w) X.A (.compLoop (.ListComp elt [⟨tg,iter,ifs,0⟩] scope pos) 0 (.ref ia) (.ref Dd) (compEnvC scope cl Cc X.env)) (compPost (model X.prog X.w) X.A X.xe use Q' (.ref Dd) Cc) s₄:=by
  rintro s₄ rfl
  refine aL5 (fun n s'=> ∃j Hj vs rj rest,n=ds.length+1-j/\j<=ds.length/\Inv (cxC X scope cl N' Cc {s2 with heap:=P2} (upd H2 Dd (.lst [])) fp) [] (σ++List.replicate m none) Hj s'/\tn j s'.heap/\(∀b∈fp,Hj b=none)/\
   Hj Dd=some (.lst vs)/\IsL X.K Hj rj vs/\aIm rj=true/\rj.length<=j/\Same H2 Hj/\aMp ks G ft fe (ds.drop j) (ext m (free ρ))=ok rest/\rs=rj++rest) ?_ (ds.length+1)
   ⟨0,_,[],[],rs,rfl,Nat.zero_le _,IC,T.keep _ _ _ st2 fun b hb o e=>bS4 _ _ (bS3 _ _ e),fun b hb=>(fp0 b hb).1.1,aAy,.nil,rfl,Nat.le_refl _,sm0,by simpa using hrs,rfl⟩
  rintro n s' ⟨j,Hj,vs,rj,rest,rfl,hj,IJ,stj,frj,hDj,ilj,imj,hlj,smj,hrest,bS2⟩
  have fpX: ∀{H':Hp},(∀b∈fp,H' b=none)->∀b∈fp,bIf (cxC X scope cl N' Cc {s2 with heap:=P2} (upd H2 Dd (.lst [])) fp) [] H' b:=fun hn b hb=>
   ⟨hn b hb,(IJ.ok.exf b hb).1,IJ.ok.bJo b hb,.inl hb,(IJ.ok.exf b hb).2,(fun p hp=>by cases hp)⟩
  by_cases hlt:j<ds.length
  ·have hd:ds.drop j=ds[j]::ds.drop (j+1):=List.drop_eq_getElem_cons hlt
   rw[hd] at hrest;obtain⟨q0,q1,q2,q3⟩:(∃es,G ds[j]=some es)/\True/\True/\True:=by
    refine⟨?_,trivial,trivial,trivial⟩;cases q:G ds[j] with
    | none=>unfold aMp at hrest;rw[q] at hrest;cases hrest
    | some es=>exact⟨es,rfl⟩
   obtain⟨es,hG⟩:=q0;unfold aMp at hrest;rw[hG] at hrest
   dsimp only at hrest
   refine thn (T.item (cxC X scope cl N' Cc {s2 with heap:=P2} (upd H2 Dd (.lst [])) fp) rfl rfl rfl hcm j [] s' _ Hj (fun _ _=>False) IJ (fpX frj) stj (hJ.go j Hj smj hlt)) fun r s3 ⟨u,hr,h4⟩=> ?_
   subst hr;refine thn h4 fun _ s5 ⟨xv,H5,I5,r5,y5,st5,fr5⟩=> ?_
   obtain⟨e5,d,e6,e7⟩:=hJ.yld j Hj xv H5 smj y5 hlt
   replace hDj:=e5 _ _ hDj
   replace ilj:=IsL.mono e5 ilj
   replace smj:=smj.trans e5
   have ed:ds[j]=d:=by rw[List.getElem?_eq_getElem hlt] at e6;exact Option.some.inj e6
   rw[ed] at hG;have I5':=I5.pinned (fpX fr5) (T.obj _ _ st5);rw[List.nil_append] at I5';refine thn (hg Cc {s2 with heap:=P2} (upd H2 Dd (.lst [])) fp _ s5 _ H5 xv u (fun σ6 H6=>H6=H5/\∃vs',IsL X.K H5 es vs'/\σ6=aZ5 (σ++List.replicate m none) ks vs') I5' r5 ⟨d,es,e7,hG,fun vs' iv' _=>⟨rfl,vs',iv',rfl⟩⟩) fun _ s6 ⟨σ6,H6,I6,q6⟩=> ?_
   obtain⟨rfl,vs',iv',rfl⟩:=q6;have bTj:Rel X.K H6 (bF8 (ext m (free ρ)) ks es) (aZ5 (σ++List.replicate m none) ks vs') H6:=(Shr.bIq (bUk.mono smj) iv').rel;have turn: ∀(s7:Shared) (H7:Hp) (vs7:List V) (r7 bGf:List D),Inv (cxC X scope cl N' Cc {s2 with heap:=P2} (upd H2 Dd (.lst [])) fp) (aQt fp s5.heap) (aZ5 (σ++List.replicate m none) ks vs') H7 s7->H7 Dd=some (.lst vs7)->IsL X.K H7 r7 vs7->aIm r7=true->r7.length<=j+1->Same H2 H7->
     aMp ks G ft fe (ds.drop (j+1)) (ext m (free ρ))=ok bGf->rs=r7++bGf->∃k,k<ds.length+1-j/\∃j' Hj vs rj rest,k=ds.length+1-j'/\j'<=ds.length/\Inv (cxC X scope cl N' Cc {s2 with heap:=P2} (upd H2 Dd (.lst [])) fp) [] (σ++List.replicate m none) Hj s7/\tn j' s7.heap/\(∀b∈fp,Hj b=none)/\
     Hj Dd=some (.lst vs)/\IsL X.K Hj rj vs/\aIm rj=true/\rj.length<=j'/\Same H2 Hj/\aMp ks G ft fe (ds.drop j') (ext m (free ρ))=ok rest/\rs=rj++rest:=by
    intro s7 H7 vs7 r7 bGf I7 a1 a2 a3 a4 a5 a6 a7;have pin: ∀b∈fp,∀o,s5.heap.get? b=some o->s7.heap.get? b=some o/\H7 b=none:=fun b hb o e=>
     let z:=I7.pin (b,o) (List.mem_append_right _ (aLx hb e));⟨z.1,z.2.1⟩
    refine⟨ds.length+1-(j+1),by omega,j+1,H7,vs7,r7,bGf,rfl,hlt,?_,T.keep _ _ _ st5 fun b hb o e=>(pin b hb o e).1,fun b hb=> ?_,a1,a2,a3,a4,a5,a6,a7⟩
    ·have I8:Inv (cxC X scope cl N' Cc {s2 with heap:=P2} (upd H2 Dd (.lst [])) fp) [] (aZ5 (σ++List.replicate m none) ks vs') H7 s7:=I7.aWq (fun p hp=>by cases hp)
     refine I8.weak (by rw[aNv]) fun i v e=> ?_
     rw[aYc]
     ·exact e
     ·intro hi
      have:=hks i hi;rw[List.getElem?_append_right (by rw[I2.len];exact this),List.getElem?_replicate] at e;split at e<;>cases e
    ·obtain⟨o,ho,_⟩:=T.obj _ _ st5 b hb
     exact (pin b hb o ho).2
   have tst:wpAny (model X.prog X.w) X.A (forIn ifs true fun c r=>if r=true then do let ok<-isTrue c (compEnvC scope cl Cc X.env) (eval c (compEnvC scope cl Cc X.env));pure (ForInStep.yield ok) else pure (ForInStep.yield r))
     (fun bb s7=> ∃H7,Inv (cxC X scope cl N' Cc {s2 with heap:=P2} (upd H2 Dd (.lst [])) fp) (aQt fp s5.heap) (aZ5 (σ++List.replicate m none) ks vs') H7 s7/\Same H6 H7/\ft (bF8 (ext m (free ρ)) ks es)=ok bb) (fun _ _=>False) s6:=by
    rcases ht Cc {s2 with heap:=P2} (upd H2 Dd (.lst [])) fp H6 with⟨rfl,hft⟩ |⟨c,rfl,hft⟩
    ·exact wpAny_tests_nil ⟨H6,I6,Same.refl _,by rw[hft]⟩
    ·cases qt:ft (bF8 (ext m (free ρ)) ks es) with
     | none=>rw[qt] at hrest;cases hrest
     | some z=>
      cases z with
      | error ce=>rw[qt] at hrest;cases hrest
      | ok bb=>
       refine wpAny_tests_one (thn (hft _ s6 _ H6 (fun b H7=>Same H6 H7/\b=bb) I6 ⟨_,bTj,by rw[qt];exact fun H7 e=>⟨e,rfl⟩⟩) fun b s7 ⟨H7,I7,e,eb⟩=> ?_);subst eb;exact⟨H7,I7,e,rfl⟩
   refine thn tst fun bb s7 ⟨H7,I7,sm7,hbb⟩=> ?_
   rw[hbb] at hrest;cases bb with
   | false=>
    rw[if_neg (by decide)];exact turn s7 H7 vs rj rest I7 (sm7 _ _ hDj) (ilj.mono sm7) imj (by omega) (smj.trans sm7) hrest bS2
   | true=>
    rw[if_pos rfl]
    dsimp only[ok] at hrest
    cases qe:fe (bF8 (ext m (free ρ)) ks es) with
    | none=>rw[qe] at hrest;cases hrest
    | some z=>
     cases z with
     | error ce=>rw[qe] at hrest;cases hrest
     | ok rr=>
      rw[qe] at hrest
      dsimp only at hrest
      split at hrest
      ·rename_i him
       obtain⟨rest',er,er2⟩:=bFa hrest;have er3:=aCw er2;refine thn (he Cc {s2 with heap:=P2} (upd H2 Dd (.lst [])) fp H6 _ s7 _ H7 (fun v H8=>Same H7 H8/\Is X.K H8 rr v) I7 ⟨_,bTj.mono sm7,by rw[qe];exact fun v H8 e i=>⟨e,i⟩⟩) fun u8 s8 ⟨v8,H8,I8,rv8,sm8,i8⟩=> ?_
       have hD8:H8 Dd=some (.lst vs):=sm8 _ _ (sm7 _ _ hDj);have hlv:vs.length=rj.length:=ilj.length.symm;have il8:=(ilj.mono sm7).mono sm8;have al: ∀o,(∀b xs,H8 b=some (.tup xs)->upd H8 Dd (.lst o) b=some (.tup xs))/\(∀b oo u,H8 b=some (.frz oo u)->upd H8 Dd (.lst o) b=some (.frz oo u)):=fun o=>
        ⟨fun b xs e=>by rw[aA6 (fun z=>by subst z;rw[hD8] at e;cases e)];exact e,fun b oo u e=>by rw[aA6 (fun z=>by subst z;rw[hD8] at e;cases e)];exact e⟩
       refine thn (aUn _ s8 _ H8 (.ref Dd) [v8] (.ref Dd) [u8] (fun v9 H9=>H9=upd H8 Dd (.lst (vs++ [v8]))) I8 rfl (.cons rv8 .nil) ⟨Dd,vs,v8,rfl,rfl,hD8,by have:=sizeLine_eq;omega,rfl⟩) fun u9 s9 ⟨v9,H9,I9,_,e9⟩=> ?_
       subst e9;refine turn s9 _ (vs++ [v8]) (rj++ [rr]) rest' I9 aAy ((IsL.alike (al _).1 (al _).2 imj il8).append (.cons (Is.alike (al _).1 (al _).2 him i8) .nil)) ?_ (by rw[List.length_append];simp only[List.length_cons,List.length_nil];omega) ?_ er (by rw[bS2,<-er3,List.append_assoc];rfl)
       ·rw[aO6,imj]
        show (rr.imm&&true)=true;rw[him];rfl
       ·intro b o e
        rw[aA6 (aDv e nD2)];exact sm8 _ _ (sm7 _ _ (smj _ _ e))
      ·cases hrest
  ·have ej:j=ds.length:=by omega
   subst ej;rw[List.drop_eq_nil_of_le (Nat.le_refl _)] at hrest;have er:=aCw hrest;refine thn (T.done (cxC X scope cl N' Cc {s2 with heap:=P2} (upd H2 Dd (.lst [])) fp) rfl rfl rfl hcm ds.length [] s' _ Hj (fun _ _=>False) IJ (fpX frj) stj (hJ.stop _ Hj smj (Nat.le_refl _))) fun r s3 ⟨hr,I3⟩=> ?_
   subst hr;obtain⟨mm,hmm,_⟩:=I3.loc;have nCj:Hj Cc=none:=I3.free;have zC:=I2.bNc (b:=Cc) (H':=H2) (by rw[hD,hsz];exact Nat.le_succ _) nC2;have ers:rs=rj:=by rw[bS2,<-er,List.append_nil]
   refine fin Dd Cc s3 Hj rs ?_ ⟨mm,hmm⟩ ⟨zC.2.2.2.1,zC.2.1,zC.2.2.2.2.1,zC.2.2.2.2.2⟩ nCj (e1.trans smj) (none_of e1 nD2) (by rw[ers];exact imj) ⟨_,hDj,by rw[ers];exact ilj⟩ hQ;intro h' hsb;have U1:Un (frs X.stack) (Cc::fp) H2 (upd H2 Dd (.lst [])) s2.heap P2:=Un.laid bS3 (by rw[hD];exact Nat.le_refl _) nD2;have U2:Un (frs X.stack) (Cc::fp) (upd H2 Dd (.lst [])) Hj P2 s3.heap:=I3.base.mono (fun _ z=>z) (fun b z=>List.mem_cons_of_mem _ z);have kp: ∀b o,b≠Cc->s3.heap.get? b=some o->h'.get? b=some o:=fun b o hb e=>hsb.extBut b o hb e
   have nc: ∀b,b∉Cc::fp->b≠Cc:=fun b hb z=>hb (by rw[z];exact List.mem_cons_self)
   have U3:Un (frs X.stack) (Cc::fp) Hj Hj s3.heap h':=⟨fun b o e _ _ hx=>kp b o (nc b hx) e,fun b o e _ _ hx=>⟨o.slots,kp b o (nc b hx) e⟩,fun _ _ _ n _=>n,fun b o e hx=>⟨o,kp b o (nc b hx) e⟩,fun _ _ e=>e,fun _ _ _ e=>e,fun b ps e=>⟨#[],by rw[e];simp⟩⟩;have hok':HOk X.prog X.w Hj h':=fun b u e=>(I3.hok b u e).stay (fun c v hc q=>kp c v (fun z=>by
    rcases hc with hc | hc
    ·rw[hc] at z;rw[z,nCj] at e;cases e
    ·rw[z,nCj] at hc;cases hc) q) (fun _ q=>q) fun _ _ q=>q
   have IX:Inv X pins σ Hj {s3 with heap:=h'}:=I2.call' (ch:=Cc::fp) I3.os ((U1.trans U2).trans U3) hok' I3.bare fun b hb=>by
    rcases List.mem_cons.mp hb with rfl | hb
    ·have z:=I2.bNc (b:=b) (H':=H2) (by rw[hD,hsz];exact Nat.le_succ _) nC2
     exact⟨z.2.2.2.1,z.2.1,z.2.2.2.2.1,z.2.2.2.2.2⟩
    ·obtain⟨z0,z1,z2,z3,z4,z5⟩:=f2 b hb
     exact⟨z3,z1,z4,z5⟩
   exact IX
 exact codeAny_compStart_list (loop _ rfl) (T.self _ 0 _ _ _ (T.keep _ _ _ st2 fun b hb o e=>bS4 _ _ (bS3 _ _ e)) (loop _ rfl))
theorem bLa (hclos:closureFor scope X.env=pure cl)(hcell: ∀y∈scope.names,y.2≠ .cell)(hkind:scope.kind= .function)(hnames: ∀y∈scope.names,y.2= .local->scope.names.lookup y.1=some .local)(hcl:aOs cl X.env=true)
  (hnm:aW7 X.N N' (relabel scope X.env)=true) (hf:aU6 cl (relabel scope X.env)=true) (hl:N'.length=X.N.length+m) (hks: ∀k∈ks,X.N.length<=k) (hcm:X.calm=true) (hi:PIt X B tg iter it)
  (hg: ∀C s₀ H₀ ex,PDH (cxC X scope cl N' C s₀ H₀ ex) tg ks G) (ht: ∀C s₀ H₀ ex B,PIf (cxC X scope cl N' C s₀ H₀ ex) B ifs ft) (he: ∀C s₀ H₀ ex B,PD (cxC X scope cl N' C s₀ H₀ ex) B elt fe)
  (hs: ∀x,foldedSetIterable iter X.env x=pure x:=by intro _;rfl):PD X B (.ListComp elt [⟨tg,iter,ifs,0⟩] scope pos) (cmp m it ks G ft fe):=by
 intro pins s σ H Q I h;obtain⟨ρ,r,h⟩:=h;rw[eval_ListComp];refine aPg (use:=none) (Q':=EP X pins σ Q) (Kp:=fun rs=> ∀v H',Same H H'->Is X.K H' (.lst rs) v->Q v H') hclos hcell hkind hnames hcl hnm hf hl hks hcm hi hg ht he hs I r (h.imp fun d q rs e v H' sm i=>by subst e;exact q v H' sm i) ?_;intro Dd Cc s3 Hj rs IX ⟨mm,hmm⟩ _ _ sm _ _ ⟨vs,is1,is2⟩ hQ;have is:Is X.K Hj (.lst rs) (.ref Dd):= .lst (SqL.of is1) is2;exact⟨mm,hmm,fun h' hsb=>⟨.ref Dd,Hj,IX h' hsb,rfl,hQ _ Hj sm is⟩⟩
theorem Inv.offC {pins:List (Addr×Obj)}{s:Shared}{σ:St}{H:Hp}{C:Addr}{h':Heap}(I:Inv X pins σ H s)(f:bT5 X pins C)(hC:H C=none)(hsb:Heap.SameBut C s.heap h'):Inv X pins σ H {s with heap:=h'}:=by
 have kp: ∀b o,b≠C->s.heap.get? b=some o->h'.get? b=some o:=fun b o hb e=>hsb.extBut b o hb e
 have nc: ∀b,b∉[C]->b≠C:=fun b hb z=>hb (by rw[z];exact List.mem_cons_self)
 have U:Un (frs X.stack) [C] H H s.heap h':=⟨fun b o e _ _ hx=>kp b o (nc b hx) e,fun b o e _ _ hx=>⟨o.slots,kp b o (nc b hx) e⟩,fun _ _ _ n _=>n,fun b o e hx=>⟨o,kp b o (nc b hx) e⟩,fun _ _ e=>e,fun _ _ _ e=>e,fun b ps e=>⟨#[],by rw[e];simp⟩⟩;have hok':HOk X.prog X.w H h':=fun b u e=>(I.hok b u e).stay (fun c v hc q=>kp c v (fun z=>by
  rcases hc with hc | hc
  ·rw[hc] at z;rw[z,hC] at e;cases e
  ·rw[z,hC] at hc;cases hc) q) (fun _ q=>q) fun _ _ q=>q
 exact I.call' (s':={s with heap:=h'}) (ch:=[C]) rfl U hok' I.bare fun b hb=>by
  rw[List.mem_singleton] at hb;subst hb;exact f
theorem bGz {i:Nat}{x:Str}{pos' spos:Pos}(hN:X.N.Nodup)(hi0:X.N[i]? =some x)(hx:Loc X.env.scope x)(hclos:closureFor scope X.env=pure cl)(hcell: ∀y∈scope.names,y.2≠ .cell)(hkind:scope.kind= .function)(hnames: ∀y∈scope.names,y.2= .local->scope.names.lookup y.1=some .local)(hcl:aOs cl X.env=true)
  (hnm:aW7 X.N N' (relabel scope X.env)=true) (hf:aU6 cl (relabel scope X.env)=true) (hl:N'.length=X.N.length+m) (hks: ∀k∈ks,X.N.length<=k) (hcm:X.calm=true) (hi:PIt X B tg iter it)
  (hg: ∀C s₀ H₀ ex,PDH (cxC X scope cl N' C s₀ H₀ ex) tg ks G) (ht: ∀C s₀ H₀ ex B,PIf (cxC X scope cl N' C s₀ H₀ ex) B ifs ft) (he: ∀C s₀ H₀ ex B,PD (cxC X scope cl N' C s₀ H₀ ex) B elt fe)
  (hsw:swapsWith (.ListComp elt [⟨tg,iter,ifs,0⟩] scope pos) (some (.Name x pos')) spos.line X.env=pure true) (hs: ∀x,foldedSetIterable iter X.env x=pure x:=by intro _;rfl)
  (hfn:X.fn x=true\/X.env.scope.names.lookup x=some .local:=by first | exact .inl rfl | exact .inr rfl | assumption):
  PDS X B (.Assign [.Name x pos'] (.ListComp elt [⟨tg,iter,ifs,0⟩] scope pos) spos) (aDy i (cmp m it ks G ft fe)):=by
 intro pins s σ H E I h;obtain⟨ρ,r,h⟩:=h;rw[exec_Assign_Name_used _ _ _ _ hsw];refine wpAny_bind (wpAny_standAt (wpAny_bind (wpAny_bind (aPg (use:=some _) (Kp:=fun rs=>aM8 X B E (some (.nx (aLk i (.lst rs) ρ)))) hclos hcell hkind hnames hcl hnm hf hl hks hcm hi hg ht he hs I r ?_ ?_))))
 ·exact (aCe r h).imp fun d q rs e=>by subst e;exact q
 ·intro Dd Cc s3 Hj rs IX ⟨mm,hmm⟩ oc nC sm _ _ ⟨vs,is1,is2⟩ hQ
  have is:Is X.K Hj (.lst rs) (.ref Dd):= .lst (SqL.of is1) is2;have I3:Inv X pins σ Hj s3:=IX s3.heap (Heap.SameBut.refl Cc s3.heap);refine wpAny_assign_Name (aNt I3 hN hi0 hx (v:= .ref Dd) rfl (fun s4 I4 ⟨a,sb,ha⟩=>⟨mm,hmm.sameBut sb ?_,fun h' hsb=> ?_⟩) hfn)
  ·rcases ha with ha | ha
   ·rw[ha];exact oc.2.1
   ·exact Ne.symm (oc.2.2.1 x a ha)
  ·exact wpAny_pure (wpAny_pure ⟨_,Hj,Inv.offC I4 oc nC hsb,hQ _ Hj ((r.mono sm).aLk is)⟩)
end
section
variable {l:List Env}{H1 H:Hp}{h1 h h5 Bs base:Heap}
theorem bJm (un:Un (frs l) [] H1 H h1 h)(old: ∀b o o',h1.get? b=some o'->b∉frs l->h.get? b=some o->Bs.get? b=some o)(st:Bs.StaysIn h5)(sl:h.UpToSlots h5)(ff:h1.FunFrames base l)(hf: ∀b∈frs l,H1 b=none):
  Un (frs l) [] H1 H h1 h5 where
 keep:=fun b o q n hb hx=>st b o (old b o o q hb (un.keep b o q n hb hx))
 slot:=fun b o q n hb hx=>by
  obtain⟨s1,e1⟩:=un.slot b o q n hb hx;obtain⟨_,o2,e2,nf⟩:=ff.mem hb;rw[q] at e2;cases e2;obtain⟨s2,e3⟩:=sl b _ e1 nf;exact⟨s2,e3⟩
 free:=un.free
 there:=fun b o q hx=>by
  obtain⟨o1,e1⟩:=un.there b o q hx;by_cases hb:b∈frs l
  ·obtain⟨_,o2,e2,nf⟩:=ff.mem hb
   rw[q] at e2;cases e2;obtain⟨s1,e3⟩:=un.slot b o q (hf b hb) hb hx;obtain⟨s2,e4⟩:=sl b _ e3 nf;exact⟨_,e4⟩
  ·exact⟨o1,st b o1 (old b o1 o q hb e1)⟩
 tups:=un.tups
 aU5:=un.aU5
 aVy:=un.aVy
end
section
variable {X:Cx}{pins:List (Addr×Obj)}{σ:St}{H H1:Hp}{c ea:Addr}{e a0:Value}{s s1:Shared}{Bs h':Heap}
theorem bD2 (I:Inv X pins σ H1 s1)(os:s.os=s1.os)(bare:AllBare s.gens)(un:Un (frs X.stack) [] H1 H s1.heap s.heap)(old: ∀b o o',s1.heap.get? b=some o'->b∉frs X.stack->s.heap.get? b=some o->Bs.get? b=some o)
  (hok:HOk X.prog X.w H Bs) (st:Bs.StaysIn h') (sl:s.heap.UpToSlots h'):Inv X pins σ H {s with heap:=h'}:=
 Inv.call' (s':={s with heap:=h'}) (ch:=[]) I os (bJm un old st sl I.stack I.aLo) (hok.kept st) bare (fun b z=>absurd z (by simp))
def Left (X:Cx)(H:Hp)(c:Addr)(e:Value)(s':Shared):Prop:=
 ∃ea,e= .ref ea/\s'.os=X.s₀.os/\AllBare s'.gens/\Un (frs X.outer) [] X.H₀ H X.s₀.heap s'.heap/\Fly X.prog X.w X.outer X.s₀ ea c H s'
theorem aYs (hex:X.ex=[])(I:Inv X pins σ H1 s1)(os:s.os=s1.os)(bare:AllBare s.gens)(un:Un (frs X.stack) [] H1 H s1.heap s.heap)(old: ∀b o o',s1.heap.get? b=some o'->b∉frs X.stack->s.heap.get? b=some o->Bs.get? b=some o)
  (hok:HOk X.prog X.w H Bs) (fl:Heap.FlyingW Bs X.outer ea (.ref c) a0 h') (sl:s.heap.UpToSlots h'):Left X H c (.ref ea) {s with heap:=h'}:=by
 have I':=bD2 I os bare un old hok fl.1 sl;have ib:=I'.base;rw[hex] at ib;have ib1:=I.base;rw[hex] at ib1;refine⟨ea,rfl,I'.os,I'.bare,ib,Bs,a0,fl,fun b o o' q nb eb=> ?_,hok⟩;obtain⟨o1,e1⟩:=ib1.there b o' q (by simp);obtain⟨o2,e2⟩:=un.there b o1 e1 (by simp);have nb':b∉frs X.stack:=fun z=>by
  rcases List.mem_cons.mp (I.aYa b z) with y | y
  ·have:=Nat.lt_of_lt_of_le (Heap.lt_size q) I.ok.above
   rw[y] at this;exact absurd this (Nat.lt_irrefl _)
  ·exact nb y
 have e3:=old b o2 o1 e1 nb' e2;have e4:=fl.1 b o2 e3;have eb':h'.get? b=some o:=eb;rw[eb'] at e4;cases e4;exact e3
theorem bHn (hst:X.stack=X.env::X.outer)(hf:X.env.frame=some X.env.locals)(hex:X.ex=[]){Q:Unit->Shared->Prop}{E:Value->Shared->Prop}(x:Exc X pins σ H c e s)(k: ∀s',Left X H c e s'->Q () s'):
  wpAny (model X.prog X.w) X.A (leaving X.env e) Q E s:=by
 obtain⟨ea,rfl,⟨h,args,hm,I⟩ |⟨s1,H1,I,os,bare,un,Bs,a0,fl,old,hok⟩⟩:=x
 ·have ff:h.FunFrames X.base X.stack:=I.stack
  refine wpAny_leaves_madeW (base:=PySem.W.hideAll h (frs X.stack)) (h:=h) (by rw[I.ok.frames,hst]) hf (fun b o q=>PySem.W.of_hideAll _ q) (by rw[<-hst];exact PySem.W.funFrames_hide ff fun env he a ha=>List.mem_filterMap.mpr ⟨env,he,ha⟩) hm fun h' t x1 x2 x3 x4=>k _ ?_
  refine aYs (s1:={s with heap:=h}) hex I rfl I.bare (Un.kept hm.keeps) (fun b o o' q nb eb=> ?_) (fun a o ea'=> ?_) x1 x4
  ·have:=hm.keeps b o' q
   rw[eb] at this;cases this;exact PySem.W.hideAll_get _ q nb
  ·refine (I.hok a o ea').stay (fun b u hb q=>PySem.W.hideAll_get _ q fun z=> ?_) (fun _ q=>q) fun _ _ q=>q
   have hn:=I.aLo b z;rcases hb with rfl | hb
   ·rw[hn] at ea';cases ea'
   ·rw[hn] at hb;cases hb
 ·have fl':Heap.FlyingW Bs (X.env::X.outer) ea (.ref c) a0 s.heap:=by rw[<-hst];exact fl
  refine wpAny_leaves_onW (by rw[I.ok.frames,hst]) hf fl' fun h' x1 x2=>k _ (aYs hex I os bare un old hok x1 x2)
end
section
variable {P:Program}{w:World}{K:PySem.W.Frag}{mg:Str->Option Value}{base:Heap}
abbrev cxX (P:Program)(w:World)(K:PySem.W.Frag)(mg:Str->Option Value)(base:Heap)(N:List Str)(qual:Str)(scope:Scope)(f:Addr)(cd:Value)(A:Around)(outer:List Env)(s:Shared)(H:Hp)(E:XK):Cx:=
 bMr (CXD P w) P w K mg base N qual scope f cd A outer s H E
theorem bNe {N:List Str}{qual:Str}{scope:Scope}{f:Addr}{cd:Value}{A:Around}{outer:List Env}{s₀:Shared}{H₀:Hp}{E:XK}{pins:List (Addr×Obj)}{σ:St}{H:Hp}{c:Addr}{e:Value}{s:Shared}
  (x:Exc (cxX P w K mg base N qual scope f cd A outer s₀ H₀ E) pins σ H c e s) (hE:E (.ref c) none H):(cxX P w K mg base N qual scope f cd A outer s₀ H₀ E).xe e s:=by
 refine bHn (X:=cxX P w K mg base N qual scope f cd A outer s₀ H₀ E) rfl rfl rfl x fun s' hl=> ?_
 obtain⟨ea,e1,e2,e3,e4,e5⟩:=hl;exact⟨c,ea,H,e1,e2,e3,e4,e5,hE⟩
theorem bT3 {x qual:Str}{st:Stmt}{f:Addr}{fd:FuncData}{N ps:List Str}{k:Nat}{F:List D->M D}(Fu:Fun K x qual st f fd)(S:aA0 N ps (aAd st))(hL: ∀ds r,F ds=some r->ds.length=ps.length)
  (hbody: ∀(cdv:Value) (A:Around) (outer:List Env) (s:Shared) (H:Hp) (E:XK),aDm k (A.deeper (envOfC qual (aAd st) s.heap.objs.size f cdv))->
   ∃F',(∀B,PDB (cxX P w K mg base N qual (aAd st) f cdv A outer s H E) B (aAt st) F')/\∀ds r,F ds=some r->aAn (F' (aBg N ds))=some r):FnD P w K mg base (k+1) f fd ps F:=by
 obtain⟨oc,od,kV,doc,pm,an,cdv,ct,osl,rfl,lk,hcd⟩:=Fu.ex;refine bHy lk hcd S (fun vs H Q E ⟨ds,i,hl,_⟩=>hl) fun A outer s H vs Q E hr hsp=> ?_
 obtain⟨F',hF,hq⟩:=hbody cdv A outer s H E hr;refine⟨_,hF H,?_⟩;obtain⟨ds,i,hl,h⟩:=hsp;have hn:ps.length<=N.length:=by have:=congrArg List.length S.pre;rw[List.length_take] at this;omega
 cases q:F ds with
 | none=>rw[q] at h;exact False.elim h
 | some r=>
  rw[q] at h;have e:=hq ds r q;refine⟨aBg N ds,aT7 i (by rw[i.length,hl];exact hn),?_⟩;cases qf:F' (aBg N ds) with
  | none=>rw[qf] at e;cases e
  | some o=>
   rw[qf] at e;cases o with
   | rt d'=>cases e;exact fun v H' s' i'=>h v H' s' i'
   | nx ρ=>cases e;exact fun σ' H' r'=>h _ H' r'.kept .non
   | bk ρ=>cases e
   | ct ρ=>cases e
   | ex c ρ=>cases e;exact fun pins s' σ' H' ev r' x=>bNe x (h H' r'.kept)
def aS1 (a C dx:Addr):Option Out->M (List (Str×D))
 | some (.ex c _)=>err c
 | o=>aE5 a C dx o
theorem bP5 {x qual:Str}{st:Stmt}{f C:Addr}{fd:FuncData}{N ps:List Str}{k:Nat}{F:List D->M (List (Str×D))}(Fu:Fun K x qual st f fd)(S:aA0 N ps (aAd st))(hL: ∀ds r,F ds=some r->ds.length+1=ps.length)
  (hbody: ∀(cdv:Value) (A:Around) (outer:List Env) (s:Shared) (H:Hp) (E:XK),aDm k (A.deeper (envOfC qual (aAd st) s.heap.objs.size f cdv))->
   ∃F',(∀B,PDB (cxX P w K mg base N qual (aAd st) f cdv A outer s H E) B (aAt st) F')/\∀ds r a dx,F ds=some r->aS1 a C dx (F' (aNc N a C dx ds))=some r):bFt P w K mg base (CXD P w) (k+1) f fd ps (spI K C ps.length F):=by
 obtain⟨oc,od,kV,doc,pm,an,cdv,ct,osl,rfl,lk,hcd⟩:=Fu.ex;refine bHy lk hcd S (fun vs H Q E ⟨a,dx,ws,ds,_,_,_,_,hl,_⟩=>hl) fun A outer s H vs Q E hr hsp=> ?_
 obtain⟨F',hF,hq⟩:=hbody cdv A outer s H E hr;obtain⟨a,dx,ws,ds,rfl,ha,hd,i,hl,h⟩:=hsp;refine⟨_,hF (hid H a),?_⟩;have hn:ps.length<=N.length:=by have:=congrArg List.length S.pre;rw[List.length_take] at this;omega
 cases q:F ds with
 | none=>rw[q] at h;exact False.elim h
 | some r=>
  rw[q] at h;have e:=hq ds r a dx q;refine⟨aNc N a C dx ds,aQq ha hd i (by rw[i.length];rw[List.length_cons] at hl;omega),?_⟩;cases qf:F' (aNc N a C dx ds) with
  | none=>rw[qf] at e;cases e
  | some o=>
   rw[qf] at e;cases o with
   | ex c ρ=>cases e;exact fun pins s' σ' H' ev r' x=>bNe x (h H' r'.kept)
   | rt d=>cases e
   | bk ρ=>cases e
   | ct ρ=>cases e
   | nx ρ=>
    change aE5 a C dx (some (.nx ρ))=some r at e
    unfold aE5 at e;split at e
    ·rename_i a' C' dx' fs' rest qf'
     cases qf';split at e
     ·rename_i hh
      obtain⟨rfl,rfl,rfl⟩:=hh;cases e;intro σ' H' r';obtain⟨O,g1,go,g2,gl,g3⟩:=r';obtain⟨z1,z2,z3,vs',z4,z5⟩:=g3 0 _ rfl;exact h H' vs' z4 (z5.mono (Off.same _ _)) (g2.trans (Off.same _ _))
     ·cases e
    ·cases e
end
theorem bMo {K:PySem.W.Frag}{h:Heap}{C:Addr}{bmB:List Value}{nid:String}(kin:K.In h)(q:PySem.W.excIn K C bmB nid=true):
  ∃tl N nm qn bs hd sn sub ab col dd k0 k1 k2 k3 k5 mN,h.get? C=some (excClassObj nm qn C N bs tl hd sn sub ab col dd k0 k1 k2 k3 k5 nid)/\h.Ns N mN/\mN "__init__"=none/\OwnTail h bmB tl:=by
 unfold PySem.W.excIn at q;split at q
 ·rename_i d1 c1 s1 lk
  split at q
  ·rename_i C2 tl j0 j1 j2 j3 n2 j5 em es
   rw[Bool.and_eq_true,Bool.and_eq_true,Bool.and_eq_true,Bool.and_eq_true,Bool.and_eq_true] at q;obtain⟨⟨⟨⟨⟨a1,a2⟩,a3⟩,a4⟩,a5⟩,a6⟩:=q;have b1:=beq_iff_eq.mp a1;have b2:=beq_iff_eq.mp a2;have b6:=beq_iff_eq.mp a6;have b3:c1.hasDel=false:=by simpa using a3
   cases c1 with
   | mk nm bs mro ns qn hd sn sub ab col del=>
    have b1':C2=C:=b1;have b2':n2=nid:=b2;have b3':del=false:=b3;have em':mro= .ref C2::tl:=em;have e5:s1= #[j0,j1,j2,j3,some (.builtin n2),j5]:=by
     cases s1 with
     | mk li=>exact congrArg Array.mk es
    rw[e5,em',b3',b1',b2'] at lk;exact⟨tl,ns,nm,qn,bs,hd,sn,sub,ab,col,d1,j0,j1,j2,j3,j5,_,kin _ _ lk,.of_isNs (PySem.W.isNs_of_in kin a5),PySem.W.nsMap_none_of_in kin a5 b6,PySem.W.tail_of_in kin a4⟩
  ·exact nomatch q
 ·exact nomatch q
section
variable {X:Cx}{B:Hp}{e:Expr}{es:List Expr}{ga:Rho->M (List D)}{np cpos pos:Pos}{x:Str}{C:Addr}{bmB:List Value}{nid iid B0:String}
def aN3 (C:Addr)(g:Rho->M (List D)):Rho->Option Out:=fun ρ=>lft (g ρ) ρ fun ds=>if ds.length<=1000 then some (.ex C ρ) else none
theorem aUe (FB:ExcBaseFacts B0 nid iid bmB)(hq:PySem.W.excIn X.K C bmB nid=true)(hm:X.mg x=some (.ref C))(hg:Gl X x)(hc:X.calm=true)(ha:PDA X B (e::es) ga)(hdb:(x==("__debug__":Str))=false:=by decide)
  (he:starEach (e::es) X.env=(false,eval e X.env)::starEach es X.env:=by exact aA5 rfl) (hpl:(backTo cpos (starEach es X.env)).any (·.1)=false:=by rfl):PDS X B (.Raise (some (.Call (.Name x np) (e::es) [] cpos)) none pos) (aN3 C ga):=by
 intro pins s σ H E I h;obtain⟨ρ,r,h⟩:=h;obtain⟨tl,N,nm,q,bs,hd,sn,sub,ab,col,dd,k0,k1,k2,k3,k5,mN,hC,hN,hni,T⟩:=bMo (h:=X.base) I.ok.mod.kin hq;refine wpAny_Raise_call_subT (C:=C) (nm:=nm) (q:=q) (N:=N) (bs:=bs) (bm:=tl) (hdct:=hd) (sn:=sn) (sub:=sub) (ab:=ab) (col:=col) (dd:=dd) (k0:=k0) (k1:=k1) (k2:=k2) (k3:=k3) (k5:=k5)
  FB (mN:=mN) (T.hasType FB.hasBase) (I.ok.hd hc) (by rw[he];show (false ||(backTo cpos (starEach es X.env)).any (·.1))=false;rw[hpl];rfl) hni (aLz I hg hm ⟨rfl,?_⟩ hdb)
 have hx:=ha cpos pins s σ H (fun vs H1=>vs.length<=1000/\Same H H1/\Good X B E (.ex C ρ)) I ⟨ρ,r,(aCe r h).imp fun ds h1 vs H1 e1 i1=>by
  split at h1
  ·rename_i hl;exact⟨by rw[<-i1.length];exact hl,e1,h1⟩
  ·exact False.elim h1⟩
 rw[he] at hx⊢;refine Calls.evalArgs_plain (wpAny_mono hx (fun us s2 ⟨vs,H2,I2,rv,hl,e2,gd⟩=>⟨rfl,by show us.length<=sizeLine;rw[<-rv.length];exact aOv hl,I2.bk _ _ hC,hN.keeps I2.bk,T.keeps I2.bk,fun h' ea hm'=> ?_⟩) fun _ _ y=>y);exact gd pins {s2 with heap:=h'} σ H2 (.ref ea) (r.mono e2) ⟨ea,rfl,.inl ⟨s2.heap,us,hm',I2⟩⟩
end
theorem bHq {K:PySem.W.Frag}{a C:Addr}{c:Value}(e:PySem.W.kitOne K (.ref C) c=some true):Answers (fun s=>K.In s.heap/\excAt a C s.heap) (.ref a) c true:=by
 intro dp tk P w A R s ⟨⟨kin,o,ho,hc⟩,hq⟩;cases s with
 | mk h0 g d tt os=>
  have lt:PySem.W.Looks (model P w) h0 (typeOf (.ref a)) (.ref C):=by rw[<-hc];exact (PySem.W.Looks.ld ho).andThen .now
  unfold PySem.W.kitOne at e;by_cases q:(Value.ref C==c)=true
  ·unfold Builtin.«isinstance.nested»
   refine wpAny_bind (lt.at ?_);simp only[q,if_true]
   first | exact wpAny_bind (wpAny_rule (wpAny_pure (hq tt))) | exact wpAny_bind (wpAny_rule (hq tt)) | exact wpAny_pure (hq tt)
  ·simp only[q] at e
   obtain⟨h1,h2,h3⟩:=PySem.W.kit_cls (M:=model P w) kin e;have li:PySem.W.Looks (model P w) h0 (isInstance (.ref a) c) true:=lt.andThen h3;unfold Builtin.«isinstance.nested»;refine wpAny_bind (lt.at ?_);simp only[q];refine wpAny_bind (h1.at ?_);simp only[beq_self_eq_true,if_true]
   k_delta "plainIsInstance"
   refine wpAny_bind (wpAny_bind (h2.at ?_));simp only[Bool.not_true,Bool.false_eq_true,if_false];refine wpAny_bind (li.at ?_);simp only[if_true]
   first | exact wpAny_pure (hq tt) | exact wpAny_pure (wpAny_pure (hq tt)) | exact wpAny_bind (wpAny_pure (wpAny_pure (hq tt)))
section
variable {X:Cx}{B:Hp}{e:Expr}{fa:Rho->M D}{pos p p2:Pos}
def exs (m:Addr->Bool)(f:Rho->M D):Rho->M D:=fun ρ=>bnd (f ρ) fun d=>match d with
 | .exc C=>if m C=true then ok (.bl true) else none
 | _=>none
theorem aZj {cv:Value}{c:V}{m:Addr->Bool}(rc:RelV c cv)(hu: ∀u,RelV c u->u=cv)(hm: ∀C,m C=true->PySem.W.kitOne X.K (.ref C) cv=some true):
  aJe X (.builtin "isinstance") (fun xs H Q=> ∃C y,xs=[y,c]/\Is X.K H (.exc C) y/\m C=true/\Q (.bl true) H):=by
 intro pins s σ H xs us Q I r h;obtain⟨C,y,rfl,i,hC,q⟩:=h;obtain⟨u,w',rfl,r1,r2⟩:=vals2 r;rw[hu _ r2];cases i with
 | exc hh=>
  cases r1;obtain⟨hx,_,_⟩:=(show aDb X.prog X.w H s.heap _ (.ext _) from I.hok _ _ hh);exact call_isinstance (S:=fun _ R s=>(X.K.In s.heap/\excAt _ C s.heap)/\∀tk,R (.ok (.ret (.bool true))) {s with toks:=tk})
   (fun P w A R s hs=>isinstance_outer (bHq (hm C hC) 0 _ P w A R s hs) (fun z=>nomatch z)) ⟨⟨I.kIn,hx⟩,fun tk=>⟨.bl true,H,I.tok _,rfl,q⟩⟩
theorem bK7 {x:Str}{T:String}{m:Addr->Bool}(hg:Gl X "isinstance")(hb:X.mg "isinstance"=none)(hg2:Gl X x)(hm2:X.mg x=none)(hv:bootBuiltins x=some (.type T))(hm: ∀C,m C=true->PySem.W.kitOne X.K (.ref C) (.type T)=some true)(ha:PD X B e fa)(hn:x≠"__name__":=by decide)(hd:(x==("__debug__":Str))=false:=by decide)
  (he:starEach [e,.Name x p2] X.env=[(false,eval e X.env),(false,eval (.Name x p2) X.env)]:=by exact aZ1 rfl rfl) (he2:starEach [.Name x p2] X.env=[(false,eval (.Name x p2) X.env)]:=by exact aIl rfl):PD X B (.Call (.Name "isinstance" p) [e,.Name x p2] [] pos) (exs m fa):=by
 refine PE.of (aEu (aZj (c:=V.ty T) rfl (fun u r=>r) hm) hg hb boot_isinstance (aBq ha (aBq (aR6 hg2 hm2 hv (v:=V.ty T) rfl hn hd) aEi he2) (by rw[he,he2])) (he:=by rw[he,he2]) (hpl:=by rw[he2];rfl)) fun σ H Q h=> ?_
 obtain⟨ρ,r1,h⟩:=h;refine⟨ρ,r1,(Res.bind h).imp fun d h1 v H1 e1 i1=> ?_⟩;split at h1
 ·rename_i C
  split at h1
  ·rename_i hC;exact⟨C,v,rfl,i1,hC,h1 _ H1 e1 (.bl _)⟩
  ·exact False.elim h1
 ·exact False.elim h1
theorem bK8 {x:Str}{D:Addr}{m:Addr->Bool}(hg:Gl X "isinstance")(hb:X.mg "isinstance"=none)(hg2:Gl X x)(hm2:X.mg x=some (.ref D))(hm: ∀C,m C=true->PySem.W.kitOne X.K (.ref C) (.ref D)=some true)(ha:PD X B e fa)(hd:(x==("__debug__":Str))=false:=by decide)
  (he:starEach [e,.Name x p2] X.env=[(false,eval e X.env),(false,eval (.Name x p2) X.env)]:=by exact aZ1 rfl rfl) (he2:starEach [.Name x p2] X.env=[(false,eval (.Name x p2) X.env)]:=by exact aIl rfl):PD X B (.Call (.Name "isinstance" p) [e,.Name x p2] [] pos) (exs m fa):=by
 refine PE.of (aEu (aZj (c:=V.ref D) rfl (fun u r=>r) hm) hg hb boot_isinstance (aBq ha (aBq (bKw hg2 hm2 (v:=V.ref D) rfl hd) aEi he2) (by rw[he,he2])) (he:=by rw[he,he2]) (hpl:=by rw[he2];rfl)) fun σ H Q h=> ?_
 obtain⟨ρ,r1,h⟩:=h;refine⟨ρ,r1,(Res.bind h).imp fun d h1 v H1 e1 i1=> ?_⟩;split at h1
 ·rename_i C
  split at h1
  ·rename_i hC;exact⟨C,v,rfl,i1,hC,h1 _ H1 e1 (.bl _)⟩
  ·exact False.elim h1
 ·exact False.elim h1
end
def aRj (X:Cx)(pins:List (Addr×Obj))(σ:St)(H:Hp)(ea c:Addr)(s:Shared):Prop:=
 ∃s1 H1,Inv X pins σ H1 s1/\s.os=s1.os/\AllBare s.gens/\Un (frs X.stack) [] H1 H s1.heap s.heap/\Fly X.prog X.w X.stack s1 ea c H s
abbrev Cx.hand (X:Cx)(e:Value):Cx:={X with A:=X.A.mark (some e),calm:=false,xe:=fun _ _=>False}
section
variable {X:Cx}{pins:List (Addr×Obj)}{σ:St}{H:Hp}{c ea:Addr}{s:Shared}{e:Value}
theorem aY1 (I:Inv X pins σ H s)(e:Value):Inv (Cx.hand X e) pins σ H s:=
 ⟨⟨I.ok.mod,I.ok.kind,I.ok.glob,I.ok.blt,I.ok.above,I.ok.inj,I.ok.has,I.ok.cab,(fun z=>Bool.noConfusion z),I.ok.frames,I.ok.stk,I.ok.exf,I.ok.bs,I.ok.bsz,I.ok.bI5,I.ok.bJo,I.ok.aXi,I.ok.frf⟩,I.os,I.bare,I.base,I.loc,I.cell,I.free,I.aI4,I.pin,I.hok,I.len⟩
theorem aJk (h0:X.Ok)(I:Inv (Cx.hand X e) pins σ H s):Inv X pins σ H s:=⟨h0,I.os,I.bare,I.base,I.loc,I.cell,I.free,I.aI4,I.pin,I.hok,I.len⟩
theorem aRj.inv (f:aRj X pins σ H ea c s):Inv X pins σ H s:=by
 obtain⟨s1,H1,I,os,bare,un,Bs,a0,fl,old,hok⟩:=f;exact Inv.call' (ch:=[]) I os un (hok.kept fl.1) bare (fun b z=>absurd z (by simp))
theorem aRj.moved {h':Heap}{s1:Shared}{H1:Hp}{Bs:Heap}{a0:Value}(I:Inv X pins σ H1 s1)(os:s.os=s1.os)(bare:AllBare s.gens)(un:Un (frs X.stack) [] H1 H s1.heap s.heap)
  (old: ∀b o o',s1.heap.get? b=some o'->b∉frs X.stack->s.heap.get? b=some o->Bs.get? b=some o) (hok:HOk X.prog X.w H Bs) (fl:Heap.FlyingW Bs X.stack ea (.ref c) a0 h') (sl:s.heap.UpToSlots h'):aRj X pins σ H ea c {s with heap:=h'}:=by
 refine⟨s1,H1,I,os,bare,bJm un old fl.1 sl I.stack I.aLo,Bs,a0,fl,fun b o o' q nb eb=> ?_,hok⟩;obtain⟨o2,e2⟩:=un.there b o' q (by simp);have e3:=old b o2 o' q nb e2;have e4:=fl.1 b o2 e3;have eb':h'.get? b=some o:=eb;rw[eb'] at e4;cases e4;exact e3
theorem aRj.lands (f:aRj X pins σ H ea c s){A:Around}{Q:Unit->Shared->Prop}{E:Value->Shared->Prop}(k: ∀h',aRj X pins σ H ea c {s with heap:=h'}->Q () {s with heap:=h'}):wpAny (model X.prog X.w) A (setFlight (.ref ea) none) Q E s:=by
 obtain⟨s1,H1,I,os,bare,un,Bs,a0,fl,old,hok⟩:=f;exact lands_againW fl fun h' x1 x2=>k h' (aRj.moved I os bare un old hok x1 x2)
theorem aRj.looks (hst:X.stack=X.env::X.outer)(hf:X.env.frame=some X.env.locals)(f:aRj X pins σ H ea c s){Q:Unit->Shared->Prop}{E:Value->Shared->Prop}(k: ∀h',aRj X pins σ H ea c {s with heap:=h'}->Q () {s with heap:=h'}):
  wpAny (model X.prog X.w) X.A (noteFrame (.ref ea) X.env) (fun _ s2=>wpAny (model X.prog X.w) X.A (setFlight (.ref ea) none) Q E s2) E s:=by
 obtain⟨s1,H1,I,os,bare,un,Bs,a0,fl,old,hok⟩:=f;have fl':Heap.FlyingW Bs (X.env::X.outer) ea (.ref c) a0 s.heap:=by rw[<-hst];exact fl
 refine wpAny_looks_onW (by rw[I.ok.frames,hst]) hf fl' fun h4 x1 x2=>wpAny_landsW x1 fun h5 y1 y2=>k h5 ?_
 rw[<-hst] at y1;exact aRj.moved I os bare un old hok y1 (x2.trans y2)
theorem aRj.at_ (f:aRj X pins σ H ea c s):excAt ea c s.heap:=by
 obtain⟨s1,H1,I,os,bare,un,Bs,a0,fl,old,hok⟩:=f;exact fl.there
theorem aW5 {P:Program}{w:World}{H:Hp}{h:Heap}{a:Addr}{o:HO}(x:aDb P w H h a o): ∃u,h.get? a=some u:=by
 cases o with
 | lst xs=>obtain⟨_,_,_,_,e⟩:=x;exact⟨_,e⟩
 | tup xs=>obtain⟨_,_,_,o,e,_⟩:=x;exact⟨_,e⟩
 | dK kvs=>obtain⟨_,_,_,_,o,_,_,e,_⟩:=x;exact⟨_,e⟩
 | dT kvs=>obtain⟨_,_,_,_,o,_,_,e,_⟩:=x;exact⟨_,e⟩
 | set S n=>obtain⟨⟨o,_,_,_,e,_⟩,_⟩:=x;exact⟨_,e⟩
 | ins C dx fs=>obtain⟨_,_,_,e,_⟩:=x;exact⟨_,e⟩
 | own y=>exact x
 | xd fs=>obtain⟨_,⟨_,_,_,e,_⟩,_⟩:=x;exact⟨_,e⟩
 | rng lo hi=>obtain⟨_,_,_,e⟩:=x;exact⟨_,e⟩
 | frz ob u=>obtain⟨e,_⟩:=x;exact⟨_,e⟩
 | tbl ps=>exact⟨_,x⟩
 | met f y=>exact⟨_,x⟩
 | ext φ=>obtain⟨_,e,_⟩:=x;exact e
theorem aRj.track (f:aRj X pins σ H ea c s):H ea=none/\Inv X pins σ (upd H ea (.ext (excAt ea c))) s:=by
 have ha:=f.at_;obtain⟨s1,H1,I,os,bare,un,Bs,a0,fl,old,hok⟩:=f;have hn:H ea=none:=by
  cases q:H ea with
  | none=>rfl
  | some o=>
   obtain⟨u,eu⟩:=aW5 (hok ea o q);rw[fl.2.1] at eu;cases eu
 have hf:ea∉frs X.stack:=fun z=>by
  obtain⟨_,o,eo,nf⟩:=fl.2.2.1.mem z;obtain⟨oe,vs,he,_,hd,_⟩:=fl.first;rw[eo] at he;cases he;exact nf _ hd
 have h1: ∀o,s1.heap.get? ea=some o->False:=fun o q=>by
  obtain⟨oe,_,he,_⟩:=fl.first;have:=old ea oe o q hf he;rw[fl.2.1] at this;cases this
 have sm:=aA4 hn (.ext (excAt ea c));refine⟨hn,Inv.call' (ch:=[]) I os ⟨un.keep,un.slot,fun b o q n hx=> ?_,un.there,fun b xs q=>sm _ _ (un.tups b xs q),fun b o u q=>sm _ _ (un.aU5 b o u q),fun b ps q=> ?_⟩ (fun b o q=> ?_) bare (fun b z=>absurd z (by simp))⟩
 ·have nb:b≠ea:=fun z=>h1 o (by rw[<-z];exact q)
  rw[aA6 nb];exact un.free b o q n hx
 ·obtain⟨more,e⟩:=un.aVy b ps q
  exact⟨more,sm _ _ e⟩
 ·by_cases nb:b=ea
  ·subst nb
   rw[aAy] at q;cases q;obtain⟨o,e1,e2⟩:=ha;exact⟨⟨o,e1,e2⟩,⟨o,e1⟩,fun h1 h2 ⟨o',z1,z2⟩ k=>⟨o',k o' z1,z2⟩⟩
  ·rw[aA6 nb] at q
   exact ((hok.kept fl.1) b o q).stay (fun _ _ _ z=>z) (fun _ z=>sm _ _ z) fun _ _ z=>sm _ _ z
end
structure HD where
 m:Addr->Option Bool
 i:Nat
 G:Rho->Option Out
def aft (i:Nat):Option Out->Option Out
 | some (.nx ρ)=>some (.nx (ρ.set i none))
 | some (.bk ρ)=>some (.bk (ρ.set i none))
 | some (.ct ρ)=>some (.ct (ρ.set i none))
 | some (.rt d)=>some (.rt d)
 | _=>none
def hands:List HD->Addr->Rho->Option Out
 | [],_,_=>none
 | h::r,c,ρ=>match h.m c with
  | some true=>aft h.i (h.G (ρ.set h.i (some (.sh (.exc c)))))
  | some false=>hands r c ρ
  | none=>none
def bNx (F:Rho->Option Out)(hs:List HD):Rho->Option Out:=fun ρ=>match F ρ with
 | some (.ex c ρ')=>hands hs c ρ'
 | o=>o
section
variable {X:Cx}{pins:List (Addr×Obj)}{σ:St}{H B:Hp}{s:Shared}{ρ:Rho}
theorem Rel.unset {K:PySem.W.Frag}{i:Nat}(r:Rel K B ρ σ H):Rel K B (ρ.set i none) (σ.set i none) H:=by
 obtain⟨O,h1,ho,h2,hl,h3⟩:=r;have hO: ∀(j:Nat) (a:Addr),(if j=i then none else O j)=some a->O j=some a:=fun j a q=>by
  split at q
  ·cases q
  ·exact q
 have less:Same (Off H O) (Off H fun j=>if j=i then none else O j):=Off.less fun j a q=>⟨j,hO j a q⟩
 refine⟨fun j=>if j=i then none else O j,fun j k a q1 q2=>h1 j k a (hO j a q1) (hO k a q2),fun j a q=>ho j a (hO j a q),h2.trans less,by rw[List.length_set,List.length_set,hl],fun j sv q=> ?_⟩;have e:j≠i:=fun e=>by
  subst e;by_cases hj:j<ρ.length
  ·rw[List.getElem?_set_self hj] at q;cases q
  ·rw[List.getElem?_eq_none (by rw[List.length_set];omega)] at q;cases q
 rw[List.getElem?_set_ne (Ne.symm e)] at q;have z:=h3 j sv q;cases sv with
 | sh d'=>obtain⟨v',e1,e2⟩:=z;exact⟨v',by rw[List.getElem?_set_ne (Ne.symm e)];exact e1,e2.mono less⟩
 | own ds=>obtain⟨a,vs,e1,e2,e3,e4⟩:=z;exact⟨a,vs,by show (if j=i then none else O j)=some a;rw[if_neg e];exact e1,by rw[List.getElem?_set_ne (Ne.symm e)];exact e2,e3,e4.mono less⟩
 | oin a C dx fs=>obtain⟨e1,e2,e3,vs,e4,e5⟩:=z;exact⟨by show (if j=i then none else O j)=some a;rw[if_neg e];exact e1,by rw[List.getElem?_set_ne (Ne.symm e)];exact e2,e3,vs,e4,e5.mono less⟩
 | ow o=>obtain⟨a,w,e1,e2,e3,e4⟩:=z;exact⟨a,w,by show (if j=i then none else O j)=some a;rw[if_neg e];exact e1,by rw[List.getElem?_set_ne (Ne.symm e)];exact e2,e3,e4.mono less⟩
 | tk ks=>obtain⟨a,e1,e2⟩:=z;exact⟨a,by rw[List.getElem?_set_ne (Ne.symm e)];exact e1,less _ _ e2⟩
theorem aX7 {i:Nat}{n:Str}{pos:Pos}{E:Value->Shared->Prop}{Q:Unit->Shared->Prop}(I:Inv X pins σ H s)(hN:X.N.Nodup)(hi:X.N[i]? =some n)(hloc:X.env.scope.names.lookup n=some .local)(k: ∀s',Inv X pins (σ.set i none) H s'->Q () s'):
  wpAny (model X.prog X.w) X.A (do bindName X.env n .none;unbindBehindTheSuite X.env n pos) Q E s:=by
 have hcls:(X.env.scope.kind== .class ||(X.env.scope.kind== .module&&X.env.locals !=X.env.globals))=false:=by rw[I.ok.kind];rfl
 refine wpAny_bind (wpAny_bindName (aM9 I hN hi (.inl hloc) (v:= .non) rfl (fun s1 I1=> ?_) (.inr hloc)));have hiσ:i<σ.length:=by rw[I.len];exact (List.getElem?_eq_some_iff.mp hi).1
 obtain⟨m,hn,hl⟩:=id I1.loc;obtain⟨u,ru,l⟩:=hl i n .non hi (List.getElem?_set_self hiσ) (.inl hloc);have hv:m n=some u:=by
  rcases l with⟨_,e⟩ |⟨k,_⟩
  ·exact e
  ·have k':X.env.scope.names.lookup n=some .cell\/X.env.scope.names.lookup n=some .free:=k
   rw[hloc] at k';rcases k' with z | z<;>cases z
 unfold unbindBehindTheSuite;refine wpAny_onRaise (wpAny_unbindName_local hloc hn hv hcls fun h' u' hn' hs=>k _ ?_);have neL: ∀b o,X.s₀.heap.get? b=some o->b≠X.env.locals:=fun b o e=>Nat.ne_of_lt (Nat.lt_of_lt_of_le (Heap.lt_size e) I1.ok.above)
 refine⟨I1.ok,I1.os,I1.bare,⟨fun b o e n hb hx=>(hs.2 b (neL b o e)).trans (I1.base.keep b o e n hb hx),fun b o e n hb hx=> ?_,I1.base.free,fun b o e hx=> ?_,I1.base.tups,I1.base.aU5,I1.base.aVy⟩,
  ⟨_,hn',fun j y v' e1 e2 e3=> ?_⟩,fun y c e=> ?_,I1.free,I1.aI4,fun p hp=> ?_,fun b ob e=> ?_,by rw[List.length_set];exact I.len⟩
 ·obtain⟨sl,e1⟩:=I1.base.slot b o e n hb hx
  exact⟨sl,(hs.2 b (neL b o e)).trans e1⟩
 ·obtain⟨o',e1⟩:=I1.base.there b o e hx
  exact⟨o',(hs.2 b (neL b o e)).trans e1⟩
 ·have hj:j≠i:=fun z=>by
   subst z;rw[List.getElem?_set_self hiσ] at e2;cases e2
  rw[List.getElem?_set_ne (Ne.symm hj)] at e2;obtain⟨w',r',q⟩:=hl j y v' e1 (by rw[List.getElem?_set_ne (Ne.symm hj)];exact e2) e3;refine⟨w',r',?_⟩;rcases q with⟨k1,e⟩ |⟨k1,c,e,z⟩
  ·have ny:y≠n:=fun z=>hj (aSo hN e1 (z▸hi))
   exact .inl ⟨k1,by show (if y=n then u' else m y)=some w';rw[if_neg ny];exact e⟩
  ·exact .inr ⟨k1,c,e,z.sameBut hs (I1.cne y c e)⟩
 ·obtain⟨w',z⟩:=I1.cell y c e
  exact⟨w',z.sameBut hs (I1.cne y c e)⟩
 ·obtain⟨e,n0,ne,nf,d⟩:=I1.pin p hp
  exact⟨(hs.2 p.1 ne).trans e,n0,ne,nf,d⟩
 ·refine (I1.hok b ob e).stay (fun c' w' hc q=>(hs.2 c' ?_).trans q) (fun _ q=>q) fun _ _ q=>q
  rintro rfl
  have hf:=I1.free;rcases hc with z | z
  ·rw[<-z,hf] at e;cases e
  ·rw[hf] at z;cases z
end
def bRh (X:Cx)(B:Hp)(hl:List ExceptHandler)(hs:List HD):Prop:= ∀(pins:List (Addr×Obj)) (σ:St) (H:Hp) (c ea:Addr) (s:Shared) (E:Ends) (ρ:Rho),aRj X pins σ H ea c s->Rel X.K B ρ σ H->aM8 X B E (hands hs c ρ)->
 wpAny (model X.prog X.w) X.A (handleBy (.ref ea) X.env hl) (SP X pins E) X.xe s
section
variable {X:Cx}{B:Hp}{x n:Str}{i:Nat}{C:Addr}{np pos:Pos}{b₀:Stmt}{body:List Stmt}{rest:List ExceptHandler}{m:Addr->Option Bool}{G:Rho->Option Out}{hs:List HD}
theorem bK2:bRh X B [] []:=fun _ _ _ _ _ _ _ _ _ _ h=>False.elim h
theorem bG1 (hg:Gl X x)(hm2:X.mg x=some (.ref C))(hm: ∀c b,m c=some b->PySem.W.exmOne X.K (.ref c) (.ref C)=some b)(hN:X.N.Nodup)(hi:X.N[i]? =some n)(hloc:X.env.scope.names.lookup n=some .local)(hb: ∀e B,PDB (Cx.hand X e) B (b₀::body) G)(hr:bRh X B rest hs)
  (hdb:(x==("__debug__":Str))=false:=by decide):bRh X B (.ExceptHandler (some (.Name x np)) (some n) (b₀::body) pos::rest) (⟨m,i,G⟩::hs):=by
 intro pins σ H c ea s E ρ f r h;have I:=f.inv;refine wpAny_handleBy_cons (codeAny_handlers_test (aLz (aY1 I (.ref ea)) hg hm2 ?_ hdb)) (by intro q;cases q);unfold hands at h
 dsimp only at h
 cases q:m c with
 | none=>rw[q] at h;exact False.elim h
 | some b=>
  rw[q] at h;have lt:PySem.W.Looks (model X.prog X.w) s.heap (typeOf (.ref ea)) (.ref c):=by
   obtain⟨o,ho,hc⟩:=f.at_;rw[<-hc];exact (PySem.W.Looks.ld ho).andThen .now
  refine (PySem.W.exm_one (M:=model X.prog X.w) I.kIn lt (hm c b q)).here ?_;cases b with
  | false=>exact hr pins σ H c ea s E ρ f r h
  | true=>
   refine codeAny_handlers_suite_as ?_;refine f.lands fun h6 f6=> ?_
   obtain⟨hn,I6⟩:=f6.track;refine aM9 (X:=Cx.hand X (.ref ea)) (aY1 I6 _) hN hi (.inl hloc) (v:=V.ref ea) rfl (fun s7 I7=> ?_) (.inr hloc);have bUn:Rel X.K B (ρ.set i (some (.sh (.exc c)))) (σ.set i (some (.ref ea))) (upd H ea (.ext (excAt ea c))):=by
    obtain⟨O,h1,ho,h2,hl,h3⟩:=r.mono (aA4 hn (.ext (excAt ea c)));refine Rel.bBs O h1 ho h2 hl (fun j sv e _=>h3 j sv e) (.exc (Off.of aAy fun j z=> ?_));obtain⟨u,w,m⟩:=ho j ea z;rw[aAy] at w;cases w;cases m
   refine wpAny_mono (hb (.ref ea) B pins s7 _ _ {nx:=fun σ' H'=>E.nx (σ'.set i none) H',rt:=E.rt,bk:=fun σ' H'=>E.bk (σ'.set i none) H',ct:=fun σ' H'=>E.ct (σ'.set i none) H'} I7 ⟨_,bUn,?_⟩) (fun fl s8 hq=> ?_) (fun _ _ z=>False.elim z)
   ·dsimp only at h
    cases qg:G (ρ.set i (some (.sh (.exc c)))) with
    | none=>rw[qg] at h;exact False.elim h
    | some o=>
     rw[qg] at h;cases o with
     | nx ρ'=>exact fun σ' H' r'=>h _ H' r'.unset
     | bk ρ'=>exact fun σ' H' r'=>h _ H' r'.unset
     | ct ρ'=>exact fun σ' H' r'=>h _ H' r'.unset
     | rt d=>exact h
     | ex c' ρ'=>exact False.elim h
   ·have ok:=I.ok
    show wpAny (model X.prog X.w) X.A (do bindName X.env n .none;unbindBehindTheSuite X.env n pos) (fun _ s3=>SP X pins E fl s3) X.xe s8;cases fl with
    | next=>obtain⟨σ',H',I8,q8⟩:=hq;exact aX7 (aJk ok I8) hN hi hloc fun s9 I9=>⟨_,_,I9,q8⟩
    | brk=>obtain⟨σ',H',I8,q8⟩:=hq;exact aX7 (aJk ok I8) hN hi hloc fun s9 I9=>⟨_,_,I9,q8⟩
    | cont=>obtain⟨σ',H',I8,q8⟩:=hq;exact aX7 (aJk ok I8) hN hi hloc fun s9 I9=>⟨_,_,I9,q8⟩
    | ret u=>obtain⟨v,σ',H',I8,rv,q8⟩:=hq;exact aX7 (aJk ok I8) hN hi hloc fun s9 I9=>⟨v,_,_,I9,rv,q8⟩
abbrev Cx.tri (X:Cx)(pins:List (Addr×Obj))(hl:List ExceptHandler)(Q:Flow->Shared->Prop):Cx:=
 {X with pn:=X.pn++pins,xe:=fun e s=>wpAny (model X.prog X.w) X.A (noteFrame e X.env) (fun _ s2=>wpAny (model X.prog X.w) X.A (setFlight e none) (fun _ s3=>wpAny (model X.prog X.w) X.A (handleBy e X.env hl) Q X.xe s3) X.xe s2) X.xe s}
variable {pins bAc:List (Addr×Obj)}{σ:St}{H:Hp}{s:Shared}{hl:List ExceptHandler}{Q:Flow->Shared->Prop}{c ea:Addr}{e:Value}
theorem bPd (ok:X.Ok):(Cx.tri X pins hl Q).Ok:=
 ⟨ok.mod,ok.kind,ok.glob,ok.blt,ok.above,ok.inj,ok.has,ok.cab,ok.hd,ok.frames,ok.stk,ok.exf,ok.bs,ok.bsz,ok.bI5,ok.bJo,ok.aXi,ok.frf⟩
theorem bHa (ok:(Cx.tri X pins hl Q).Ok):X.Ok:=
 ⟨ok.mod,ok.kind,ok.glob,ok.blt,ok.above,ok.inj,ok.has,ok.cab,ok.hd,ok.frames,ok.stk,ok.exf,ok.bs,ok.bsz,ok.bI5,ok.bJo,ok.aXi,ok.frf⟩
theorem bL9 (I:Inv X pins σ H s):Inv (Cx.tri X pins hl Q) [] σ H s:=⟨bPd I.ok,I.os,I.bare,I.base,I.loc,I.cell,I.free,I.aI4,fun p hp=>I.pin p (by rwa [List.append_nil] at hp),I.hok,I.len⟩
theorem aHj (I:Inv (Cx.tri X pins hl Q) bAc σ H s):Inv X pins σ H s:=⟨bHa I.ok,I.os,I.bare,I.base,I.loc,I.cell,I.free,I.aI4,fun p hp=>I.pin p (List.mem_append_left _ hp),I.hok,I.len⟩
theorem bEj (hst:X.stack=X.env::X.outer)(hf:X.env.frame=some X.env.locals)(x:Exc (Cx.tri X pins hl Q) bAc σ H c e s){R:Unit->Shared->Prop}{E:Value->Shared->Prop}
  (k: ∀ea h',e= .ref ea->aRj X pins σ H ea c {s with heap:=h'}->R () {s with heap:=h'}):
  wpAny (model X.prog X.w) X.A (noteFrame e X.env) (fun _ s2=>wpAny (model X.prog X.w) X.A (setFlight e none) R E s2) E s:=by
 obtain⟨ea,rfl,⟨h,args,hm,I'⟩ |⟨s1,H1,I',os,bare,un,fl⟩⟩:=x
 ·have I:=aHj I'
  have ff:h.FunFrames X.base X.stack:=I.stack;obtain⟨t,he,htn,ht⟩:=hm.there;have fresh: ∀b,h.get? b=none->(PySem.W.hideAll h (frs X.stack)).get? b=none:=fun b hb=>by
   cases q:(PySem.W.hideAll h (frs X.stack)).get? b with
   | none=>rfl
   | some o=>have:=PySem.W.of_hideAll _ q;rw[hb] at this;cases this
  have fh:h.FunFrames (PySem.W.hideAll h (frs X.stack)) X.stack:=PySem.W.funFrames_hide ff fun env he a ha=>List.mem_filterMap.mpr ⟨env,he,ha⟩
  have fs:s.heap.FunFrames (PySem.W.hideAll h (frs X.stack)) X.stack:=fh.of_keeps fun b o hb _=>⟨o,hm.keeps b o hb,rfl⟩
  unfold noteFrame;simp only[hf];refine wpAny_bind (wpAny_field he rfl (x:=Value.none) rfl ?_);rw[if_neg (by decide)];have fs':s.heap.FunFrames (PySem.W.hideAll h (frs X.stack)) (X.env::X.outer):=hst▸fs;refine wpAny_entryW (base:=PySem.W.hideAll h (frs X.stack)) (a0:= .ref t) (by rw[I.ok.frames,hst]) fs' hf he (fun b o hb=>hm.keeps b o (PySem.W.of_hideAll _ hb)) (fresh ea hm.new) rfl (by show 1<6;decide) rfl fun h4 hN=> ?_
  obtain⟨n1,n2,n3,n4⟩:=hN;refine wpAny_landsW ⟨n1,fresh ea hm.new,n2,n3⟩ fun h5 y1' y2=>k ea h5 rfl ?_
  have y1:Heap.FlyingW (PySem.W.hideAll h (frs X.stack)) X.stack ea (.ref c) (.ref t) h5:=by
   obtain⟨z1,z2,z3,z4⟩:=y1';exact⟨z1,z2,by rw[hst];rw[hst] at z3;exact z3,z4⟩
  refine aRj.moved (s1:={s with heap:=h}) I rfl I.bare (Un.kept hm.keeps) (fun b o o' q nb eb=> ?_) (fun a o ea'=> ?_) y1 (Heap.UpToSlots.trans n4 y2)
  ·have:=hm.keeps b o' q
   rw[eb] at this;cases this;exact PySem.W.hideAll_get _ q nb
  ·refine (I.hok a o ea').stay (fun b u hb q=>PySem.W.hideAll_get _ q fun z=> ?_) (fun _ q=>q) fun _ _ q=>q
   have hn:=I.aLo b z;rcases hb with rfl | hb
   ·rw[hn] at ea';cases ea'
   ·rw[hn] at hb;cases hb
 ·exact aRj.looks hst hf ⟨s1,H1,aHj I',os,bare,un,fl⟩ fun h' f=>k ea h' rfl f
theorem bK0 {tb:List Stmt}{F:Rho->Option Out}{h₀:ExceptHandler}{pos:Pos}(hst:X.stack=X.env::X.outer)(hf:X.env.frame=some X.env.locals)(hb: ∀pins Q,PDB (Cx.tri X pins (h₀::hl) Q) B tb F)(hh:bRh X B (h₀::hl) hs):
  PDS X B (.Try tb (h₀::hl) [] [] pos) (bNx F hs):=by
 intro pins s σ H E I h;obtain⟨ρ,r,h⟩:=h;refine wpAny_Try_except (wpAny_mono (hb pins (SP X pins E) [] s σ H E (bL9 I) ⟨ρ,r,?_⟩) (fun fl s1 q=> ?_) fun e s1 z=>z)
 ·unfold bNx at h
  cases q:F ρ with
  | none=>rw[q] at h;exact False.elim h
  | some o=>
   rw[q] at h;cases o with
   | nx ρ'=>exact h
   | rt d=>exact h
   | bk ρ'=>exact h
   | ct ρ'=>exact h
   | ex c ρ'=>exact fun bAc s' σ' H' e r' x=>bEj hst hf x fun ea h' ee f=>by subst ee;exact hh pins σ' H' c ea _ E ρ' f r' h
 ·cases fl with
  | next=>obtain⟨σ',H',I',q'⟩:=q;exact wpAny_execs_nil ⟨σ',H',aHj I',q'⟩
  | brk=>obtain⟨σ',H',I',q'⟩:=q;exact⟨σ',H',aHj I',q'⟩
  | cont=>obtain⟨σ',H',I',q'⟩:=q;exact⟨σ',H',aHj I',q'⟩
  | ret u=>obtain⟨v,σ',H',I',rv,q'⟩:=q;exact⟨v,σ',H',aHj I',rv,q'⟩
end
section
variable {X:Cx}{B:Hp}{tg iter c:Expr}{fa:Rho->M D}{ft:Rho->M Bool}{pos p:Pos}{x y:Str}{k k2:Nat}
def itE (f:Rho->M D):Rho->M (List D):=fun ρ=>bnd (f ρ) itD
theorem bKv (h:PD X B iter fa):PIt X B tg iter (itE fa):=by
 intro pins s σ H R ρ I r q;refine bQ7 (tg:=tg) h pins s σ H R I ⟨ρ,r,(Res.bind q).imp fun d q1 v H1 e1 i1=> ?_⟩;cases i1 with
 | lst hh rr=>exact .inl ⟨_,rfl,⟨_,hh⟩,q1 _ H1 e1 (aNi hh rr)⟩
 | tup hh rr=>exact .inr ⟨_,rfl,⟨_,hh.sq⟩,q1 _ H1 e1 (aSw hh rr)⟩
 | _=>exact False.elim q1
def bR1:D->M (List D)
 | .int j=>if-(2^62)<=j/\j<2^62 then ok (rng 0 j.toNat) else none
 | _=>none
def itR (f:Rho->M D):Rho->M (List D):=fun ρ=>bnd (f ρ) bR1
theorem bOq (hg:Gl X "range")(hm:X.mg "range"=none)(h:PD X B c fa)(hs:aD4 c=true:=by rfl):PIt X B tg (.Call (.Name "range" p) [c] [] pos) (itR fa):=by
 intro pins s σ H R ρ I r q;refine aUb (tg:=tg) hg hm (aBq h aEi (aA5 hs)) (aIl hs) pins s σ H R I ⟨ρ,r,(Res.bind q).imp fun d q1 v H1 e1 i1=> ?_⟩;cases i1 with
 | int j=>
  dsimp only[bR1] at q1
  split at q1
  ·rename_i hb;exact⟨_,rfl,hb.1,hb.2,q1 _ H1 e1 (bDq 0 _ H1)⟩
  ·exact False.elim q1
 | _=>exact False.elim q1
def h1:D->Option (List D):=fun d=>some [d]
theorem bG0 (hN:X.N.Nodup)(hi:X.N[k]? =some x)(hx:Loc X.env.scope x)(hf:X.fn x=true\/X.env.scope.names.lookup x=some .local:=by first | exact .inl rfl | exact .inr rfl | assumption):PDH X (.Name x pos) [k] h1:=by
 intro pins s σ H v u Q I r h;obtain⟨d,es,i,e,q⟩:=h;cases e;exact aLs hN hi hx hf pins s σ H v u Q I r (q [v] (.cons i .nil) rfl)
def h2:D->Option (List D)
 | .tup [a,b]=>some [a,b]
 | _=>none
theorem bSe {p1 p2:Pos}{kt:Nat}(hc:X.calm=true)(hN:X.N.Nodup)(hi:X.N[k]? =some x)(hx:Loc X.env.scope x)(hj:X.N[k2]? =some y)(hy:Loc X.env.scope y)
  (hf:X.fn x=true\/X.env.scope.names.lookup x=some .local:=by first | exact .inl rfl | exact .inr rfl | assumption) (hf2:X.fn y=true\/X.env.scope.names.lookup y=some .local:=by first | exact .inl rfl | exact .inr rfl | assumption):
  PDH X (.Tuple [.Name x p1,.Name y p2] kt pos) [k,k2] h2:=by
 intro pins s σ H v u Q I r h;obtain⟨d,es,i1,e,q⟩:=h;unfold h2 at e;split at e
 ·rename_i a b
  cases e;cases i1 with
  | tup hh rr=>
   cases rr with
   | cons ia rr=>
    cases rr with
    | cons ib rr=>
     cases rr;refine bIu (n:=2) hc (aNd (aLs hN hi hx hf) (aNd (aLs hN hj hy hf2) bCk)) rfl rfl pins s σ H _ u Q I r ?_;exact⟨_,_,rfl,hh,rfl,_,_,rfl,_,_,rfl,rfl,q [_,_] (.cons ia (.cons ib .nil)) rfl⟩
 ·cases e
theorem aKv:PIf X B [] (fun _=>ok true):= .inl ⟨rfl,rfl⟩
end
section
variable {X:Cx}{B:Hp}{e:Expr}{fa:Rho->M D}{pos p:Pos}
def toT:D->M D
 | .lst ds=>ok (.tup ds)
 | .tup ds=>ok (.tup ds)
 | _=>none
def toL:D->M D
 | .lst ds=>ok (.lst ds)
 | .tup ds=>ok (.lst ds)
 | _=>none
theorem aKz (hg:Gl X "tuple")(hm:X.mg "tuple"=none)(ha:PD X B e fa)(hs:aD4 e=true:=by rfl):PD X B (.Call (.Name "tuple" p) [e] [] pos) (f1 toT fa):=by
 refine PE.of (aIv aTg hg hm boot_tuple (aBq ha aEi (aA5 hs)) (he:=aA5 hs) (hpl:=by rfl)) fun σ H Q h=> ?_
 obtain⟨ρ,r1,h⟩:=h;refine⟨ρ,r1,(Res.bind h).imp fun d q1 v H1 e1 i1=> ?_⟩;cases i1 with
 | lst hh rr=>exact⟨_,_,rfl,.inl ⟨hh,fun l hl=>q1 _ _ (e1.trans (aA4 hl _)) (.tup (TQ.of aAy) (rr.mono (aA4 hl _)))⟩⟩
 | tup hh rr=>exact⟨_,_,rfl,.inr ⟨hh.sq,q1 _ H1 e1 (.tup hh rr)⟩⟩
 | _=>exact False.elim q1
theorem bK4 (hg:Gl X "list")(hm:X.mg "list"=none)(ha:PD X B e fa)(hs:aD4 e=true:=by rfl):PD X B (.Call (.Name "list" p) [e] [] pos) (f1 toL fa):=by
 refine PE.of (aIv aVi hg hm boot_list (aBq ha aEi (aA5 hs)) (he:=aA5 hs) (hpl:=by rfl)) fun σ H Q h=> ?_
 obtain⟨ρ,r1,h⟩:=h;refine⟨ρ,r1,(Res.bind h).imp fun d q1 v H1 e1 i1=> ?_⟩;cases i1 with
 | lst hh rr=>exact⟨_,_,rfl,.inl hh,fun l hl=>q1 _ _ (e1.trans (aA4 hl _)) (.lst (SqL.of aAy) (rr.mono (aA4 hl _)))⟩
 | tup hh rr=>exact⟨_,_,rfl,.inr hh,fun l hl=>q1 _ _ (e1.trans (aA4 hl _)) (.lst (SqL.of aAy) (rr.mono (aA4 hl _)))⟩
 | _=>exact False.elim q1
end
def flD:D->Option V
 | .non=>some .non
 | .bl b=>some (.bl b)
 | .int i=>some (.int i)
 | .str x=>some (.str x)
 | _=>none
def flL:List D->Option (List V)
 | []=>some []
 | d::ds=>match flD d,flL ds with
  | some v,some vs=>some (v::vs)
  | _,_=>none
def bTi:D->Option (List D)
 | .lst ds=>some ds
 | .tup ds=>some ds
 | _=>none
def gIn (neg:Bool)(x y:D):M D:=match flD x,(bTi y).bind flL with
 | some v,some vs=>ok (.bl (if neg then !inV v vs else inV v vs))
 | _,_=>none
section
variable {K:PySem.W.Frag}{H:Hp}
theorem bQd {d:D}{v v':V}(i:Is K H d v)(h:flD d=some v'):v=v'/\aQk v=true:=by
 cases i with
 | non=>cases h;exact⟨rfl,rfl⟩
 | bl b=>cases h;exact⟨rfl,rfl⟩
 | int b=>cases h;exact⟨rfl,rfl⟩
 | str b=>cases h;exact⟨rfl,rfl⟩
 | _=>cases h
theorem bEg: ∀{ds:List D} {vs vs':List V},IsL K H ds vs->flL ds=some vs'->vs=vs'/\vs.all aQk=true
 | _,_,_,.nil,h=>by cases h;exact⟨rfl,rfl⟩
 | _,_,_,.cons (d:=d) (ds:=ds) i r,h=>by
  unfold flL at h;split at h
  ·rename_i v0 vs0 h1 h2
   cases h;obtain⟨e1,f1⟩:=bQd i h1;obtain⟨e2,f2⟩:=bEg r h2;exact⟨by rw[e1,e2],by rw[List.all_cons,f1,f2];rfl⟩
  ·cases h
end
section
variable {X:Cx}{B:Hp}{a b:Expr}{fa fb:Rho->M D}{pos:Pos}
theorem bTl (neg:Bool):aTo X (rIn X.K neg) (gIn neg):=by
 intro H x y dx dy d Q ix iy e q;unfold gIn at e;split at e
 ·rename_i v vs h1 h2
  cases e;obtain⟨e1,f1⟩:=bQd ix h1;subst e1;cases iy with
  | lst hh rr=>
   obtain⟨e2,f2⟩:=bEg rr h2;subst e2;exact⟨_,_,rfl,.inl hh,f1,f2,q _ H (Same.refl H) (.bl _)⟩
  | tup hh rr=>
   obtain⟨e2,f2⟩:=bEg rr h2;subst e2;exact⟨_,_,rfl,.inr hh,f1,f2,q _ H (Same.refl H) (.bl _)⟩
  | _=>cases h2
 ·cases e
theorem aY5 (neg:Bool):aJt (gIn neg):=fun x y c h=>by
 unfold gIn at h;split at h
 ·cases h
 ·cases h
theorem bSh (ha:PD X B a fa)(hb:PD X B b fb)(hm:behindInMarks .In b=false:=by rfl):PD X B (.Compare a [.In] [b] pos) (b2 (gIn false) fa fb):=aUf bCz (bTl false) (aY5 false) ha hb hm
theorem bCl (ha:PD X B a fa)(hb:PD X B b fb)(hm:behindInMarks .NotIn b=false:=by rfl):PDT X B (.Compare a [.NotIn] [b] pos) (aA2 (b2 (gIn true) fa fb)):=aKa aUg (bTl true) (aY5 true) ha hb hm
theorem bHz (ss:List Str):flL (ss.map D.str)=some (ss.map V.str):=by
 induction ss with
 | nil=>rfl
 | cons x r ih=>rw[List.map_cons,flL,ih];rfl
theorem bHr (x:Str)(ss:List Str):inV (.str x) (ss.map V.str)=ss.contains x:=by
 unfold inV
 induction ss with
 | nil=>rfl
 | cons y r ih=>
  rw[List.map_cons,List.any_cons,ih,List.contains_cons];show ((decide (y=x)) || _)=_;by_cases e:x=y
  ·subst e;simp
  ·have e':¬y=x:=fun z=>e z.symm
   simp[e,e']
end
theorem aUt {env:Env}:aOs [] env=true:=rfl
theorem aOr {env:Env}{x:Str}{c:Addr}{cl:List (Str×Addr)}(h1:env.cells.lookup x=some c)(h2:env.kindOf x=some .cell\/env.kindOf x=some .free)(r:aOs cl env=true):aOs ((x,c)::cl) env=true:=by
 unfold aOs at r⊢;rw[List.all_cons,r,Bool.and_true]
 dsimp only
 rw[h1];rcases h2 with h2 | h2<;>rw[h2]<;>simp
section
variable {X:Cx}{B:Hp}{scope:Scope}{cl:List (Str×Addr)}{N':List Str}{m:Nat}{tg iter elt:Expr}{ifs:List Expr}{pos:Pos}{ks:List Nat}{G:D->Option (List D)}{ft:Rho->M Bool}{fe:Rho->M D}{it:Rho->M (List D)}
theorem aSb (hclos:closureFor scope X.env=pure cl)(hcell:scope.names.all (fun y=>y.2 != .cell)=true)(hkind:scope.kind= .function)(hnames:scope.names.all (fun y=>y.2 != .local || scope.names.lookup y.1==some .local)=true)(hcl:aOs cl X.env=true)
  (hnm:aW7 X.N N' (relabel scope X.env)=true) (hf:aU6 cl (relabel scope X.env)=true) (hl:N'.length=X.N.length+m) (hks:ks.all (fun k=>decide (X.N.length<=k))=true) (hcm:X.calm=true) (hi:PIt X B tg iter it)
  (hg: ∀C s₀ H₀ ex,PDH (cxC X scope cl N' C s₀ H₀ ex) tg ks G) (ht: ∀C s₀ H₀ ex B,PIf (cxC X scope cl N' C s₀ H₀ ex) B ifs ft) (he: ∀C s₀ H₀ ex B,PD (cxC X scope cl N' C s₀ H₀ ex) B elt fe)
  (hs: ∀x,foldedSetIterable iter X.env x=pure x:=by intro _;rfl):PD X B (.ListComp elt [⟨tg,iter,ifs,0⟩] scope pos) (cmp m it ks G ft fe):=
 bLa hclos (fun y hy=>by have:=List.all_eq_true.mp hcell y hy;simpa using this) hkind
  (fun y hy z=>by have:=List.all_eq_true.mp hnames y hy;rw[z] at this;simpa using this) hcl hnm hf hl
  (fun k hk=>of_decide_eq_true (List.all_eq_true.mp hks k hk)) hcm hi hg ht he hs
theorem bCo {i:Nat}{x:Str}{pos' spos:Pos}(hN:X.N.Nodup)(hi0:X.N[i]? =some x)(hx:Loc X.env.scope x)(hclos:closureFor scope X.env=pure cl)(hcell:scope.names.all (fun y=>y.2 != .cell)=true)(hkind:scope.kind= .function)(hnames:scope.names.all (fun y=>y.2 != .local || scope.names.lookup y.1==some .local)=true)(hcl:aOs cl X.env=true)
  (hnm:aW7 X.N N' (relabel scope X.env)=true) (hf:aU6 cl (relabel scope X.env)=true) (hl:N'.length=X.N.length+m) (hks:ks.all (fun k=>decide (X.N.length<=k))=true) (hcm:X.calm=true) (hi:PIt X B tg iter it)
  (hg: ∀C s₀ H₀ ex,PDH (cxC X scope cl N' C s₀ H₀ ex) tg ks G) (ht: ∀C s₀ H₀ ex B,PIf (cxC X scope cl N' C s₀ H₀ ex) B ifs ft) (he: ∀C s₀ H₀ ex B,PD (cxC X scope cl N' C s₀ H₀ ex) B elt fe)
  (hsw:swapsWith (.ListComp elt [⟨tg,iter,ifs,0⟩] scope pos) (some (.Name x pos')) spos.line X.env=pure true:=by rfl) (hs: ∀x,foldedSetIterable iter X.env x=pure x:=by intro _;rfl)
  (hfn:X.fn x=true\/X.env.scope.names.lookup x=some .local:=by first | exact .inl rfl | exact .inr rfl | assumption):
  PDS X B (.Assign [.Name x pos'] (.ListComp elt [⟨tg,iter,ifs,0⟩] scope pos) spos) (aDy i (cmp m it ks G ft fe)):=
 bGz hN hi0 hx hclos (fun y hy=>by have:=List.all_eq_true.mp hcell y hy;simpa using this) hkind
  (fun y hy z=>by have:=List.all_eq_true.mp hnames y hy;rw[z] at this;simpa using this) hcl hnm hf hl
  (fun k hk=>of_decide_eq_true (List.all_eq_true.mp hks k hk)) hcm hi hg ht he hsw hs hfn
end
section
variable {X:Cx}{B:Hp}{a b:Expr}{fa fb:Rho->M D}{pos:Pos}
theorem OpR.or {f:Value->Value->Sem Value}{r r':R2}(h:OpR X f r)(h':OpR X f r'):OpR X f (fun x y H Q=>r x y H Q\/r' x y H Q):=by
 intro pins s σ H x y v u Q I rx ry q;rcases q with q | q
 ·exact h pins s σ H x y v u Q I rx ry q
 ·exact h' pins s σ H x y v u Q I rx ry q
def bOa (K:PySem.W.Frag):R2:=fun x y H Q=> ∃a b ys,x= .ref a/\y= .ref b/\SqT K H a []/\SqT K H b ys/\Q (.ref b) H
theorem bLk:OpR X (binaryOp .Add) (bOa X.K):=by
 intro pins s σ H x y v u Q I rx ry h;obtain⟨a,b,ys,rfl,rfl,ha,hb,q⟩:=h;cases rx;cases ry;obtain⟨its,r1,p1,_⟩:=I.tuple ha;obtain⟨its2,r2,p2,_⟩:=I.tuple hb;have e1:its=[]:=r1.aSp.mpr rfl;subst e1;obtain⟨⟨c1,d1,x1,l1⟩,o1,k1,n1,z1⟩:=p1;obtain⟨⟨c2,d2,x2,l2⟩,o2,k2,n2,z2⟩:=p2
 dsimp only at k1 z1 k2 z2
 subst k1 z1 k2 z2;exact concat_meets ⟨_,o1,rfl⟩ ⟨_,o2,rfl⟩ noFill_tuple_add seq_tuple_add PySem.F.slot_tuple_add PySem.F.entry_tuple_add (PySem.F.args_tuple_add_2 _ _)
  (tuple_addW0 a b _ _ n1 n2 d1 d2 l1 l2 rfl) ⟨o1,o2,⟨.ref b,H,I,rfl,q⟩⟩
def bN9 (K:PySem.W.Frag):R2:=fun x y H Q=> ∃a b xs ys,x= .ref a/\y= .ref b/\SqL K H a xs/\SqL K H b ys/\xs.length+ys.length<=sizeLine/\∀p,H p=none->Q (.ref p) (upd H p (.lst (xs++ys)))
theorem bLj:OpR X (binaryOp .Add) (bN9 X.K):=by
 intro pins s σ H x y v u Q I rx ry h;obtain⟨a,b,xs,ys,rfl,rfl,ha,hb,hz,q⟩:=h;cases rx;cases ry;obtain⟨its,r1,p1,_⟩:=I.list ha;obtain⟨its2,r2,p2,_⟩:=I.list hb;have hl1:=r1.length;have hl2:=r2.length;obtain⟨⟨c1,d1,x1,l1⟩,n1,o1,k1,_,z1⟩:=p1;obtain⟨⟨c2,d2,x2,l2⟩,n2,o2,k2,_,z2⟩:=p2
 dsimp only at k1 z1 k2 z2
 subst k1 z1 k2 z2;refine concat_meets ⟨_,o1,rfl⟩ ⟨_,o2,rfl⟩ noFill_list_add seq_list_add PySem.F.slot_list_add PySem.F.entry_list_add (PySem.F.args_list_add_2 _ _)
  (list_addW a b _ _ n1 n2 d1 d2 l1 l2 (by rw[List.size_toArray,List.size_toArray,<-hl1,<-hl2];exact hz)) ⟨o1,o2,?_⟩
 have ea:its.toArray++its2.toArray=(its++its2).toArray:=by simp
 rw[ea];exact⟨.ref _,_,I.bTx (t':=s.toks) (r1.append r2) (by rw[List.length_append];exact hz),rfl,q _ I.fresh⟩
def aBd:D->D->M D
 | .int i,.int j=>ok (.int (i+j))
 | .str i,.str j=>if i.length+j.length<=100000 then ok (.str (i++j)) else none
 | .tup xs,.tup ys=>if xs.length+ys.length<=100000 then ok (.tup (xs++ys)) else none
 | .lst xs,.lst ys=>if xs.length+ys.length<=100000 then ok (.lst (xs++ys)) else none
 | _,_=>none
theorem bPk:aJt aBd:=by
 intro x y c h;unfold aBd at h
 (repeat' split at h)<;>cases h
theorem aSt {n:Nat}(h:n<=100000):n<=sizeLine:=Nat.le_trans h (by decide)
def bN6 (K:PySem.W.Frag):R2:=fun x y H Q=>(∃i j,x= .int i/\y= .int j/\Q (.int (i+j)) H)\/(∃i j,x= .str i/\y= .str j/\i.length+j.length<=sizeLine/\Q (.str (i++j)) H)\/bOa K x y H Q\/bN8 K x y H Q\/bN9 K x y H Q
theorem bLe:OpR X (binaryOp .Add) (bN6 X.K):=OpR.or bPc (OpR.or bAg (OpR.or bLk (OpR.or bLi bLj)))
theorem bN4:aTo X (bN6 X.K) aBd:=by
 intro H x y dx dy d Q ix iy e q;unfold aBd at e;split at e
 ·cases ix;cases iy;cases e
  exact .inl ⟨_,_,rfl,rfl,q _ H (Same.refl H) (.int _)⟩
 ·split at e
  ·rename_i hz
   cases ix;cases iy;cases e;exact .inr (.inl ⟨_,_,rfl,rfl,aSt hz,q _ H (Same.refl H) (.str _)⟩)
  ·cases e
 ·split at e
  ·rename_i hz
   cases ix with
   | tup h1 r1=>
    cases iy with
    | tup h2 r2=>
     cases e;rw[r1.length,r2.length] at hz;cases r1 with
     | nil=>exact .inr (.inr (.inl ⟨_,_,_,rfl,rfl,h1,h2.sq,q _ H (Same.refl H) (.tup h2 r2)⟩))
     | cons i1 r1=>
      refine .inr (.inr (.inr (.inl ⟨_,_,_,_,rfl,rfl,h1,h2,by simp,aSt hz,fun z=> ?_,fun z p hp=> ?_⟩)))
      ·subst z
       cases r2;exact q _ H (Same.refl H) (by rw[List.append_nil];exact .tup h1 (.cons i1 r1))
      ·exact q _ _ (aA4 hp _) (.tup (TQ.of aAy) ((IsL.append (.cons i1 r1) r2).mono (aA4 hp _)))
  ·cases e
 ·split at e
  ·rename_i hz
   cases ix with
   | lst h1 r1=>
    cases iy with
    | lst h2 r2=>
     cases e;rw[r1.length,r2.length] at hz;exact .inr (.inr (.inr (.inr ⟨_,_,_,_,rfl,rfl,h1,h2,aSt hz,fun p hp=>q _ _ (aA4 hp _) (.lst (SqL.of aAy) ((IsL.append r1 r2).mono (aA4 hp _)))⟩)))
  ·cases e
 ·cases e
theorem aB3 (ha:PD X B a fa)(hb:PD X B b fb):PD X B (.BinOp a .Add b pos) (b2 aBd fa fb):=bAe bLe bN4 bPk ha hb
end
section
variable {X:Cx}{B:Hp}{a b:Expr}{fa fb:Rho->M D}{pos:Pos}
def aWn (x:Str)(n:Nat):Str:=⟨(List.replicate n x.cps).foldl (· ++ ·) #[]⟩
def bR4:R2:=fun x y H Q=> ∃z k,x= .str z/\y= .int k/\0<=k/\z.length<=1000/\k<=1000/\Q (.str (aWn z k.toNat)) H
theorem rep0 (x:Str):aWn x 0=Str.empty:=rfl
theorem rep1 (x:Str):aWn x 1=x:=by
 unfold aWn;simp
theorem bUm {x:Str}(h:x.length=0)(n:Nat):aWn x n=x:=by
 obtain⟨c⟩:=x;have e:c= #[]:=Array.size_eq_zero_iff.mp h;subst e;unfold aWn
 congr 1
 induction n with
 | zero=>rfl
 | succ n ih=>rw[List.replicate_succ,List.foldl_cons];exact ih
theorem aN7 (x:Str)(n:Nat):(aWn x n).length=n*x.length:=by
 have g: ∀(m:Nat) (a:Array Nat),((List.replicate m x.cps).foldl (· ++ ·) a).size=a.size+m*x.cps.size:=by
  intro m
  induction m with
  | zero=>intro a;simp
  | succ m ih=>intro a;rw[List.replicate_succ,List.foldl_cons,ih,Array.size_append,Nat.succ_mul];omega
 show ((List.replicate n x.cps).foldl (· ++ ·) #[]).size=n*x.cps.size;rw[g];simp
theorem bLf:OpR X (binaryOp .Mult) bR4:=by
 intro pins s σ H x y v u Q I rx ry h;obtain⟨z,k,rfl,rfl,h0,hz,hk,q⟩:=h;obtain⟨t,rfl⟩:=rx;obtain⟨t',rfl⟩:=ry;refine P.mul_str ?_ (fun h1 h2=> ?_) (fun h1 h2=> ?_) ?_
 ·have e1:decide (k< -(2^63:Int))=false:=decide_eq_false (by omega)
  have e2:decide (k≥2^63)=false:=decide_eq_false (by omega);rw[e1,e2];rfl
 ·have h3:(1001:Int)<=(2^63-1)/k:=by
   refine Int.le_ediv_of_mul_le (by omega) ?_;have:(1001:Int)*k<=1001*1000:=by omega
   omega
  omega
 ·have h3:z.length*k.toNat<=1000*1000:=Nat.mul_le_mul hz (by omega)
  exact decide_eq_false (by unfold sizeLine;omega)
 ·by_cases k0:k<1
  ·have ek:k.toNat=0:=by omega
   rw[if_pos k0];rw[ek,rep0] at q;exact⟨by decide,⟨.str Str.empty,H,I.tok _,⟨_,rfl⟩,q⟩⟩
  ·rw[if_neg k0]
   split
   ·rename_i hh
    have e:aWn z k.toNat=z:=by
     simp only[Bool.or_eq_true,beq_iff_eq] at hh;rcases hh with hh | hh
     ·have ek:k.toNat=1:=by omega
      rw[ek,rep1]
     ·exact bUm hh _
    rw[e] at q;exact⟨.str z,H,I,⟨t,rfl⟩,q⟩
   ·have hl:(aWn z k.toNat).length<=sizeLine:=by
     rw[aN7];have:k.toNat*z.length<=1000*1000:=Nat.mul_le_mul (by omega) hz;unfold sizeLine;omega
    exact⟨hl,⟨.str (aWn z k.toNat),H,I.tok _,⟨_,rfl⟩,q⟩⟩
def aCn:D->D->M D
 | .int i,.int j=>bJi (.int i) (.int j)
 | .str z,.int k=>if 0<=k/\z.length<=1000/\k<=1000 then ok (.str (aWn z k.toNat)) else none
 | _,_=>none
theorem bLu:aJt aCn:=by
 intro x y c h;unfold aCn bJi at h
 (repeat' split at h)<;>cases h
theorem aF2 (ha:PD X B a fa)(hb:PD X B b fb):PD X B (.BinOp a .Mult b pos) (b2 aCn fa fb):=by
 refine bAe (OpR.or bLg bLf) ?_ bLu ha hb;intro H x y dx dy d Q ix iy e q;unfold aCn at e;split at e
 ·dsimp only[bJi] at e
  split at e
  ·rename_i h
   cases ix;cases iy;cases e;exact .inl ⟨_,_,rfl,rfl,h,q _ H (Same.refl H) (.int _)⟩
  ·cases e
 ·split at e
  ·rename_i h
   cases ix;cases iy;cases e;exact .inr ⟨_,_,rfl,rfl,h.1,h.2.1,h.2.2,q _ H (Same.refl H) (.str _)⟩
  ·cases e
 ·cases e
end
section
variable {K:PySem.W.Frag}{H₀ H:Hp}{ρ:Rho}{σ:St}
theorem Rel.bLc {i:Nat}{a:Addr}{ds:List D}{vs:List V}(r:Rel K H₀ ρ σ H)(hf:H a=none)(im:aIm ds=true)(iv:IsL K H ds vs):Rel K H₀ (ρ.set i (some (.own ds))) (σ.set i (some (.ref a))) (upd H a (.lst vs)):=by
 obtain⟨O,h1,ho,h2,hl,h3⟩:=r;have na: ∀j b,O j=some b->b≠a:=fun j b q e=>by
  subst e;obtain⟨u,w,m⟩:=ho j b q;rw[w] at hf;cases hf
 let O':Nat->Option Addr:=fun j=>if j=i then some a else O j
 have Oi:O' i=some a:=if_pos rfl;have On: ∀j,j≠i->O' j=O j:=fun j e=>if_neg e
 have hO':aRh (upd H a (.lst vs)) O':=fun j b q=>by
  by_cases e:j=i
  ·subst e
   rw[Oi] at q;cases q;exact⟨_,aAy,rfl⟩
  ·rw[On j e] at q
   have nb:=na j b q;obtain⟨u,w,m⟩:=ho j b q;exact⟨u,by rw[aA6 nb];exact w,m⟩
 have sm:Same (Off H O) (Off (upd H a (.lst vs)) O'):=fun b o q=>by
  have qh:=Off.same H O b o q;have nb:b≠a:=fun e=>by subst e;rw[hf] at qh;cases qh
  refine Off.of (by rw[aA6 nb];exact qh) fun j z=> ?_
  by_cases e:j=i
  ·subst e
   rw[Oi] at z;cases z;exact nb rfl
  ·rw[On j e] at z
   exact Off.not q j z
 refine⟨O',fun j k b q1 q2=> ?_,hO',h2.trans sm,by rw[List.length_set,List.length_set,hl],fun j sv q=> ?_⟩
 ·by_cases e1:j=i
  ·by_cases e2:k=i
   ·rw[e1,e2]
   ·subst e1
    rw[Oi] at q1;cases q1;rw[On k e2] at q2;exact absurd rfl (na k _ q2)
  ·by_cases e2:k=i
   ·subst e2
    rw[Oi] at q2;cases q2;rw[On j e1] at q1;exact absurd rfl (na j _ q1)
   ·rw[On j e1] at q1
    rw[On k e2] at q2;exact h1 j k b q1 q2
 ·by_cases e:j=i
  ·subst e
   have hj:j<ρ.length:=by
    have:=(List.getElem?_eq_some_iff.mp q).1
    rwa [List.length_set] at this
   rw[List.getElem?_set_self hj] at q;have q':=Option.some.inj (Option.some.inj q);subst q';exact⟨a,vs,Oi,List.getElem?_set_self (by rw[<-hl];exact hj),aAy,aJi hO' im (iv.mono (aA4 hf _))⟩
  ·rw[List.getElem?_set_ne (Ne.symm e)] at q
   have z:=h3 j sv q;cases sv with
   | sh d'=>obtain⟨v',e1,e2⟩:=z;exact⟨v',by rw[List.getElem?_set_ne (Ne.symm e)];exact e1,e2.mono sm⟩
   | own ds'=>
    obtain⟨b,ws,e1,e2,e3,e4⟩:=z;exact⟨b,ws,by rw[On j e];exact e1,by rw[List.getElem?_set_ne (Ne.symm e)];exact e2,by rw[aA6 (na j b e1)];exact e3,e4.mono sm⟩
   | oin b C dx fs=>
    obtain⟨e1,e2,e3,ws,e4,e5⟩:=z;exact⟨by rw[On j e];exact e1,by rw[List.getElem?_set_ne (Ne.symm e)];exact e2,e3,ws,by rw[aA6 (na j b e1)];exact e4,e5.mono sm⟩
   | ow o=>
    obtain⟨b,u,e1,e2,e3,e4⟩:=z;exact⟨b,u,by rw[On j e];exact e1,by rw[List.getElem?_set_ne (Ne.symm e)];exact e2,by rw[aA6 (na j b e1)];exact e3,e4.mono sm⟩
   | tk ks=>obtain⟨b,e1,e2⟩:=z;exact⟨b,by rw[List.getElem?_set_ne (Ne.symm e)];exact e1,sm _ _ e2⟩
theorem Rel.aWu {i:Nat}{a:Addr}{ds ds':List D}{vs':List V}(O:Nat->Option Addr)(h1: ∀i j a,O i=some a->O j=some a->i=j)(ho:aRh H O)(h2:Same H₀ (Off H O))(hl:ρ.length=σ.length)
  (h3: ∀i sv,ρ[i]? =some (some sv)->Slot K H O σ i sv) (q:ρ[i]? =some (some (.own ds))) (z1:O i=some a) (z2:σ[i]? =some (some (.ref a))) (iv:IsL K (Off H O) ds' vs'):Rel K H₀ (ρ.set i (some (.own ds'))) σ (upd H a (.lst vs')):=by
 have eo:Off (upd H a (.lst vs')) O=Off H O:=Off.upd z1;refine⟨O,h1,fun j b qj=> ?_,by rw[eo];exact h2,by rw[List.length_set,hl],fun j sv qj=> ?_⟩
 ·by_cases e:b=a
  ·subst e;exact⟨_,aAy,rfl⟩
  ·obtain⟨u,w,m⟩:=ho j b qj
   exact⟨u,by rw[aA6 e];exact w,m⟩
 ·by_cases e:j=i
  ·subst e
   have hj:j<ρ.length:=(List.getElem?_eq_some_iff.mp q).1;rw[List.getElem?_set_self hj] at qj;have q':=Option.some.inj (Option.some.inj qj);subst q';exact⟨a,vs',z1,z2,aAy,by rw[eo];exact iv⟩
  ·rw[List.getElem?_set_ne (Ne.symm e)] at qj
   have z:=h3 j sv qj;cases sv with
   | sh d'=>obtain⟨v',e1,e2⟩:=z;exact⟨v',e1,by rw[eo];exact e2⟩
   | own es=>
    obtain⟨b,ws,e1,e2,e3,e4⟩:=z;have nb:b≠a:=fun w=>e (h1 j i a (by rw[<-w];exact e1) z1)
    exact⟨b,ws,e1,e2,by rw[aA6 nb];exact e3,by rw[eo];exact e4⟩
   | oin b C' dx' fs'=>
    obtain⟨e1,e2,e3,ws,e4,e5⟩:=z;have nb:b≠a:=fun w=>e (h1 j i a (by rw[<-w];exact e1) z1)
    exact⟨e1,e2,e3,ws,by rw[aA6 nb];exact e4,by rw[eo];exact e5⟩
   | ow o=>
    obtain⟨b,u,e1,e2,e3,e4⟩:=z;have nb:b≠a:=fun w=>e (h1 j i a (by rw[<-w];exact e1) z1)
    exact⟨b,u,e1,e2,by rw[aA6 nb];exact e3,by rw[eo];exact e4⟩
   | tk ks=>obtain⟨b,e1,e2⟩:=z;exact⟨b,e1,by rw[eo];exact e2⟩
end
section
variable {X:Cx}{B:Hp}{e e':Expr}{es:List Expr}{fa fb:Rho->M D}{ga:Rho->M (List D)}{pos pos' p p2 apos cpos:Pos}{x:Str}{i:Nat}
def sNew (i:Nat)(g:Rho->M (List D)):Rho->Option Out:=fun ρ=>lft (g ρ) ρ fun ds=>if aIm ds=true/\ds.length<=1000 then some (.nx (ρ.set i (some (.own ds)))) else none
theorem aWr (hN:X.N.Nodup)(hi:X.N[i]? =some x)(hx:Loc X.env.scope x)(he:PDA X B es ga)(hs:swapsWith (.List es p) (some (.Name x pos')) pos.line X.env=pure false:=by rfl)(hf:X.fn x=true\/X.env.scope.names.lookup x=some .local:=by first | exact .inl rfl | exact .inr rfl | assumption):
  PDS X B (.Assign [.Name x pos'] (.List es p) pos) (sNew i ga):=by
 refine PS.of (aQs hN hi hx (bIx he) hs hf) fun E σ H h=> ?_
 obtain⟨ρ,r,h⟩:=h;refine⟨ρ,r,(aCe r h).imp fun ds h1 vs H1 e1 i1=> ?_⟩;split at h1
 ·rename_i hh
  refine⟨by rw[<-i1.length];exact Nat.le_trans hh.2 (by decide),fun l hl=> ?_⟩;exact h1 _ _ ((r.mono e1).bLc hl hh.1 i1)
 ·exact False.elim h1
def aYf (G:List D->List D->Option (List D))(i:Nat)(g:Rho->M (List D)):Rho->Option Out:=fun ρ=>match ρ[i]? with
 | some (some (.own ds))=>lft (g ρ) ρ fun as=>if aIm as=true/\ds.length<100000 then (match G ds as with | some ds'=>some (.nx (ρ.set i (some (.own ds')))) | none=>none) else none
 | _=>none
def bT6 (r:V->List V->Hp->VK->Prop)(G:List D->List D->Option (List D)):Prop:=
 ∀(K:PySem.W.Frag) (H0 H1:Hp) (l:Addr) (ds as ds':List D) (vs us:List V) (Q:VK),IsL K H0 ds vs->IsL K H0 as us->H1 l=some (.lst vs)->ds.length<100000->G ds as=some ds'->(∀vs',IsL K H0 ds' vs'->Q .non (upd H1 l (.lst vs')))->r (.ref l) us H1 Q
theorem bK1 {id:String}{name:Str}{r:V->List V->Hp->VK->Prop}{G:List D->List D->Option (List D)}(slot:PySem.Slot "list" name id)(hty:typeOf (.builtin id)=pure (.type "method_descriptor"))(hm:MtM X id r)(hr:bT6 r G)
  (hN:X.N[i]? =some x) (hv:Vis X.env.scope x) (ha:PDA X B (e::es) ga)
  (hfew:((backTo cpos (starEach (e::es) X.env)).all (fun x=> !x.1)&&(backToKw cpos (keywordEach [] X.env)).all (fun x=>x.1.isSome)
   &&decide ((e::es).length+([]:List Keyword).length+(if ([]:List Keyword).isEmpty then 0 else 1)<30))=true)
  (hs:starEach (e::es) X.env=(false,eval e X.env)::starEach es X.env) (hplain:(backTo cpos (starEach es X.env)).any (·.1)=false)
  (hline:(apos.endLine==cpos.line)=true:=by rfl)
  (hsw:swapsWith (.Call (.Attribute (.Name x p) name apos) (e::es) [] cpos) none pos.line X.env=pure false:=by rfl)
  (hd:(x==("__debug__":Str))=false:=by decide) (hcd:(x==("__classdict__":Str))=false:=by decide):
  PDS X B (.Expr (.Call (.Attribute (.Name x p) name apos) (e::es) [] cpos) pos) (aYf G i ga):=by
 refine PS.of (aR5 (bOw PySem.F.plainAttrs_list slot hty hm (aGd hN hv hd hcd) ha (hbase:=rfl) (hfew:=hfew) (hline:=hline) (hs:=hs) (hplain:=hplain)) hsw) fun E σ H h=> ?_
 obtain⟨ρ,r1,h⟩:=h;unfold aYf at h;split at h
 ·rename_i ds q
  obtain⟨O,h1,ho,h2,hl,h3⟩:=(show Rel X.K B ρ σ H from r1);obtain⟨a,vs,z1,z2,z3,z4⟩:=h3 i _ q;refine⟨.ref a,z2,.inl ⟨rfl,_,SqL.of z3⟩,ρ,r1,(aCe r1 h).imp fun as k1 us H1 e1 i1=> ?_⟩;split at k1
  ·rename_i hh
   split at k1
   ·rename_i ds' hG
    have ho1:=ho.mono e1;refine hr X.K (Off H1 O) H1 a ds as ds' vs us _ (z4.mono (Off.mono e1)) (aJi ho1 hh.1 i1) (e1 _ _ z3) hh.2 hG fun vs' i'=> ?_
    exact k1 _ _ (Rel.aWu O h1 ho1 (h2.trans (Off.mono e1)) hl (fun j sv qj=>(h3 j sv qj).mono e1) q z1 z2 i')
   ·exact False.elim k1
  ·exact False.elim k1
 ·exact False.elim h
def aYu (ds:List D):List D->Option (List D)
 | [d]=>some (ds++ [d])
 | _=>none
theorem bPt:bT6 bCe aYu:=by
 intro K H0 H1 l ds as ds' vs us Q i1 i2 hl hn hG q;unfold aYu at hG;split at hG
 ·cases hG
  cases i2 with
  | cons id1 rest=>
   cases rest;exact⟨l,vs,_,rfl,rfl,hl,by rw[<-i1.length];exact Nat.lt_of_lt_of_le hn (by decide),q _ (i1.append (.cons id1 .nil))⟩
 ·cases hG
theorem aJg (hN:X.N[i]? =some x)(hv:Vis X.env.scope x)(ha:PD X B e fa)(hs:aD4 e=true:=by rfl)(hline:(apos.endLine==cpos.line)=true:=by rfl)
  (hsw:swapsWith (.Call (.Attribute (.Name x p) "append" apos) [e] [] cpos) none pos.line X.env=pure false:=by rfl)
  (hd:(x==("__debug__":Str))=false:=by decide) (hcd:(x==("__classdict__":Str))=false:=by decide):
  PDS X B (.Expr (.Call (.Attribute (.Name x p) "append" apos) [e] [] cpos) pos) (aYf aYu i (aAe fa aA3)):=
 bK1 PySem.F.slot_list_append PySem.F.type_list_append aUn bPt hN hv (aAc ha aAk (aA5 hs)) (by rw[aIl hs];rfl) (aA5 hs) rfl hline hsw hd hcd
end
section
variable {X:Cx}{B:Hp}{e:Expr}{fa:Rho->M D}{pos p:Pos}
def blL:List D->Option (List Bool)
 | []=>some []
 | .bl b::ds=>match blL ds with | some bs=>some (b::bs) | none=>none
 | _::_=>none
def bNd:D->M D
 | .lst ds=>match blL ds with | some bs=>ok (.bl (bs.any id)) | none=>none
 | _=>none
theorem bJy {K:PySem.W.Frag}{H:Hp}: ∀(ds:List D) {vs:List V} {bs:List Bool},IsL K H ds vs->blL ds=some bs->vs=bs.map V.bl
 | [],_,_,r,h=>by cases r;cases h;rfl
 | .bl b::ds,_,_,.cons i r,h=>by
  cases i;unfold blL at h;split at h
  ·rename_i bs hb
   cases h;rw[bJy ds r hb];rfl
  ·cases h
 | .non::_,_,_,_,h=>nomatch h
 | .int _::_,_,_,_,h=>nomatch h
 | .str _::_,_,_,_,h=>nomatch h
 | .tup _::_,_,_,_,h=>nomatch h
 | .lst _::_,_,_,_,h=>nomatch h
 | .obj _ _::_,_,_,_,h=>nomatch h
 | .dk _::_,_,_,_,h=>nomatch h
 | .dt _::_,_,_,_,h=>nomatch h
 | .exc _::_,_,_,_,h=>nomatch h
 | .set _::_,_,_,_,h=>nomatch h
theorem bFy {bs:List Bool}{its:List Value}(r:Vals (bs.map V.bl) its){i:Nat}{v:Value}(h:its.toArray[i]? =some v):v= .bool (bs.getD i false):=by
 rw[List.getElem?_toArray] at h
 induction bs generalizing its i with
 | nil=>cases r;simp at h
 | cons b bs ih=>
  cases r with
  | cons r1 r2=>
   cases i with
   | zero=>simp at h;subst h;cases r1;rfl
   | succ i=>rw[List.getElem?_cons_succ] at h;exact ih r2 h
theorem range_any (bs:List Bool):(List.range bs.length).any (fun i=>bs.getD i false)=bs.any id:=by
 induction bs with
 | nil=>rfl
 | cons b bs ih=>rw[List.length_cons,List.range_succ_eq_map,List.any_cons,List.any_map,List.any_cons,<-ih];rfl
def bKl (f:List Bool->Bool)(K:PySem.W.Frag):List V->Hp->VK->Prop:=fun xs H Q=> ∃p bs,xs=[.ref p]/\SqL K H p (bs.map V.bl)/\Q (.bl (f bs)) H
theorem bE2 (hc:X.calm=true):aJe X (.builtin "any") (bKl (fun bs=>bs.any id) X.K):=by
 intro pins s σ H xs us Q I r h;obtain⟨p,bs,rfl,hq,q⟩:=h;obtain⟨u,rfl,rx⟩:=vals1 r;cases rx;obtain⟨its,r',pl,hz⟩:=I.list hq;have hlen:its.toArray.size=bs.length:=by rw[List.size_toArray,<-r'.length,List.length_map]
 have hlt:p<s.heap.objs.size:=by obtain⟨o,_,e,_⟩:=pl;exact Heap.lt_size e
 refine call_any_walk (wpAny_pyIter_list pl.isList ?_);refine⟨s.heap.objs.size,_,_,_,_,_,fun i=>bs.getD i false,rfl,Walks.list (by simpa using I.ok.hd hc) _ p (Nat.ne_of_lt hlt) its.toArray,⟨⟨_,Heap.get?_push_size _ rfl,rfl,rfl⟩,pl.isList.push _⟩,fun i v s Q E hP hQ=> ?_,fun h' tk hk=> ?_⟩
 ·rw[bFy r' hP];exact wpAny_truthy_bool hQ
 ·rw[hlen,range_any]
  exact⟨.bl _,H,I.kept (t':=tk) fun b ob e=>hk b ob (by simp;exact Nat.ne_of_lt (Heap.lt_size e)) (Heap.get?_push_of_some _ e),rfl,q⟩
theorem boot_any:bootBuiltins "any"=some (.builtin "any"):=by decide+kernel
theorem bO2 (hc:X.calm=true)(hg:Gl X "any")(hm:X.mg "any"=none)(ha:PD X B e fa)(hs:aD4 e=true:=by rfl):PD X B (.Call (.Name "any" p) [e] [] pos) (f1 bNd fa):=by
 refine PE.of (aEu (bE2 hc) hg hm boot_any (aBq ha aEi (aA5 hs)) (he:=aA5 hs) (hpl:=by rfl)) fun σ H Q h=> ?_
 obtain⟨ρ,r1,h⟩:=h;refine⟨ρ,r1,(Res.bind h).imp fun d q1 v H1 e1 i1=> ?_⟩;cases i1 with
 | lst hh rr=>
  dsimp only[bNd] at q1
  split at q1
  ·rename_i bs hb
   exact⟨_,bs,rfl,by rw[<-bJy _ rr hb];exact hh,q1 _ H1 e1 (.bl _)⟩
  ·exact False.elim q1
 | _=>exact False.elim q1
end
section
variable {X:Cx}{B:Hp}{e:Expr}{es:List Expr}{fa:Rho->M D}{pos p:Pos}
def PJ (X:Cx)(B:Hp)(es:List Expr)(g:Rho->Str->M Str):Prop:=
 ∀(pins:List (Addr×Obj)) (s:Shared) (σ:St) (H:Hp) (ρ:Rho) (acc:Str) (Q:Str->Shared->Prop),Inv X pins σ H s->Rel X.K B ρ σ H->
  Res X σ H (fun out=>out.length<=sizeLine->∀s' H',Same H H'->Inv X pins σ H' s'->Q out s') (g ρ acc)->Joins (model X.prog X.w) X.A X.xe (evalEach es X.env) acc Q s
def bM9:Rho->Str->M Str:=fun _ acc=>if acc.length<=100000 then ok acc else none
def bNa (y:Str)(g:Rho->Str->M Str):Rho->Str->M Str:=fun ρ acc=>if (acc++y).length<=100000 then g ρ (acc++y) else none
def bP2 (f:Rho->M D)(g:Rho->Str->M Str):Rho->Str->M Str:=fun ρ acc=>bnd (f ρ) fun d=>match d with
 | .str x=>if (reprText x).length<=100000/\(acc++reprText x).length<=100000 then g ρ (acc++reprText x) else none
 | _=>none
theorem bOn:PJ X B [] bM9:=by
 intro pins s σ H ρ acc Q I r h;unfold bM9 at h;split at h
 ·rename_i hz
  exact h (aSt hz) s H (Same.refl H) I
 ·exact False.elim h
theorem bOo {y:Str}{j:Nat}{g:Rho->Str->M Str}(hg:PJ X B es g):PJ X B (.Constant (.str y) j pos::es) (bNa y g):=by
 intro pins s σ H ρ acc Q I r h;unfold bNa at h;split at h
 ·rename_i hz
  refine thn (bIw (X:=X) (x:=y) (j:=j) (pos:=pos) pins s σ H (fun v H1=>v= .str y/\H1=H) I ⟨rfl,rfl⟩) fun v s1 ⟨x,H1,I1,r1,e1,e2⟩=> ?_
  subst e1 e2;obtain⟨t,rfl⟩:=r1;exact⟨y,t,rfl,aSt hz,hg pins s1 σ _ ρ (acc++y) Q I1 r h⟩
 ·exact False.elim h
theorem bOm {g:Rho->Str->M Str}(he:PD X B e fa)(hg:PJ X B es g):PJ X B (.FormattedValue e 114 none pos::es) (bP2 fa g):=by
 intro pins s σ H ρ acc Q I r h;show wpAny _ _ (eval (.FormattedValue e 114 none pos) X.env) _ _ s;refine wpAny_FormattedValue_repr ?_;refine thn (he pins s σ H (fun v H1=> ∃x,v= .str x/\Same H H1/\((reprText x).length<=100000/\(acc++reprText x).length<=100000)/\Res X σ H (fun out=>out.length<=sizeLine->∀s' H',Same H H'->Inv X pins σ H' s'->Q out s') (g ρ (acc++reprText x))) I ⟨ρ,r,(Res.bind h).imp fun d h1 v H1 e1 i1=> ?_⟩) fun v s1 ⟨x',H1,I1,r1,x,e1,sm,hz,h1⟩=> ?_
 ·cases i1<;>first |(exact False.elim h1) | skip
  rename_i x
  dsimp only at h1
  split at h1
  ·rename_i hz
   exact⟨x,rfl,e1,hz,h1⟩
  ·exact False.elim h1
 ·subst e1
  obtain⟨t,rfl⟩:=r1;refine PySem.wpAny_pyReprObj_str ?_ (aSt hz.1);have fin: ∀(t:Tok) (k:Nat),Joins (model X.prog X.w) X.A X.xe (evalEach es X.env) (acc++reprText x) Q {s1 with toks:=k}:=fun t k=>
   hg pins {s1 with toks:=k} σ H1 ρ (acc++reprText x) Q (I1.tok _) (r.mono sm) (h1.mono sm fun out q hz s' H' e' I'=>q hz s' H' (sm.trans e') I')
  exact wpAny_formatField_str ⟨_,_,rfl,aSt hz.2,fin 0 _⟩ ⟨_,_,rfl,aSt hz.2,fin 0 _⟩ (aSt hz.1)
def jnd (g:Rho->Str->M Str):Rho->M D:=fun ρ=>bnd (g ρ Str.empty) fun x=>ok (.str x)
theorem bCs {e1 e2:Expr}{g:Rho->Str->M Str}(hg:PJ X B (e1::e2::es) g):PD X B (.JoinedStr (e1::e2::es) pos) (jnd g):=by
 intro pins s σ H Q I h;obtain⟨ρ,r,h⟩:=h;refine wpAny_JoinedStr (hg pins s σ H ρ Str.empty _ I r ((Res.bind h).imp fun x h1 hz s' H' e' I'=> ?_));exact⟨hz,⟨.str x,H',I'.tok _,⟨_,rfl⟩,h1 _ H' e' (.str x)⟩⟩
end
section
variable {X:Cx}{B:Hp}{e a b:Expr}{fa fb:Rho->M D}{pos p p2 pos2:Pos}
def bA9:List D->Option (List Str)
 | []=>some []
 | .str x::ds=>match bA9 ds with | some xs=>some (x::xs) | none=>none
 | _::_=>none
theorem aRv (xs:List Str):bA9 (xs.map D.str)=some xs:=by
 induction xs with
 | nil=>rfl
 | cons x r ih=>rw[List.map_cons];unfold bA9;rw[ih]
theorem aNs: ∀(ds:List D) {xs:List Str},bA9 ds=some xs->ds=xs.map D.str
 | [],_,h=>by cases h;rfl
 | .str x::ds,_,h=>by
  unfold bA9 at h;split at h
  ·rename_i xs hx
   cases h;rw[aNs ds hx];rfl
  ·cases h
 | .non::_,_,h=>nomatch h
 | .bl _::_,_,h=>nomatch h
 | .int _::_,_,h=>nomatch h
 | .tup _::_,_,h=>nomatch h
 | .lst _::_,_,h=>nomatch h
 | .obj _ _::_,_,h=>nomatch h
 | .dk _::_,_,h=>nomatch h
 | .dt _::_,_,h=>nomatch h
 | .exc _::_,_,h=>nomatch h
 | .set _::_,_,h=>nomatch h
theorem bBk {K:PySem.W.Frag}{H:Hp}: ∀{xs:List Str} {vs:List V} {its:List Value},IsL K H (xs.map D.str) vs->Vals vs its->∀(i:Nat) (v:Value),its[i]? =some v->∃t,v=Value.str (xs.getD i Str.empty) t
 | [],_,_,.nil,r,i,v,h=>by cases r;simp at h
 | x::xs,_,_,.cons i1 r1,r,i,v,h=>by
  cases i1;cases r with
  | cons q r=>
   obtain⟨t,rfl⟩:=q;cases i with
   | zero=>simp at h;subst h;exact⟨t,rfl⟩
   | succ i=>rw[List.getElem?_cons_succ] at h;exact bBk r1 r i v h
def toS:D->M D
 | .tup ds=>match bA9 ds with | some xs=>if xs.length<=2000 then ok (.set (aJj xs)) else none | none=>none
 | .lst ds=>match bA9 ds with | some xs=>if xs.length<=2000 then ok (.set (aJj xs)) else none | none=>none
 | _=>none
def bUx (K:PySem.W.Frag):List V->Hp->VK->Prop:=fun vs H Q=> ∃p ys xs,vs=[.ref p]/\(SqL K H p ys\/SqT K H p ys)/\IsL K H (xs.map D.str) ys/\xs.length<=2000/\∀l,H l=none->Q (.ref l) (upd H l (.set (fun k=>(aJj xs).contains k) (aJj xs).length))
theorem bEz (hc:X.calm=true):aJe X (.type "set") (bUx X.K):=by
 intro pins s σ H vs us Q I r h;obtain⟨p,ys,xs,rfl,hq,ix,hz,q⟩:=h;obtain⟨u,rfl,rx⟩:=vals1 r;cases rx;have hl:=ix.length;rw[List.length_map] at hl;have fin: ∀(its:List Value),Vals ys its->∀(o:Obj) (n:Nat) (T:String),(T="list"\/T="tuple")->s.heap.get? p=some o->o.cls= .type T->o.data= .seq its.toArray n->wpAny (model X.prog X.w) X.A (call (.type "set") [.ref p]) (EP X pins σ Q) X.xe s:=by
  intro its r' o n T hT ho hcl hd;have hlen:xs.length=its.toArray.size:=by rw[List.size_toArray,<-r'.length,hl]
  refine aVh hT (I.ok.hd hc) ho hcl hd (fun i v hv=>bBk ix r' i v (by simpa using hv)) hlen (by rw[<-hlen];show xs.length+1<4096;omega) fun h' tk z zt kp=> ?_
  exact⟨.ref s.heap.objs.size,_,I.laid (t':=tk) kp (Nat.le_refl _) (show aDb X.prog X.w _ h' _ (.set _ _) from⟨z,zt⟩),rfl,q _ (I.hok.fresh (Nat.le_refl _))⟩
 rcases hq with hq | hq
 ·obtain⟨its,r',⟨o,n,ho,hcl,_,hd⟩,_⟩:=I.list hq
  exact fin its r' o n "list" (.inl rfl) ho hcl hd
 ·obtain⟨its,r',⟨o,ho,hcl,n,hd⟩,_⟩:=I.tuple hq
  exact fin its r' o n "tuple" (.inr rfl) ho hcl hd
theorem boot_set:bootBuiltins "set"=some (.type "set"):=by decide+kernel
theorem bOy (hc:X.calm=true)(hg:Gl X "set")(hm:X.mg "set"=none)(ha:PD X B e fa)(hs:aD4 e=true:=by rfl):PD X B (.Call (.Name "set" p) [e] [] pos) (f1 toS fa):=by
 refine PE.of (aIv (bEz hc) hg hm boot_set (aBq ha aEi (aA5 hs)) (he:=aA5 hs) (hpl:=by rfl)) fun σ H Q h=> ?_
 obtain⟨ρ,r1,h⟩:=h;refine⟨ρ,r1,(Res.bind h).imp fun d q1 v H1 e1 i1=> ?_⟩;cases i1 with
 | lst hh rr=>
  dsimp only[toS] at q1
  split at q1
  ·rename_i xs hx
   have ed:=aNs _ hx;subst ed;split at q1
   ·rename_i hz
    exact⟨_,_,xs,rfl,.inl hh,rr,hz,fun l hl=>q1 _ _ (e1.trans (aA4 hl _)) (.set aAy)⟩
   ·exact False.elim q1
  ·exact False.elim q1
 | tup hh rr=>
  dsimp only[toS] at q1
  split at q1
  ·rename_i xs hx
   have ed:=aNs _ hx;subst ed;split at q1
   ·rename_i hz
    exact⟨_,_,xs,rfl,.inr hh,rr,hz,fun l hl=>q1 _ _ (e1.trans (aA4 hl _)) (.set aAy)⟩
   ·exact False.elim q1
  ·exact False.elim q1
 | _=>exact False.elim q1
end
section
variable {X:Cx}{B:Hp}{e a b:Expr}{fa fb:Rho->M D}{pos p p2 pos2:Pos}
theorem aY2 {pins:List (Addr×Obj)}{σ:List (Option V)}{H:Hp}{s:Shared}(I:Inv X pins σ H s)(d:Drawn):Inv X pins σ H {s with drawn:=d}:=⟨I.ok,I.os,I.bare,I.base,I.loc,I.cell,I.free,I.aI4,I.pin,I.hok,I.len⟩
theorem bF2 {K:PySem.W.Frag}{H:Hp}: ∀{vs:List Value} {xs:List Str},StrsAre vs xs->Vals (xs.map V.str) vs/\IsL K H (xs.map D.str) (xs.map V.str)
 | _,_,.nil=>⟨.nil,.nil⟩
 | _,_,.cons y t r=>⟨.cons ⟨t,rfl⟩ (bF2 (K:=K) (H:=H) r).1,.cons (.str y) (bF2 r).2⟩
def bNs:D->M D
 | .set ss=>if ss.length<64/\ss.Nodup then ok (.lst ((aHz ss).map .str)) else none
 | _=>none
theorem aVf (hc:X.calm=true):aJe X (.builtin "sorted") (fun xs H Q=> ∃p ss,xs=[.ref p]/\H p=some (.set (fun k=>(ss:List Str).contains k) ss.length)/\ss.length<64/\ss.Nodup/\∀l,H l=none->Q (.ref l) (upd H l (.lst ((aHz ss).map V.str)))):=by
 intro pins s σ H xs us Q I r h;obtain⟨p,ss,rfl,hp,h64,hn,q⟩:=h;obtain⟨u,rfl,rx⟩:=vals1 r;cases rx;obtain⟨z,zt⟩:=(show aDb X.prog X.w H s.heap p (.set _ _) from I.hok p _ hp);refine aZ3 (I.ok.hd hc) h64 hn z zt fun out l h' tk d m hS hl ho kp=> ?_
 have hlen:(aHz ss).length=ss.length:=(aF9 ss).length_eq;have hs:sizeLine=16777216:=sizeLine_eq;exact⟨.ref l,_,(aY2 I d).laid (t':=tk) kp hl (show aDb X.prog X.w _ h' _ (.lst _) from⟨by rw[List.length_map];omega,out,m,(bF2 (K:=X.K) (H:=H) hS).1,ho⟩),rfl,q _ (I.hok.fresh hl)⟩
theorem boot_sorted:bootBuiltins "sorted"=some (.builtin "sorted"):=by decide+kernel
theorem aSx {K:PySem.W.Frag}{H:Hp}: ∀(xs:List Str),IsL K H (xs.map D.str) (xs.map V.str)
 | []=> .nil
 | x::xs=> .cons (.str x) (aSx xs)
theorem bCq (hc:X.calm=true)(hg:Gl X "sorted")(hm:X.mg "sorted"=none)(ha:PD X B e fa)(hs:aD4 e=true:=by rfl):PD X B (.Call (.Name "sorted" p) [e] [] pos) (f1 bNs fa):=by
 refine PE.of (aEu (aVf hc) hg hm boot_sorted (aBq ha aEi (aA5 hs)) (he:=aA5 hs) (hpl:=by rfl)) fun σ H Q h=> ?_
 obtain⟨ρ,r1,h⟩:=h;refine⟨ρ,r1,(Res.bind h).imp fun d q1 v H1 e1 i1=> ?_⟩;cases i1 with
 | set hh=>
  dsimp only[bNs] at q1
  split at q1
  ·rename_i hz
   exact⟨_,_,rfl,hh,hz.1,hz.2,fun l hl=>q1 _ _ (e1.trans (aA4 hl _)) (.lst (SqL.of aAy) (aSx _))⟩
  ·exact False.elim q1
 | _=>exact False.elim q1
end
def bIh (n:Nat)(f:List D->M D):List D->M D:=fun ds=>if ds.length=n then f ds else none
def aFc (n:Nat)(f:List D->M D):List D->M D:=fun ds=>if ds.length=n then (match f ds with | some (.ok d)=>some (.ok d) | _=>none) else none
theorem aX5 {n:Nat}{f:List D->M D}: ∀ds r,bIh n f ds=some r->ds.length=n:=fun ds r h=>by
 unfold bIh at h;split at h
 ·assumption
 ·cases h
theorem bIg {n:Nat}{f:List D->M D}: ∀ds r,bIh n f ds=some r->f ds=some r:=fun ds r h=>by
 unfold bIh at h;split at h
 ·exact h
 ·cases h
theorem aBi {n:Nat}{f:List D->M D}: ∀ds r,aFc n f ds=some r->ds.length=n:=fun ds r h=>by
 unfold aFc at h;split at h
 ·assumption
 ·cases h
theorem aDn {n:Nat}{f:List D->M D}: ∀ds r,aFc n f ds=some r->∃d,r= .ok d/\f ds=ok d:=fun ds r h=>by
 unfold aFc at h;split at h
 ·split at h
  ·rename_i d hd
   cases h;exact⟨d,rfl,hd⟩
  ·cases h
 ·cases h
theorem aV4 {n:Nat}{f:List D->M D}{ds:List D}{r:M D}(hl:ds.length=n)(h:f ds=r):bIh n f ds=r:=by unfold bIh;rw[if_pos hl,h]
theorem aB2 {n:Nat}{f:List D->M D}{ds:List D}{d:D}(hl:ds.length=n)(h:f ds=ok d):aFc n f ds=ok d:=by unfold aFc;rw[if_pos hl,h];rfl
abbrev tS (xs:List Str):D:= .tup (xs.map D.str)
theorem aU0 (xs:List Str):aIm (xs.map D.str)=true:=by
 induction xs with
 | nil=>rfl
 | cons x r ih=>rw[List.map_cons,aIm,ih];rfl
theorem aO5 (xs:List Str):(tS xs).imm=true:=aU0 xs
theorem bSy (neg:Bool)(x:Str)(h:List Str):gIn neg (.str x) (tS h)=ok (.bl (if neg then !h.contains x else h.contains x)):=by
 unfold gIn;simp only[flD,bTi,Option.bind_some,bHz,bHr]
theorem aN2 {F G:Rho->Option Out}{ρ ρ':Rho}{c:Addr}(h:F ρ=some (.ex c ρ')):aAi F G ρ=some (.ex c ρ'):=by unfold aAi;rw[h]
theorem bBx {C:Addr}{g:Rho->M (List D)}{ρ:Rho}{ds:List D}(h:g ρ=ok ds)(hl:ds.length<=1000):aN3 C g ρ=some (.ex C ρ):=by
 unfold aN3;rw[h];show (if ds.length<=1000 then some (Out.ex C ρ) else none)=_;rw[if_pos hl]
theorem bFj {f g:Rho->M Bool}{ρ:Rho}{a b:Bool}(h1:f ρ=ok a)(h2:g ρ=ok b):bM2 f g ρ=ok (a&&b):=by
 unfold bM2;rw[h1,aCx];cases a
 ·rfl
 ·rw[if_pos rfl,h2];rfl
theorem bI2 {f g:Rho->M Bool}{ρ:Rho}{a b:Bool}(h1:f ρ=ok a)(h2:g ρ=ok b):orB f g ρ=ok (a || b):=by
 unfold orB;rw[h1,aCx];cases a
 ·rw[if_neg (by decide),h2];rfl
 ·rfl
theorem bC1 {C:Addr}{f:Rho->M D}{ρ:Rho}{d:D}(h:f ρ=ok d):aAi (aN3 C (aAe f aA3)) aAp ρ=some (.ex C ρ):=aN2 (bBx (aAf h aAs) (by simp))
theorem len_app (a b:Str):(a++b).length=a.length+b.length:=PySem.strLen_append a b
theorem bU8 {c x:Str}{f:Rho->M D}{ρ:Rho}(hc:c.length<=1000)(hx:(reprText x).length<=10000)(hf:f ρ=ok (.str x)): ∃z,jnd (bNa c (bP2 f bM9)) ρ=ok (.str z):=by
 have e0:Str.empty.length=0:=rfl;have l1:(Str.empty++c).length<=100000:=by rw[len_app,e0];omega
 have l2:(reprText x).length<=100000/\(Str.empty++c++reprText x).length<=100000:=by rw[len_app,len_app,e0];omega
 refine⟨Str.empty++c++reprText x,?_⟩;unfold jnd bNa bP2 bM9;rw[if_pos l1,hf];simp only[aCx];rw[if_pos l2,if_pos l2.2];rfl
def Sh (x:Str):Prop:=(reprText x).length<=10000
abbrev L (s:Str):List Nat:=s.cps.toList
theorem aX0 (a b:Str):L (a++b)=L a++L b:=by
 show (a.cps++b.cps).toList=_;rw[Array.toList_append]
theorem bPv (s:Str):s.length=(L s).length:=by simp[Str.length]
theorem bTg (z:Str)(lo hi:Option Int): ∀c∈L (aFx z lo hi),c∈L z:=fun c hc=>by
 have:c∈(z.cps.toList.drop (HT.sIx z.length 0 lo)).take (HT.sIx z.length z.length hi-HT.sIx z.length 0 lo):=by simpa[aFx] using hc
 exact List.mem_of_mem_drop (List.mem_of_mem_take this)
theorem aKh (z:Str)(lo hi:Option Int):(aFx z lo hi).length<=z.length:=by
 rw[bPv,bPv];have e:L (aFx z lo hi)=(z.cps.toList.drop (HT.sIx z.length 0 lo)).take (HT.sIx z.length z.length hi-HT.sIx z.length 0 lo):=by simp[aFx]
 rw[e,List.length_take,List.length_drop];show _<=z.cps.toList.length;omega
theorem bTf (z:Str): ∀(n:Nat),∀c∈L (aWn z n),c∈L z:=by
 have g: ∀(m:Nat) (a:Array Nat),∀c∈((List.replicate m z.cps).foldl (· ++ ·) a).toList,c∈a.toList\/c∈z.cps.toList:=by
  intro m
  induction m with
  | zero=>intro a c hc;exact .inl hc
  | succ m ih=>
   intro a c hc;rw[List.replicate_succ,List.foldl_cons] at hc;rcases ih _ c hc with h | h
   ·rw[Array.toList_append] at h
    exact List.mem_append.mp h
   ·exact .inr h
 intro n c hc;rcases g n #[] c hc with h | h
 ·simp at h
 ·exact h
def chs:Str:="aXq 0~zB-c!_dEf.gH1i(jK"
theorem aXu:(L chs).length=23:=by decide+kernel
theorem bQr:(L chs).Nodup:=by decide+kernel
theorem bQs: ∀c∈L chs,c<16^8:=by decide+kernel
def chr (i:Nat):Str:=⟨#[(L chs).getD i 0]⟩
def nam (st k:Int):Str:=
 if st/23%3=1 then aFx "zz" none (some (st%3))++aWn "a" ((5*k+st)%23).toNat
 else aFx "zyzy" none (some (st/69%4))++chr ((5*k+st)%23).toNat++aFx "yzzy" none (some (st/276%4))
theorem bJx {i:Nat}(h:i<23):(L chs)[i]? =some ((L chs).getD i 0):=by
 have h':i<(L chs).length:=by rw[aXu];exact h
 rw[List.getD_eq_getElem?_getD,List.getElem?_eq_getElem h'];rfl
theorem bLt {st k k':Int}(h1:0<=k)(h2:k<23)(h3:0<=k')(h4:k'<23)(e:nam st k=nam st k'):k=k':=by
 have lo: ∀z:Int,0<=z%23/\z%23<23:=fun z=>by omega
 obtain⟨a1,a2⟩:=lo (5*k+st);obtain⟨b1,b2⟩:=lo (5*k'+st);have key:((5*k+st)%23).toNat=((5*k'+st)%23).toNat->k=k':=fun q=>by omega
 unfold nam at e;split at e
 ·have el:=congrArg Str.length e
  rw[len_app,len_app,aN7,aN7] at el;have e1:(("a":Str)).length=1:=by decide+kernel
  rw[e1] at el;exact key (by omega)
 ·have el:=congrArg L e
  rw[aX0,aX0,aX0,aX0] at el;have el2:=List.append_cancel_right el;have el3:=List.append_cancel_left el2;have ec:(L chs).getD ((5*k+st)%23).toNat 0=(L chs).getD ((5*k'+st)%23).toNat 0:=by
   have:[(L chs).getD ((5*k+st)%23).toNat 0]=[(L chs).getD ((5*k'+st)%23).toNat 0]:=by simpa[chr] using el3
   injection this
  have n1:((5*k+st)%23).toNat<(L chs).length:=by rw[aXu];omega
  have n2:((5*k'+st)%23).toNat<(L chs).length:=by rw[aXu];omega
  rw[List.getD_eq_getElem?_getD,List.getD_eq_getElem?_getD,List.getElem?_eq_getElem n1,List.getElem?_eq_getElem n2] at ec;exact key ((List.getElem_inj bQr).mp ec)
theorem bPj (st k:Int):Sh (nam st k)/\(nam st k).length<=100:=by
 have a1:0<=(5*k+st)%23/\(5*k+st)%23<23:=by omega
 have hz: ∀(z:Str) (o:Option Int),(∀c∈L z,c<16^8)->∀c∈L (aFx z none o),c<16^8:=fun z o h c hc=>h c (bTg z none o c hc)
 have z1: ∀c∈L "zz",c<16^8:=by decide+kernel
 have z2: ∀c∈L "zyzy",c<16^8:=by decide+kernel
 have z3: ∀c∈L "yzzy",c<16^8:=by decide+kernel
 have z4: ∀c∈L "a",c<16^8:=by decide+kernel
 have l1:(("zz":Str)).length=2:=by decide+kernel
 have l2:(("zyzy":Str)).length=4:=by decide+kernel
 have l3:(("yzzy":Str)).length=4:=by decide+kernel
 have l4:(("a":Str)).length=1:=by decide+kernel
 have hh:(∀c∈L (nam st k),c<16^8)/\(nam st k).length<=100:=by
  unfold nam;split
  ·constructor
   ·intro c hc
    rw[aX0] at hc;rcases List.mem_append.mp hc with hc | hc
    ·exact hz _ _ z1 c hc
    ·exact z4 c (bTf _ _ c hc)
   ·rw[len_app,aN7,l4]
    have:=aKh "zz" none (some (st%3));omega
  ·constructor
   ·intro c hc
    rw[aX0,aX0] at hc;rcases List.mem_append.mp hc with hc | hc
    ·rcases List.mem_append.mp hc with hc | hc
     ·exact hz _ _ z2 c hc
     ·have e:c=(L chs).getD ((5*k+st)%23).toNat 0:=by simpa[chr] using hc
      exact bQs c (by rw[e];exact List.mem_of_getElem? (bJx (by omega)))
    ·exact hz _ _ z3 c hc
   ·rw[len_app,len_app]
    have:=aKh "zyzy" none (some (st/69%4));have:=aKh "yzzy" none (some (st/276%4));have e:(chr ((5*k+st)%23).toNat).length=1:=rfl;omega
 refine⟨?_,hh.2⟩;have:=PySem.StrLaws.reprText_len (nam st k) hh.1;unfold Sh;omega
theorem aK5 {i j:Int}(h1:0<=i)(h2:i<1000000000000000000000000000000)(h3:0<=j)(h4:j<1000000000000000000000000000000):aM5 i j=true:=by
 have q: ∀z:Int,0<=z->z<1000000000000000000000000000000->z.natAbs<2^1048576:=fun z a b=>aF1 (m:=100) (by omega) (by decide)
 exact aW8 (q i h1 h2) (q j h3 h4)
def mix (c:Int):Int:=(c%1000000000+1)*2862933555777941757%1000000000000000000000007
theorem p9:(10:Int)^(9:Int).toNat=1000000000:=by decide
theorem p24:(10:Int)^(24:Int).toNat=1000000000000000000000000:=by decide
def bJs:Rho->Option Out:=
  (aAi (aB7 (b2 aC1 (b2 aCn (b2 aBd (b2 aC1 (look 0) (b2 aM6 (con (.int 10)) (con (.int 9)))) (con (.int 1))) (con (.int 2862933555777941757))) (b2 aBd (b2 aM6 (con (.int 10)) (con (.int 24))) (con (.int 7)))))
  aAp)
theorem bI6 (c:Int):aAn (bJs [some (.sh (.int c))])=ok (.int (mix c)):=by
 have hm:aM5 (c%1000000000+1) 2862933555777941757=true:=aK5 (by omega) (by omega) (by omega) (by omega);simp[bJs,aAi,aB7,b2,look,con,bnd,ok,lft,aC1,aBd,aCn,bJi,aM6,p9,p24,aAn,SV.cur,hm,mix]
def aXn:Rho->Option Out:=
  (aAi (aDy 2 (b2 aC1 (b2 aBd (b2 aCn (con (.int 5)) (look 1)) (look 0)) (con (.int 23))))
  (aAi (sIf (aA2 (b2 gEq (b2 aC1 (b2 aB9 (look 0) (con (.int 23))) (con (.int 3))) (con (.int 1)))) (aAi (aB7 (b2 aBd (bBb (con (.str "zz")) aSm (aKc (b2 aC1 (look 0) (con (.int 3))))) (b2 aCn (con (.str "a")) (look 2))))
  aAp) aAp)
  (aAi (aB7 (b2 aBd (b2 aBd (bBb (con (.str "zyzy")) aSm (aKc (b2 aC1 (b2 aB9 (look 0) (con (.int 69))) (con (.int 4))))) (b2 gIx (con (.str "aXq 0~zB-c!_dEf.gH1i(jK")) (look 2))) (bBb (con (.str "yzzy")) aSm (aKc (b2 aC1 (b2 aB9 (look 0) (con (.int 276))) (con (.int 4)))))))
  aAp)))
theorem bLs {st k:Int}(h1:0<=st)(h2:st<2000)(h3:0<=k)(h4:k<1000):aAn (aXn [some (.sh (.int st)),some (.sh (.int k)),none])=ok (.str (nam st k)):=by
 have hm:aM5 5 k=true:=aK5 (by omega) (by omega) (by omega) (by omega);have a1:0<=(5*k+st)%23/\(5*k+st)%23<23:=by omega
 have s1:aDy 2 (b2 aC1 (b2 aBd (b2 aCn (con (.int 5)) (look 1)) (look 0)) (con (.int 23))) [some (.sh (.int st)),some (.sh (.int k)),none]=some (.nx [some (.sh (.int st)),some (.sh (.int k)),some (.sh (.int ((5*k+st)%23)))]):=by
  simp[aDy,b2,look,con,bnd,ok,lft,aC1,aBd,aCn,bJi,SV.cur,hm,aLk,D.imm]
 have l1:(("zz":Str)).length=2:=by decide+kernel
 have l2:(("zyzy":Str)).length=4:=by decide+kernel
 have l3:(("yzzy":Str)).length=4:=by decide+kernel
 have l4:(("a":Str)).length=1:=by decide+kernel
 have l5:chs.length=23:=by decide+kernel
 have d2:b2 gEq (b2 aC1 (b2 aB9 (look 0) (con (.int 23))) (con (.int 3))) (con (.int 1)) [some (.sh (.int st)),some (.sh (.int k)),some (.sh (.int ((5*k+st)%23)))]=ok (.bl (decide (st/23%3=1))):=by
  simp[b2,look,con,bnd,ok,aC1,aB9,gEq,eqF,SV.cur]
 have cut: ∀(z:Str) (f:Rho->M D) (i:Int) (ρ:Rho),z.length<=1000->f ρ=ok (.int i)->bBb (con (.str z)) aSm (aKc f) ρ=ok (.str (aFx z none (some i))):=fun z f i ρ hz hf=>by
  unfold bBb aKc aSm con;rw[hf];simp only[aCx];show (if z.length<=1000 then ok (D.str (aFx z none (some i))) else none)=_;rw[if_pos hz]
 have plus: ∀(f g:Rho->M D) (x y:Str) (ρ:Rho),x.length<=1000->y.length<=1000->f ρ=ok (.str x)->g ρ=ok (.str y)->b2 aBd f g ρ=ok (.str (x++y)):=fun f g x y ρ hx hy hf hg=>by
  refine aGu hf hg ?_;show (if x.length+y.length<=100000 then ok (D.str (x++y)) else none)=_;rw[if_pos (by omega)]
 have md: ∀(d:Int),0<d->b2 aC1 (look 0) (con (.int d)) [some (.sh (.int st)),some (.sh (.int k)),some (.sh (.int ((5*k+st)%23)))]=ok (.int (st%d)):=fun d hd=>by
  simp[b2,look,con,bnd,ok,aC1,SV.cur,hd]
 have mf: ∀(d e:Int),0<d->0<e->d<1000->b2 aC1 (b2 aB9 (look 0) (con (.int d))) (con (.int e)) [some (.sh (.int st)),some (.sh (.int k)),some (.sh (.int ((5*k+st)%23)))]=ok (.int (st/d%e)):=fun d e hd he hd2=>by
  have hd3:d<1073741824:=by omega
  simp[b2,look,con,bnd,ok,aC1,aB9,SV.cur,hd,he,hd3]
 unfold aXn;rw[aAg s1];by_cases hb:st/23%3=1
 ·rw[decide_eq_true hb] at d2
  have t2:b2 aCn (con (.str "a")) (look 2) [some (.sh (.int st)),some (.sh (.int k)),some (.sh (.int ((5*k+st)%23)))]=ok (.str (aWn "a" ((5*k+st)%23).toNat)):=by
   refine aGu (x:= .str "a") (y:= .int ((5*k+st)%23)) rfl rfl ?_;show (if 0<=(5*k+st)%23/\(("a":Str)).length<=1000/\(5*k+st)%23<=1000 then ok (D.str (aWn "a" ((5*k+st)%23).toNat)) else none)=_;rw[if_pos ⟨a1.1,by rw[l4];decide,by omega⟩]
  have c1:=cut "zz" (b2 aC1 (look 0) (con (.int 3))) _ _ (by rw[l1];decide) (md 3 (by decide));have p1:=plus _ _ _ _ _ (by have:=aKh "zz" none (some (st%3));omega) (by rw[aN7,l4];omega) c1 t2;rw[aBf ((aMy (aEa d2)).trans (aBf (aBp p1)))];unfold nam;rw[if_pos hb];rfl
 ·rw[decide_eq_false hb] at d2
  rw[aAg ((aJ9 (aEa d2)).trans rfl)];have c1:=cut "zyzy" (b2 aC1 (b2 aB9 (look 0) (con (.int 69))) (con (.int 4))) _ _ (by rw[l2];decide) (mf 69 4 (by decide) (by decide) (by decide));have c2:=cut "yzzy" (b2 aC1 (b2 aB9 (look 0) (con (.int 276))) (con (.int 4))) _ _ (by rw[l3];decide) (mf 276 4 (by decide) (by decide) (by decide));have i1:b2 gIx (con (.str "aXq 0~zB-c!_dEf.gH1i(jK")) (look 2) [some (.sh (.int st)),some (.sh (.int k)),some (.sh (.int ((5*k+st)%23)))]=ok (.str (chr ((5*k+st)%23).toNat)):=by
   refine aGu (x:= .str chs) (y:= .int ((5*k+st)%23)) rfl rfl ?_;show (if chs.length<=1000 then (match atI (L chs) ((5*k+st)%23) with | some c=>ok (D.str ⟨#[c]⟩) | none=>none) else none)=_;have ea:atI (L chs) ((5*k+st)%23)=some ((L chs).getD ((5*k+st)%23).toNat 0):=by
    have e:(5*k+st)%23=(((5*k+st)%23).toNat:Int):=by omega
    rw[e,Int.toNat_natCast];exact aPm (bJx (by omega))
   rw[if_pos (by rw[l5];decide),ea];rfl
  have p1:=plus _ _ _ _ _ (by have:=aKh "zyzy" none (some (st/69%4));omega) (show (chr ((5*k+st)%23).toNat).length<=1000 from (show 1<=1000 by decide)) c1 i1;have p2:=plus _ _ _ _ _ (by rw[len_app];have:=aKh "zyzy" none (some (st/69%4));have e:(chr ((5*k+st)%23).toNat).length=1:=rfl;omega) (by have:=aKh "yzzy" none (some (st/276%4));omega) p1 c2;rw[aBf (aBp p2)];unfold nam;rw[if_neg hb];rfl
def bRe:List D->M D
 | [.int c]=>ok (.int (mix c))
 | _=>none
def fName:List D->M D
 | [.int st,.int k]=>if 0<=st/\st<2000/\0<=k/\k<1000 then ok (.str (nam st k)) else none
 | _=>none
theorem bEi: ∀ds r,fName ds=some r->ds.length=2:=by
 intro ds r h;unfold fName at h;split at h
 ·rfl
 ·cases h
theorem bHi (N:List Str)(hN:N.length=3): ∀ds r,fName ds=some r->∃d,r= .ok d/\aAn (aXn (aBg N ds))=ok d:=by
 intro ds r h;unfold fName at h;split at h
 ·rename_i st k
  split at h
  ·rename_i q
   cases h;refine⟨_,rfl,?_⟩;have e0:aBg N [.int st,.int k]=[some (.sh (.int st)),some (.sh (.int k)),none]:=by unfold aBg;rw[hN];rfl
   rw[e0];exact bLs q.1 q.2.1 q.2.2.1 q.2.2.2
  ·cases h
 ·cases h
theorem bH2 {st k:Int}(h:0<=st/\st<2000/\0<=k/\k<1000):fName [.int st,.int k]=ok (.str (nam st k)):=if_pos h
theorem bR8: ∀(xs:List Str),xs.length<=1000->(tS xs).pl=true:=fun xs h=>by
 have g: ∀ys:List Str,plL (ys.map D.str)=true:=by
  intro ys
  induction ys with
  | nil=>rfl
  | cons y r ih=>rw[List.map_cons,plL,ih];rfl
 show (decide ((xs.map D.str).length<=100000)&&plL (xs.map D.str))=true;rw[g,List.length_map,decide_eq_true (by omega)];rfl
theorem bQl (xs:List Str):(tS xs).dep<=1:=by
 have g: ∀ys:List Str,aZd (ys.map D.str)=0:=by
  intro ys
  induction ys with
  | nil=>rfl
  | cons y r ih=>rw[List.map_cons,aZd,ih];rfl
 show aZd (xs.map D.str)+1<=1;rw[g];exact Nat.le_refl _
theorem aVv {ns:List Int}{rest:Rho}(k:Nat):app fAt (aAe (look 0) (aAe (con (.int (k:Int))) aA3)) (some (.sh (.lst (ns.map D.int)))::rest)=ok (.int (atZ ns k)):=by
 rw[aBj (aAf (d:= .lst (ns.map D.int)) rfl (aAf (d:= .int (k:Int)) rfl aAs))];exact bH3 ns k
theorem aFy {f g:Rho->M D}{ρ:Rho}{i j:Int}(h1:f ρ=ok (.int i))(h2:g ρ=ok (.int j))(hj:0<j):b2 aC1 f g ρ=ok (.int (i%j)):=by
 refine aGu h1 h2 ?_;show (if 0<j then ok (D.int (i%j)) else none)=_;rw[if_pos hj]
theorem aI5 {f g:Rho->M D}{ρ:Rho}{i j:Int}(h1:f ρ=ok (.int i))(h2:g ρ=ok (.int j))(hj:0<j)(hj2:j<1073741824):b2 aB9 f g ρ=ok (.int (i/j)):=by
 refine aGu h1 h2 ?_;simp[aB9,hj,hj2]
theorem aIj {f g:Rho->M D}{ρ:Rho}{i j:Int}(h1:f ρ=ok (.int i))(h2:g ρ=ok (.int j)):b2 aBd f g ρ=ok (.int (i+j)):=aGu h1 h2 rfl
theorem aRe {f g:Rho->M D}{ρ:Rho}{i j:Int}(h1:f ρ=ok (.int i))(h2:g ρ=ok (.int j)):b2 gEq f g ρ=ok (.bl (decide (i=j))):=aGu h1 h2 rfl
theorem bSz {neg:Bool}{f g:Rho->M D}{ρ:Rho}{x:Str}{h:List Str}(h1:f ρ=ok (.str x))(h2:g ρ=ok (tS h)):b2 (gIn neg) f g ρ=ok (.bl (if neg then !h.contains x else h.contains x)):=aGu h1 h2 (bSy neg x h)
theorem aA1 {i:Nat}{f:Rho->M D}{ρ:Rho}{d:D}(h:f ρ=ok d)(hd:d.imm=true):aDy i f ρ=some (.nx (ρ.set i (some (.sh d)))):=by rw[aR1 h,aEk hd]
theorem aR2 {i:Nat}{f:Rho->M D}{ρ:Rho}{d:D}(h:f ρ=ok d)(hf:free ρ=ρ):aDy i f ρ=some (.nx (ρ.set i (some (.sh d)))):=by
 rw[aR1 h];unfold aLk;split
 ·rfl
 ·rw[hf]
theorem aVe {k:Nat}{fe:Rho->M D}{ρ:Rho}{g:Nat->D}: ∀(l:List Nat),(∀j∈l,fe (ρ.set k (some (.sh (.int (j:Int)))))=ok (g j)/\(g j).imm=true)->
  aMp [k] h1 (fun _=>ok true) fe (l.map fun (j:Nat)=>D.int (0+(j:Int))) ρ=ok (l.map g)
 | [],_=>rfl
 | x::l,h=>by
  have ih:=aVe (g:=g) l (fun y hy=>h y (List.mem_cons_of_mem _ hy));obtain⟨e1,e2⟩:=h x List.mem_cons_self;rw[List.map_cons];unfold aMp;show (match fe (ρ.set k (some (.sh (.int (0+(x:Int)))))) with
    | some (.ok r)=>if r.imm=true then bnd (aMp [k] h1 (fun _=>ok true) fe (l.map fun (j:Nat)=>D.int (0+(j:Int))) ρ) fun rs=>ok (r::rs) else none
    | _=>none)=_
  rw[Int.zero_add,e1,ih];show (if (g x).imm=true then bnd (ok (l.map g)) fun rs=>ok (g x::rs) else none)=_;rw[if_pos e2];rfl
theorem bMt {m k n:Nat}{f:Rho->M D}{fe:Rho->M D}{ρ:Rho}{g:Nat->D}(hf:f ρ=ok (.int (n:Int)))(hn:n<=1000000)(h: ∀j,j<n->fe ((ext m (free ρ)).set k (some (.sh (.int (j:Int)))))=ok (g j)/\(g j).imm=true):
  cmp m (itR f) [k] h1 (fun _=>ok true) fe ρ=ok (.lst ((List.range n).map g)):=by
 have e:itR f ρ=ok (rng 0 n):=by
  unfold itR;rw[hf];rw[aCx];simp only[bR1];rw[if_pos ⟨by omega,by omega⟩,Int.toNat_natCast]
 unfold cmp;rw[e,aCx,if_pos (by unfold rng;rw[List.length_map,List.length_range];exact hn)];unfold rng;rw[aVe (List.range n) (fun j hj=>h j (List.mem_range.mp hj))];rfl
def nms (n:Nat)(st:Int):List Str:=(List.range n).map fun (j:Nat)=>nam st (j:Int)
theorem bLq (n:Nat)(st:Int):(nms n st).length=n:=by unfold nms;rw[List.length_map,List.length_range]
theorem bPh (n:Nat)(hn:n<=23)(st:Int):(nms n st).Nodup:=by
 unfold nms;unfold List.Nodup;rw[List.pairwise_map];refine List.Pairwise.imp_of_mem (R:=(· < ·)) ?_ List.pairwise_lt_range;intro a b ha hb hab e;rw[List.mem_range] at ha hb;have:=bLt (st:=st) (k:=a) (k':=b) (by omega) (by omega) (by omega) (by omega) e;omega
theorem bPg (n:Nat)(st:Int): ∀x∈nms n st,Sh x:=fun x hx=>by
 obtain⟨j,_,rfl⟩:=List.mem_map.mp hx;exact (bPj st j).1
theorem bHh {m k n:Nat}{f fs:Rho->M D}{ρ:Rho}{st:Int}(hf:f ρ=ok (.int (n:Int)))(hn:n<=1000)(hst:0<=st/\st<2000)(hs: ∀v,fs ((ext m (free ρ)).set k v)=ok (.int st))(hk:k<(ext m (free ρ)).length):
  cmp m (itR f) [k] h1 (fun _=>ok true) (app fName (aAe fs (aAe (look k) aA3))) ρ=ok (.lst ((nms n st).map D.str)):=by
 rw[bMt (g:=fun j=> .str (nam st (j:Int))) hf (by omega) (fun j hj=>⟨?_,rfl⟩)]
 ·unfold nms
  rw[List.map_map];rfl
 ·have lk:look k ((ext m (free ρ)).set k (some (.sh (.int (j:Int)))))=ok (.int (j:Int)):=by
   unfold look;rw[List.getElem?_set_self hk];rfl
  rw[aBj (aAf (hs _) (aAf lk aAs))];exact bH2 ⟨hst.1,hst.2,by omega,by omega⟩
theorem bJ6 {f:Rho->M D}{ρ:Rho}{b:Bool}(h:f ρ=ok (.bl b)):test f ρ=ok b:=by unfold test;rw[h];rfl
theorem bFb {α:Type}(f:α->Bool): ∀(l:List α),blL (l.map fun c=>D.bl (f c))=some (l.map f)
 | []=>rfl
 | x::l=>by rw[List.map_cons,blL,bFb f l];rfl
def Pw (m:Nat):Prop:=m=8\/m=16\/m=32\/m=64\/m=128
theorem above {n:Nat}(h:n<128):Pw (SetTable.sizeAbove n)/\n<SetTable.sizeAbove n:=by
 have g:(List.range 128).all (fun n=>decide ((SetTable.sizeAbove n=8\/SetTable.sizeAbove n=16\/SetTable.sizeAbove n=32\/SetTable.sizeAbove n=64\/SetTable.sizeAbove n=128)/\n<SetTable.sizeAbove n))=true:=by decide+kernel
 rw[List.all_eq_true] at g;have:=g n (List.mem_range.mpr h);rw[decide_eq_true_eq] at this;exact this
section
variable {prog:Program}{w:World}{A:Around}{E:Value->Shared->Prop}{s:Shared}
theorem aXs {l:Addr}{vs:List Value}{T:String}{o:Obj}{nn:Nat}{Q:List Value->Shared->Prop}(hT:T="list"\/T="tuple")(ho:s.heap.get? l=some o)(hc:o.cls= .type T)(hd:o.data= .seq vs.toArray nn)(hz:vs.length<=100000)
  (h:Q vs {s with heap:=(s.heap.push (seqObj "list" #[] 0)).update s.heap.objs.size (Obj.mapSeq (· ++vs.toArray))}):wpAny (model prog w) A (collect (.ref l)) Q E s:=by
 have hs:sizeLine=16777216:=sizeLine_eq;unfold collect;refine wpAny_bind (wpAny_runValue (codeAny_builtin entry_proto_collect' ?_));refine wpAny_bind (wpAny_newList (wpAny_pure ⟨Code.quiet_builtin _ (by decide+kernel),codeAny_builtin entry_list_iadd' ?_⟩));have ho':(s.heap.push (seqObj "list" #[] 0)).get? l=some o:=Heap.get?_push_of_some _ ho;show wpAny _ _ (Builtin.List.listExtendWith (.ref s.heap.objs.size) (.ref l) (.ref s.heap.objs.size)) _ _ _;unfold Builtin.List.listExtendWith;refine wpAny_bind (wpAny_typeOf (T:=T) ⟨o,ho',hc⟩ ?_);have ht:(Value.type T==Value.type "list" || Value.type T==Value.type "tuple")=true:=by rcases hT with rfl | rfl<;>rfl
 rw[if_pos (by rw[Bool.or_assoc,ht,Bool.or_true])];refine wpAny_bind (listItems_at ho' hd ?_);have hnew:(s.heap.push (seqObj "list" #[] 0)).get? s.heap.objs.size=some (seqObj "list" #[] 0):=Heap.get?_push_size _ rfl;refine wpAny_bind (listItems_at (xs:= #[]) (n:=0) hnew rfl ?_);rw[if_neg (by simp)];have hz2:(#[]++vs.toArray:Array Value).size<=sizeLine+1:=by rw[Array.size_append,List.size_toArray];simp;omega
 refine wpAny_bind (listUpdate_at (xs:= #[]) (n:=0) hnew rfl (wpAny_pure ?_) (Nat.zero_le _) hz2);refine wpAny_bind (wpAny_load (get?_update_seq hnew _) ?_);have e:((#[]:Array Value)++vs.toArray).toList=vs:=by simp
 show wpAny _ _ (pure ((#[]:Array Value)++vs.toArray).toList) Q E _;rw[e];exact wpAny_pure h
end
section
variable {X:Cx}{B:Hp}{e a b:Expr}{fa fb:Rho->M D}{pos p p2 pos2:Pos}
theorem aX9 {K:PySem.W.Frag}{H:Hp}: ∀{xs:List Str} {vs:List V} {its:List Value},IsL K H (xs.map D.str) vs->Vals vs its->StrsAre its xs
 | [],_,_,.nil,r=>by cases r;exact .nil
 | x::xs,_,_,.cons h q,r=>by
  cases h;cases r with
  | cons r1 r2=>
   obtain⟨t,rfl⟩:=r1;exact .cons x t (aX9 q r2)
def bBo:D->M D
 | .lst ds=>match bA9 ds with | some xs=>if xs.length<64 then ok (.lst ((aHz xs).map .str)) else none | none=>none
 | .tup ds=>match bA9 ds with | some xs=>if xs.length<64 then ok (.lst ((aHz xs).map .str)) else none | none=>none
 | _=>none
theorem aVg (hc:X.calm=true):aJe X (.builtin "sorted") (fun xs H Q=> ∃p ys ss,xs=[.ref p]/\(SqL X.K H p ys\/SqT X.K H p ys)/\IsL X.K H ((ss:List Str).map D.str) ys/\ss.length<64/\∀l,H l=none->Q (.ref l) (upd H l (.lst ((aHz ss).map V.str)))):=by
 intro pins s σ H xs us Q I r h;obtain⟨p,ys,ss,rfl,hp,hi,h64,q⟩:=h;obtain⟨u,rfl,rx⟩:=vals1 r;cases rx;have hs:sizeLine=16777216:=sizeLine_eq;have key: ∃(its:List Value) (T:String) (o:Obj) (nn:Nat),Vals ys its/\(T="list"\/T="tuple")/\s.heap.get? p=some o/\o.cls= .type T/\o.data= .seq its.toArray nn:=by
  rcases hp with hp | hp
  ·obtain⟨its,r1,⟨o,nn,e1,e2,_,e3⟩,_⟩:=I.list hp
   exact⟨its,"list",o,nn,r1,.inl rfl,e1,e2,e3⟩
  ·obtain⟨its,r1,⟨o,e1,e2,nn,e3⟩,_⟩:=I.tuple hp
   exact⟨its,"tuple",o,nn,r1,.inr rfl,e1,e2,e3⟩
 obtain⟨its,T,o,nn,r1,hT,ho,hcl,hd⟩:=key;have hS:=aX9 hi r1;have hlen:its.length=ss.length:=hS.len_eq;refine aTy (xs:=ss) (I.ok.hd hc) h64 (fun B' Q' hB q'=>aXs hT ho hcl hd (by omega) (q' its ss _ s.toks s.drawn hS (List.Perm.refl _) ?_ fun b ob eb=> ?_)) fun out l h' tk d m hS' hl ho' kp=> ?_
 ·rw[Heap.size_update,Heap.size_push]
  exact Nat.le_succ _
 ·rw[Heap.get?_update_other _ _ (Nat.ne_of_gt (Heap.lt_size eb))]
  exact Heap.get?_push_of_some _ eb
 ·have hl2:(aHz ss).length=ss.length:=(aF9 ss).length_eq
  exact⟨.ref l,_,(aY2 I d).laid (t':=tk) kp hl (show aDb X.prog X.w _ h' _ (.lst _) from⟨by rw[List.length_map];omega,out,m,(bF2 (K:=X.K) (H:=H) hS').1,ho'⟩),rfl,q _ (I.hok.fresh hl)⟩
theorem aQx (hc:X.calm=true)(hg:Gl X "sorted")(hm:X.mg "sorted"=none)(ha:PD X B e fa)(hs:aD4 e=true:=by rfl):PD X B (.Call (.Name "sorted" p) [e] [] pos) (f1 bBo fa):=by
 refine PE.of (aEu (aVg hc) hg hm boot_sorted (aBq ha aEi (aA5 hs)) (he:=aA5 hs) (hpl:=by rfl)) fun σ H Q h=> ?_
 obtain⟨ρ,r1,h⟩:=h;refine⟨ρ,r1,(Res.bind h).imp fun d q1 v H1 e1 i1=> ?_⟩;cases i1 with
 | lst hh rr=>
  dsimp only[bBo] at q1
  split at q1
  ·rename_i xs hx
   split at q1
   ·rename_i hz
    have ex:=aNs _ hx;subst ex;exact⟨_,_,xs,rfl,.inl hh,rr,hz,fun l hl=>q1 _ _ (e1.trans (aA4 hl _)) (.lst (SqL.of aAy) (aSx _))⟩
   ·exact False.elim q1
  ·exact False.elim q1
 | tup hh rr=>
  dsimp only[bBo] at q1
  split at q1
  ·rename_i xs hx
   split at q1
   ·rename_i hz
    have ex:=aNs _ hx;subst ex;exact⟨_,_,xs,rfl,.inr hh,rr,hz,fun l hl=>q1 _ _ (e1.trans (aA4 hl _)) (.lst (SqL.of aAy) (aSx _))⟩
   ·exact False.elim q1
  ·exact False.elim q1
 | _=>exact False.elim q1
end
theorem aXy {f g:Rho->M D}{ρ:Rho}{a b:Bool}(h1:f ρ=ok (.bl a))(h2:g ρ=ok (.bl b)):aV0 f g ρ=ok (.bl (a&&b)):=by
 unfold aV0;rw[h1];show (if a=true then g ρ else ok (.bl false))=_;cases a
 ·rfl
 ·rw[if_pos rfl,h2];rfl
theorem bO6 {f g:Rho->M D}{ρ:Rho}{a b:Bool}(h1:f ρ=ok (.bl a))(h2:g ρ=ok (.bl b)):orV f g ρ=ok (.bl (a || b)):=by
 unfold orV;rw[h1];show (if a=true then ok (.bl true) else g ρ)=_;cases a
 ·rw[if_neg (by decide),h2];rfl
 ·rfl
theorem aLe {g:D->M D}{f:Rho->M D}{ρ:Rho}{d:D}{r:M D}(h:f ρ=ok d)(h2:g d=r):f1 g f ρ=r:=by unfold f1;rw[h];exact h2
theorem bDo {ds:List D}{j:Nat}{d:D}(h:ds[j]? =some d):gIx (.tup ds) (.int (j:Int))=ok d:=by
 show (match atI ds (j:Int) with | some d=>ok d | none=>none)=_;rw[aPm h]
theorem aYw {ds:List D}{j:Nat}{d:D}(h:ds[j]? =some d):gIx (.lst ds) (.int (j:Int))=ok d:=by
 show (match atI ds (j:Int) with | some d=>ok d | none=>none)=_;rw[aPm h]
theorem bP9 {f g:Rho->M D}{ρ:Rho}{i j:Int}(h1:f ρ=ok (.int i))(h2:g ρ=ok (.int j)):b2 gGt f g ρ=ok (.bl (decide (j<i))):=aGu h1 h2 rfl
theorem bBi {f g:Rho->M D}{ρ:Rho}{i j:Int}(h1:f ρ=ok (.int i))(h2:g ρ=ok (.int j)):b2 aXh f g ρ=ok (.int (i-j)):=aGu h1 h2 rfl
theorem aQ3 {f g:Rho->M D}{ρ:Rho}{i j:Int}(h1:f ρ=ok (.int i))(h2:g ρ=ok (.int j))(hm:aM5 i j=true):b2 aCn f g ρ=ok (.int (i*j)):=aGu h1 h2 (by simp[aCn,bJi,hm])
theorem aB4 {G:D->Rho->Option Rho}{F:Rho->Option Out}{d:D}{ds:List D}{ρ ρ1 ρ2:Rho}(h1:G d ρ=some ρ1)(h2:F ρ1=some (.nx ρ2)):loop G F (d::ds) ρ=loop G F ds ρ2:=by
 (conv=>lhs;unfold loop)
 rw[h1]
 dsimp only
 rw[h2]
def aJm:Rho->Option Out:=
  (aAi (sIf (aA2 (b2 gEq (b2 aC1 (look 0) (con (.int 3))) (con (.int 0)))) (aAi (aB7 (b2 aC1 (b2 aB9 (look 0) (con (.int 3))) (con (.int 4))))
  aAp) aAp)
  (aAi (sIf (aA2 (b2 gEq (b2 aC1 (look 0) (con (.int 3))) (con (.int 1)))) (aAi (aB7 (b2 aBd (b2 aCn (b2 aC1 (b2 aB9 (look 0) (con (.int 3))) (b2 aM6 (con (.int 10)) (con (.int 20)))) (b2 aM6 (con (.int 10)) (con (.int 39)))) (b2 aC1 (look 0) (con (.int 7)))))
  aAp) aAp)
  (aAi (aB7 (b2 aC1 (b2 aB9 (look 0) (con (.int 3))) (b2 aM6 (con (.int 10)) (con (.int 60)))))
  aAp)))
theorem aW6 (N:List Str)(hN:N.length=1): ∀ds r,aGl ds=some r->∃d,r= .ok d/\aAn (aJm (aBg N ds))=ok d:=by
 intro ds r h;unfold aGl at h;split at h
 ·rename_i c
  cases h;refine⟨_,rfl,?_⟩;have e0:aBg N [.int c]=[some (.sh (.int c))]:=by unfold aBg;rw[hN];rfl
  rw[e0];have q:=aYn c;unfold num at q⊢;by_cases h0:c%3=0
  ·rw[if_pos h0]
   simp[aJm,aAi,sIf,aB7,aA2,b2,look,con,bnd,ok,lft,aC1,aB9,gEq,eqF,aVz,aAn,SV.cur,h0]
  ·rw[if_neg h0] at q⊢
   by_cases h1:c%3=1
   ·rw[if_pos h1] at q⊢
    have hm:aM5 (c/3%100000000000000000000) 1000000000000000000000000000000000000000=true:=bC9 (by omega) (by omega) (by omega) (by omega);simp[aJm,aAi,sIf,aB7,aA2,b2,look,con,bnd,ok,lft,aC1,aB9,gEq,eqF,aVz,aAn,SV.cur,h0,h1,aAp,aM6,aCn,bJi,aBd,hm]
   ·rw[if_neg h1] at q⊢
    simp[aJm,aAi,sIf,aB7,aA2,b2,look,con,bnd,ok,lft,aC1,aB9,gEq,eqF,aVz,aAn,SV.cur,h0,h1,aAp,aM6,aCn,bJi,aBd]
 ·cases h
theorem bNl (xs:List Str)(hl:xs.length<=2000):toS (.lst (xs.map D.str))=ok (.set (aJj xs)):=by
 show (match bA9 (xs.map D.str) with | some xs=>if xs.length<=2000 then ok (D.set (aJj xs)) else none | none=>none)=_;rw[aRv];show (if xs.length<=2000 then ok (D.set (aJj xs)) else none)=_;rw[if_pos hl]
theorem bKc {xs:List Str}(hl:xs.length<64):bBo (.lst (xs.map D.str))=ok (.lst ((aHz xs).map D.str)):=by
 show (match bA9 (xs.map D.str) with | some xs=>if xs.length<64 then ok (D.lst ((aHz xs).map .str)) else none | none=>none)=_;rw[aRv];show (if xs.length<64 then _ else _)=_;rw[if_pos hl]
def ItI (h:Heap)(it d:Addr)(i n ep:Nat):Prop:= ∃f0 f1 k v,h.get? it=some {cls:= .type "dict_itemiterator",dict:=none,data:= .fields #[f0,f1,.ref d,.int i 0,.int n 0,.int ep 0,k,v],slots:= #[]}/\(f0=Value.none\/∃(a:Addr) (o:Obj),f0=rawInt (a:Int)/\h.get? a=some o/\a≠it)
section
variable {prog:Program}{w:World}{A:Around}{E:Value->Shared->Prop}{s:Shared}
theorem bMf {it d:Addr}{i ep:Nat}{od:Obj}{es:Array DictEntry}{e:DictEntry}{Q:Option Value->Shared->Prop}(hit:ItI s.heap it d i es.size ep)(hod:s.heap.get? d=some od)(hdd:od.data= .dict es ep)(hx:es[i]? =some e)
  (q: ∀h',ItI h' it d (i+1) es.size ep->h'.get? s.heap.objs.size=some {cls:= .type "tuple",data:= .seq #[e.key,e.val]}->(∀b o,b≠it->s.heap.get? b=some o->h'.get? b=some o)->Q (some (.ref s.heap.objs.size)) {s with heap:=h'}):
  wpAny (model prog w) A (pyNext (.ref it)) Q E s:=by
 obtain⟨f0,f1,k,v,hi,hf⟩:=hit;have hT:s.TypeIs (.ref it) "dict_itemiterator":=⟨_,hi,rfl⟩;have hown:Builtin.Dict_items.ownsTuple "dict_itemiterator"=true:=by decide
 have lti:=Heap.lt_size hi;unfold pyNext;refine wpAny_bind (wpAny_attempt (wpAny_callSpecial?_slot (name:=Str.ofString "__next__") hT PySem.F.slot_dict_itemiterator_next (wpAny_call_entry PySem.F.slot_dict_itemiterator_next hT PySem.F.entry_dict_itemiterator_next ?_ (PySem.F.args_dict_itemiterator_next_1 _))));refine wpAny_bind (wpAny_pure ?_);refine wpAny_bind ?_;refine wpAny_bind ?_;refine wpAny_bind (wpAny_typeNameOfWhole_itemiter hT (wpAny_pure ?_));refine wpAny_bind (wpAny_fieldsOf hi rfl ?_);simp only[hown,if_true];show wpAny _ _ (if (Value.ref d==Value.none)=true then _ else _) _ _ _;rw[if_neg (show ¬((Value.ref d==Value.none)=true) from Bool.false_ne_true)];refine wpAny_bind (wpAny_pure ?_);refine wpAny_bind (wpAny_dictEntries hod hdd ?_);rw[if_neg (by simp)];refine wpAny_bind (wpAny_pure ?_);refine wpAny_bind (wpAny_dictEpoch hod hdd ?_);rw[if_neg (by simp)];refine wpAny_pure ?_;simp only[show ¬((i:Int)<0) from by omega,if_false,Int.toNat_natCast,hx];refine wpAny_bind ?_;refine wpAny_bind (wpAny_typeNameOfWhole_itemiter hT (wpAny_pure ?_));refine wpAny_bind (wpAny_isOneOf_itemiter hT ?_);show wpAny _ _ (setField (.ref it) 3 (rawInt ((i:Int)+1))>>=_) _ _ _;refine wpAny_bind (wpAny_setField_rec hi (by simp) fun h₁ he₁ hs₁=> ?_);have ei:((i:Int)+1)=((i+1:Nat):Int):=by omega
 replace he₁:h₁.get? it=some {cls:= .type "dict_itemiterator",dict:=none,data:= .fields #[f0,f1,.ref d,.int ((i+1:Nat):Int) 0,.int es.size 0,.int ep 0,k,v],slots:= #[]}:=by
  rw[he₁,ei];rfl
 have hT1: ∀h',h'.get? it=some {cls:= .type "dict_itemiterator",dict:=none,data:= .fields #[f0,f1,.ref d,.int ((i+1:Nat):Int) 0,.int es.size 0,.int ep 0,k,v],slots:= #[]}->Shared.TypeIs {s with heap:=h'} (.ref it) "dict_itemiterator":=fun h' e=>⟨_,e,rfl⟩
 refine wpAny_bind (wpAny_holding ?_);refine wpAny_bind (wpAny_isOneOf_itemiter (hT1 _ he₁) ?_);rw[if_neg (by decide)];refine wpAny_bind (wpAny_isOneOf_itemiter (hT1 _ he₁) ?_);rw[if_neg (by decide)];unfold Builtin.Dict_items.pairFromOwner;simp only[newTuple];refine wpAny_bind (wpAny_newObj_type ?_ (by size_fits));have sz1:h₁.objs.size=s.heap.objs.size:=hs₁.1;have he₂:(h₁.push {cls:= .type "tuple",data:= .seq #[e.key,e.val]}).get? it=some {cls:= .type "dict_itemiterator",dict:=none,data:= .fields #[f0,f1,.ref d,.int ((i+1:Nat):Int) 0,.int es.size 0,.int ep 0,k,v],slots:= #[]}:=Heap.get?_push_of_some _ he₁;have bIj:(h₁.push {cls:= .type "tuple",data:= .seq #[e.key,e.val]}).get? h₁.objs.size=some {cls:= .type "tuple",data:= .seq #[e.key,e.val]}:=Heap.get?_push_size _ rfl;have kp2: ∀b o,b≠it->s.heap.get? b=some o->(h₁.push {cls:= .type "tuple",data:= .seq #[e.key,e.val]}).get? b=some o:=fun b o nb eb=>Heap.get?_push_of_some _ ((hs₁.2 b nb).trans eb)
 have nsz:h₁.objs.size≠it:=by rw[sz1];exact Nat.ne_of_gt lti
 dsimp only
 generalize (h₁.push {cls:= .type "tuple",data:= .seq #[e.key,e.val]})=h₂ at he₂ bIj kp2⊢;rcases hf with rfl |⟨a,oa,rfl,ha,na⟩
 ·refine wpAny_bind ?_
  unfold Builtin.Dict_items.ownedTupleIsFree;refine wpAny_bind (wpAny_field he₂ rfl (x:= .none) rfl (wpAny_pure ?_));rw[if_pos rfl];refine wpAny_bind (wpAny_field he₂ rfl (x:=k) rfl ?_);refine wpAny_bind (wpAny_field he₂ rfl (x:=v) rfl ?_);refine wpAny_bind (wpAny_setField_rec he₂ (by simp) fun h₃ he₃ hs₃=> ?_);refine wpAny_bind (wpAny_setField_rec he₃ (by simp) fun h₄ he₄ hs₄=> ?_);refine wpAny_bind (wpAny_setField_rec he₄ (by simp) fun h₅ he₅ hs₅=> ?_);refine wpAny_bind (wpAny_setField_rec he₅ (by simp) fun h₆ he₆ hs₆=> ?_);refine wpAny_bind (wpAny_letGo (wpAny_pure (wpAny_pure ⟨_,rfl,wpAny_pure ?_⟩)));have up: ∀b o,b≠it->h₂.get? b=some o->h₆.get? b=some o:=fun b o nb eb=>(hs₆.2 b nb).trans ((hs₅.2 b nb).trans ((hs₄.2 b nb).trans ((hs₃.2 b nb).trans eb)))
  rw[sz1] at bIj nsz⊢;refine q h₆ ⟨rawInt ((s.heap.objs.size:Nat):Int),.bool false,e.key,e.val,he₆.trans (by rw[sz1];rfl),.inr ⟨s.heap.objs.size,_,rfl,up _ _ nsz bIj,nsz⟩⟩ (up _ _ nsz bIj) fun b o nb eb=>up b o nb (kp2 b o nb eb)
 ·refine wpAny_bind ?_
  unfold Builtin.Dict_items.ownedTupleIsFree;refine wpAny_bind (wpAny_field he₂ rfl (x:=rawInt (a:Int)) rfl ?_);have ha2:=kp2 a oa na ha;show wpAny _ _ (loadIfAlive (a:Int).toNat>>=_) _ _ _;rw[Int.toNat_natCast];refine wpAny_bind (PySem.W.kdx_alive ha2 ?_);rw[if_neg (by simp)];refine wpAny_bind (wpAny_field he₂ rfl (x:=f1) rfl ?_);by_cases hf1:(f1 !=Value.bool true)=true
  ·rw[if_pos hf1]
   refine wpAny_bind (wpAny_setField_rec he₂ (by simp) fun h₃ he₃ hs₃=>wpAny_pure ?_);rw[if_neg (by decide)];refine wpAny_pure (wpAny_pure ⟨_,rfl,wpAny_pure ?_⟩);have up: ∀b o,b≠it->h₂.get? b=some o->h₃.get? b=some o:=fun b o nb eb=>(hs₃.2 b nb).trans eb
   rw[sz1] at bIj nsz⊢;exact q h₃ ⟨rawInt (a:Int),.bool true,k,v,he₃,.inr ⟨a,oa,rfl,up _ _ na ha2,na⟩⟩ (up _ _ nsz bIj) fun b o nb eb=>up b o nb (kp2 b o nb eb)
  ·rw[if_neg hf1]
   refine wpAny_pure ?_;rw[if_neg (by decide)];refine wpAny_pure (wpAny_pure ⟨_,rfl,wpAny_pure ?_⟩);rw[sz1] at bIj nsz⊢;exact q h₂ ⟨rawInt (a:Int),f1,k,v,he₂,.inr ⟨a,oa,rfl,ha2,na⟩⟩ bIj kp2
theorem bP7 {it d:Addr}{i ep:Nat}{od:Obj}{es:Array DictEntry}{Q:Option Value->Shared->Prop}(hh:A.handled=none)(hit:ItI s.heap it d i es.size ep)(hod:s.heap.get? d=some od)(hdd:od.data= .dict es ep)(hx:es[i]? =none)
  (q: ∀h',Heap.ExtBut it s.heap h'->Q none {s with heap:=h'}):wpAny (model prog w) A (pyNext (.ref it)) Q E s:=by
 obtain⟨f0,f1,k,v,hi,hf⟩:=hit;have hT:s.TypeIs (.ref it) "dict_itemiterator":=⟨_,hi,rfl⟩;have hown:Builtin.Dict_items.ownsTuple "dict_itemiterator"=true:=by decide
 unfold pyNext;refine wpAny_bind (wpAny_attempt (wpAny_callSpecial?_slot (name:=Str.ofString "__next__") hT PySem.F.slot_dict_itemiterator_next (wpAny_call_entry PySem.F.slot_dict_itemiterator_next hT PySem.F.entry_dict_itemiterator_next ?_ (PySem.F.args_dict_itemiterator_next_1 _))));refine wpAny_bind (wpAny_pure ?_);refine wpAny_bind ?_;refine wpAny_bind ?_;refine wpAny_bind (wpAny_typeNameOfWhole_itemiter hT (wpAny_pure ?_));refine wpAny_bind (wpAny_fieldsOf hi rfl ?_);simp only[hown,if_true];show wpAny _ _ (if (Value.ref d==Value.none)=true then _ else _) _ _ _;rw[if_neg (show ¬((Value.ref d==Value.none)=true) from Bool.false_ne_true)];refine wpAny_bind (wpAny_pure ?_);refine wpAny_bind (wpAny_dictEntries hod hdd ?_);rw[if_neg (by simp)];refine wpAny_bind (wpAny_pure ?_);refine wpAny_bind (wpAny_dictEpoch hod hdd ?_);rw[if_neg (by simp)];refine wpAny_pure ?_;simp only[show ¬((i:Int)<0) from by omega,if_false,Int.toNat_natCast,hx];refine wpAny_bind ?_;refine wpAny_bind (wpAny_typeNameOfWhole_itemiter hT (wpAny_pure ?_));show wpAny _ _ (setField (.ref it) 2 .none>>=_) _ _ s;refine wpAny_bind (wpAny_setField hi rfl (by simp) ?_)
 wp_walk
 simp only[raiseNew];refine wpAny_bind (wpAny_handled ?_);rw[show A.in1.handled=none by simp[hh]];refine wpAny_bind (wpAny_pure (wpAny_throw ?_));refine wpAny_bind (wpAny_isInstance (T:="StopIteration") (b:=true) ⟨_,Heap.get?_push_size _ rfl,rfl⟩ isSubtype_stop (wpAny_pure (q _ ?_)));exact (((Heap.SameBut.update ..).extBut.push _).push _)
def GI (es:Array DictEntry)(I:Addr)(h:Heap)(as:List Addr):Prop:= ∀(j:Nat) (a:Addr),as[j]? =some a->I<a/\∃e,es[j]? =some e/\h.get? a=some {cls:= .type "tuple",data:= .seq #[e.key,e.val]}
theorem bMd {S I d:Addr}{ep:Nat}{od:Obj}{es:Array DictEntry}{R:Result->Shared->Prop}(hh:A.handled=none)(hSI:S<I)(hSd:d≠S)(hId:d≠I)(hdd:od.data= .dict es ep)(hn:es.size<=sizeLine)(res:Value){h₁:Heap}
  (hR: ∀h' tk acc c as,(∀b o,b≠S->b≠I->h₁.get? b=some o->h'.get? b=some o)->h'.get? S=some {cls:= .type "list",dict:=none,data:= .seq acc c,slots:= #[]}->as.length=es.size->GI es I h' as->as.Nodup->acc.toList=as.map Value.ref->R (.ok (.ret res)) {s with heap:=h',toks:=tk}):
  ∀(k i:Nat) (h:Heap) (tk c:Nat) (acc:Array Value) (as:List Addr),es.size-i=k->i<=es.size->ItI h I d i es.size ep->h.get? d=some od->(∀b o,b≠S->b≠I->h₁.get? b=some o->h.get? b=some o)->
   h.get? S=some {cls:= .type "list",dict:=none,data:= .seq acc c,slots:= #[]}->acc.toList=as.map Value.ref->as.length=i->GI es I h as->as.Nodup->I<h.objs.size->
   codeAny (model prog w) A (.builtin "list.extend.loop" ⟨[.ref S,.ref I,res],[]⟩) R {s with heap:=h,toks:=tk}:=by
 have hne:S≠I:=Nat.ne_of_lt hSI;intro k
 induction k with
 | zero=>
  intro i h tk c acc as hk hi hst hD hkeep hS hacc hal hG hnd hq;refine codeAny_builtin PySem.F.entry_extend_loop ?_;rw[Around.under_plainId PySem.F.plain_extend_loop _];show wpAny _ A.in1 (pyNext (.ref I)>>=_) _ _ _;refine wpAny_bind (bP7 (s:={s with heap:=h,toks:=tk}) (A:=A.in1) (by simp[hh]) hst hD hdd (Array.getElem?_eq_none (by omega)) fun h' he=> ?_);refine wpAny_pure (hR h' tk acc c as (fun b o h1 h2 e=>he b o h2 (hkeep b o h1 h2 e)) (he S _ hne hS) (by omega) (fun j a hj=> ?_) hnd hacc);obtain⟨e1,e,e2,e3⟩:=hG j a hj;exact⟨e1,e,e2,he a _ (Nat.ne_of_gt e1) e3⟩
 | succ k ih=>
  intro i h tk c acc as hk hi hst hD hkeep hS hacc hal hG hnd hIs;have hlt:i<es.size:=by omega
  have hx:es[i]? =some es[i]:=Array.getElem?_eq_getElem hlt;have hsz:acc.size=i:=by rw[<-Array.length_toList,hacc,List.length_map,hal]
  have hSl:S<h.objs.size:=Heap.lt_size hS;refine codeAny_builtin PySem.F.entry_extend_loop ?_;rw[Around.under_plainId PySem.F.plain_extend_loop _];show wpAny _ A.in1 (pyNext (.ref I)>>=_) _ _ _;refine wpAny_bind (bMf (s:={s with heap:=h,toks:=tk}) hst hD hdd hx fun h' hst' ht hkp=> ?_)
  dsimp only at ht hkp⊢
  have hS':=hkp S _ hne hS;have up: ∀b o,b≠S->h'.get? b=some o->(h'.update S (Obj.mapSeq (·.push (Value.ref h.objs.size)))).get? b=some o:=fun b o hb e=>(Heap.get?_update_other _ _ (Ne.symm hb)).trans e
  have hSn:=Heap.get?_update_self (Obj.mapSeq (·.push (Value.ref h.objs.size))) hS' rfl;have st2:ItI (h'.update S (Obj.mapSeq (·.push (Value.ref h.objs.size)))) I d (i+1) es.size ep:=by
   obtain⟨f0,f1,kk,v,g1,g2⟩:=hst';refine⟨f0,f1,kk,v,up _ _ (Ne.symm hne) g1,?_⟩;rcases g2 with g2 |⟨a,o,e1,e2,e3⟩
   ·exact .inl g2
   ·by_cases ea:a=S
    ·subst ea;exact .inr ⟨a,_,e1,hSn,e3⟩
    ·exact .inr ⟨a,o,e1,up _ _ ea e2,e3⟩
  have nd2:(as++ [h.objs.size]).Nodup:=by
   refine List.nodup_append.mpr ⟨hnd,by simp,fun x hx y hy=> ?_⟩;rw[List.mem_singleton] at hy;subst hy;obtain⟨j,hj⟩:=List.mem_iff_getElem?.mp hx;obtain⟨_,e,_,e3⟩:=hG j x hj;exact Nat.ne_of_lt (Heap.lt_size e3)
  show wpAny _ A.in1 (updateSeq S (·.push (Value.ref h.objs.size))>>=_) _ _ _;refine wpAny_bind ?_;refine wpAny_updateSeq hS' rfl (wpAny_pure ⟨plainId_quiet PySem.F.plain_extend_loop _,ih (i+1) _ tk _ (acc.push (Value.ref h.objs.size)) (as++ [h.objs.size]) (by omega) hlt st2 (up d _ hSd (hkp d _ hId hD))
   (fun b o h1 h2 e=>up b o h1 (hkp b o h2 (hkeep b o h1 h2 e))) hSn (by rw[Array.toList_push,hacc,List.map_append];rfl) (by rw[List.length_append,hal];rfl) (fun j b hj=> ?_) nd2 (by obtain⟨_,_,_,_,g1,_⟩:=st2;exact Heap.lt_size g1)⟩)
   (by rw[hsz];omega) (by show (acc.push _).size<=sizeLine+1;rw[Array.size_push,hsz];omega)
  rcases Nat.lt_trichotomy j as.length with h1 | h1 | h1
  ·rw[List.getElem?_append_left h1] at hj
   obtain⟨e1,e,e2,e3⟩:=hG j b hj;exact⟨e1,e,e2,up b _ (Nat.ne_of_gt (Nat.lt_trans hSI e1)) (hkp b _ (Nat.ne_of_gt e1) e3)⟩
  ·subst h1
   have hb:h.objs.size=b:=by simpa using hj
   subst hb;exact⟨hIs,es[i],by rw[hal];exact hx,up _ _ (Nat.ne_of_gt hSl) ht⟩
  ·have hnone:(as++ [h.objs.size])[j]? =none:=List.getElem?_eq_none (by rw[List.length_append,List.length_singleton];omega)
   rw[hnone] at hj;cases hj
theorem bMe {r d:Addr}{ep:Nat}{od:Obj}{es:Array DictEntry}{Q:Value->Shared->Prop}(hv:s.heap.IsItemsView r d)(hod:s.heap.get? d=some od)(hdd:od.data= .dict es ep)
  (q: ∀h',ItI h' s.heap.objs.size d 0 es.size ep->(∀b o,s.heap.get? b=some o->h'.get? b=some o)->s.heap.objs.size<h'.objs.size->Q (.ref s.heap.objs.size) {s with heap:=h'}):wpAny (model prog w) A (pyIter (.ref r)) Q E s:=by
 obtain⟨ov,hov,hcv,hdv⟩:=id hv;refine wpAny_pyIter_slot hv.typeIs PySem.F.slot_dict_items_iter (wpAny_call_entry PySem.F.slot_dict_items_iter hv.typeIs PySem.F.entry_dict_items_iter ?_ (PySem.F.args_dict_items_iter_1 _));unfold Builtin.«dict_items.__iter__»;refine wpAny_bind (wpAny_pure ?_);refine wpAny_bind ?_;unfold Builtin.Dict_items.dictOf;refine wpAny_bind (wpAny_field hov hdv (x:= .ref d) rfl (wpAny_pure ?_));refine wpAny_bind ?_;unfold Builtin.Dict_items.newIterator;refine wpAny_bind (wpAny_dictEntries hod hdd ?_);refine wpAny_bind (wpAny_dictEpoch hod hdd ?_);have hown:Builtin.Dict_items.ownsTuple "dict_itemiterator"=true:=by decide
 simp only[hown,if_true];have fin:(s.heap.push {cls:= .type "dict_itemiterator",data:= .fields #[.none,.bool false,.ref d,.int 0 0,.int es.size 0,.int ep 0,.none,.none]}).get? s.heap.objs.size=some {cls:= .type "dict_itemiterator",dict:=none,data:= .fields #[.none,.bool false,.ref d,.int 0 0,.int es.size 0,.int ep 0,.none,.none],slots:= #[]}:=Heap.get?_push_size _ rfl;refine wpAny_newObj_type (wpAny_pure ⟨_,rfl,"dict_itemiterator",_,⟨_,Heap.get?_push_size _ rfl,rfl⟩,PySem.F.slot_dict_itemiterator_next.lookup,?_⟩) (by simp only[sizeOk,Builtin.Dict_items.ownedTupleFields,List.size_toArray,List.length_append,List.length_cons,List.length_nil,sizeLine_eq];omega);refine q _ ⟨.none,.bool false,.none,.none,fin,.inl rfl⟩ (fun b o e=>Heap.get?_push_of_some _ e) (Heap.lt_size fin)
theorem bAt {d:Addr}{ep:Nat}{od:Obj}{es:Array DictEntry}{Q:Value->Shared->Prop}(hT:s.TypeIs (.ref d) "dict")(hd:(d==sysModules)=false)
  (q:Q (.ref s.heap.objs.size) {s with heap:=s.heap.push {cls:= .type "dict_items",data:= .fields #[.ref d]}}):wpAny (model prog w) A (call (.builtin "dict.items") [.ref d]) Q E s:=by
 refine wpAny_call_entry PySem.F.slot_dict_items hT PySem.F.entry_dict_items ?_ (PySem.F.args_dict_items_1 _);unfold Builtin.«dict.items»;refine wpAny_bind ?_;unfold Builtin.Dict.noArgs;refine wpAny_bind (wpAny_notOrdered_dict hT ?_);show wpAny _ _ (pure d) _ _ s;refine wpAny_pure ?_;show wpAny _ _ (Builtin.Dict.showsAll d>>=_) _ _ s;unfold Builtin.Dict.showsAll;rw[if_neg (by rw[hd];exact Bool.false_ne_true)];refine wpAny_bind (wpAny_pure ?_);exact wpAny_bind (wpAny_newObj_type (wpAny_pure ⟨_,rfl,q⟩))
theorem aTe {r d:Addr}{ep:Nat}{od:Obj}{es:Array DictEntry}{Q:List Value->Shared->Prop}(hh:A.handled=none)(hv:s.heap.IsItemsView r d)(hod:s.heap.get? d=some od)(hdd:od.data= .dict es ep)(hn:es.size<=sizeLine)
  (hQ: ∀h' tk as,(∀b o,s.heap.get? b=some o->h'.get? b=some o)->as.length=es.size->GI es s.heap.objs.size h' as->as.Nodup->s.heap.objs.size<h'.objs.size->Q (as.map Value.ref) {s with heap:=h',toks:=tk}):wpAny (model prog w) A (collect (.ref r)) Q E s:=by
 obtain⟨ov,hov,hcv,hdv⟩:=id hv;have ltr:=Heap.lt_size hov;have ltd:=Heap.lt_size hod;have nr:s.heap.objs.size≠r:=Nat.ne_of_gt ltr;have h1:Builtin.List.listSameRef (.ref s.heap.objs.size) (.ref r)=false:=by simp[Builtin.List.listSameRef,nr]
 unfold collect;refine wpAny_bind (wpAny_runValue (codeAny_builtin F.entry_proto_collect ?_));rw[Around.under_plainId F.plain_proto_collect _];show wpAny _ A.in1 (newList []>>=fun l=>again (.builtin "list.__iadd__" ⟨[l,.ref r],[]⟩)) _ _ s;refine wpAny_bind (wpAny_newObj_type (wpAny_pure ⟨plainId_quiet F.plain_list_iadd _,codeAny_builtin F.entry_list_iadd ?_⟩));rw[Around.under_plainId F.plain_list_iadd _];show wpAny _ A.in1 (Builtin.List.listExtendWith (.ref s.heap.objs.size) (.ref r) (.ref s.heap.objs.size)) _ _ _;generalize hL:({cls:= .type "list",data:= .seq ([]:List Value).toArray}:Obj)=L;have l1:(s.heap.push L).get? s.heap.objs.size=some L:=Heap.get?_push_size _ (by rw[<-hL];rfl);have hv1:(s.heap.push L).IsItemsView r d:=⟨ov,Heap.get?_push_of_some _ hov,hcv,hdv⟩;have bTz:(s.heap.push L).get? d=some od:=Heap.get?_push_of_some _ hod;have sz:(s.heap.push L).objs.size=s.heap.objs.size+1:=by simp[Heap.push]
 have hT:Shared.TypeIs {s with heap:=s.heap.push L} (.ref r) "dict_items":=⟨ov,Heap.get?_push_of_some _ hov,hcv⟩;unfold Builtin.List.listExtendWith;refine wpAny_bind (wpAny_typeOf hT ?_);rw[if_neg (by rw[h1];decide)];refine wpAny_bind (bMe (s:={s with heap:=s.heap.push L}) hv1 bTz hdd fun h2 hit kp2 lt2=> ?_)
 dsimp only at hit kp2 lt2⊢
 refine wpAny_bind (wpAny_holding (PySem.W.kdx_hint (s:={s with heap:=h2}) ⟨ov,kp2 r _ (Heap.get?_push_of_some _ hov),hcv⟩ ?_));rw[if_pos (by decide)];have l2:h2.get? s.heap.objs.size=some {cls:= .type "list",data:= .seq #[]}:=by rw[kp2 _ _ l1,<-hL]
 refine wpAny_bind (wpAny_rule (wpAny_bind ?_));show wpAny _ A.in1 (updateSeq s.heap.objs.size (·.push .none)>>=fun _=>updateSeq s.heap.objs.size (·.pop)) _ _ _;refine wpAny_bind (wpAny_updateSeq l2 rfl ?_);have l3:=Heap.get?_update_self (Obj.mapSeq (·.push Value.none)) l2 rfl;refine wpAny_updateSeq l3 rfl ?_;have l4:=Heap.get?_update_self (Obj.mapSeq (·.pop)) l3 rfl;have kp4: ∀b o,b≠s.heap.objs.size->h2.get? b=some o->((h2.update s.heap.objs.size (Obj.mapSeq (·.push Value.none))).update s.heap.objs.size (Obj.mapSeq (·.pop))).get? b=some o:=fun b o nb e=>(Heap.get?_update_other _ _ (Ne.symm nb)).trans ((Heap.get?_update_other _ _ (Ne.symm nb)).trans e)
 rw[sz] at hit lt2⊢;have nI:s.heap.objs.size+1≠s.heap.objs.size:=Nat.succ_ne_self _;have bT0:ItI ((h2.update s.heap.objs.size (Obj.mapSeq (·.push Value.none))).update s.heap.objs.size (Obj.mapSeq (·.pop))) (s.heap.objs.size+1) d 0 es.size ep:=by
  obtain⟨f0,f1,kk,v,g1,g2⟩:=hit;refine⟨f0,f1,kk,v,kp4 _ _ nI g1,?_⟩;rcases g2 with g2 |⟨a,o,e1,e2,e3⟩
  ·exact .inl g2
  ·by_cases ea:a=s.heap.objs.size
   ·subst ea;exact .inr ⟨_,_,e1,l4,e3⟩
   ·exact .inr ⟨a,o,e1,kp4 _ _ ea e2,e3⟩
 refine wpAny_pure ⟨plainId_quiet F.plain_extend_loop _,?_⟩;refine bMd (s:=s) (S:=s.heap.objs.size) (I:=s.heap.objs.size+1) (h₁:=s.heap) hh (Nat.lt_succ_self _) (Nat.ne_of_lt ltd) (Nat.ne_of_lt (Nat.lt_succ_of_lt ltd)) hdd hn _ (fun h' tk acc c as hk hS hal hG hnd hacc=> ?_) es.size 0 _ s.toks _ #[] [] rfl (Nat.zero_le _) bT0 (kp4 _ _ (Nat.ne_of_lt ltd) (kp2 _ _ bTz)) (fun b o nb _ e=>kp4 _ _ nb (kp2 _ _ (Heap.get?_push_of_some _ e))) l4 rfl rfl (fun j a hj=>by simp at hj) List.nodup_nil (by obtain⟨_,_,_,_,g1,_⟩:=bT0;exact Heap.lt_size g1);show wpAny _ A (load s.heap.objs.size>>=_) _ _ _;refine wpAny_bind (wpAny_load hS (wpAny_pure ?_));rw[hacc];refine hQ h' tk as (fun b o e=>hk b o (Nat.ne_of_lt (Heap.lt_size e)) (Nat.ne_of_lt (Nat.lt_succ_of_lt (Heap.lt_size e))) e) hal (fun j a hj=> ?_) hnd (Heap.lt_size hS);obtain⟨g1,g2⟩:=hG j a hj;exact⟨Nat.lt_of_succ_lt g1,g2⟩
end
def aNh:List Str->List Str->Bool
 | [],[]=>false
 | [],_::_=>true
 | _::_,[]=>false
 | x::xs,y::ys=>if x=y then aNh xs ys else decide (x.cps.toList<y.cps.toList)
def TxA:List Value->List Str->Prop
 | [],[]=>True
 | v::vs,x::xs=>(∃u,v=Value.str x u)/\TxA vs xs
 | _,_=>False
theorem TxA.length: ∀{vs:List Value} {xs:List Str},TxA vs xs->vs.length=xs.length
 | [],[],_=>rfl
 | _::_,_::_,h=>by rw[List.length_cons,List.length_cons,TxA.length h.2]
 | [],_::_,h=>h.elim
 | _::_,[],h=>h.elim
theorem bDg: ∀{xs ys:List Str},(xs=[]\/ys=[])->aNh xs ys=decide (xs.length<ys.length)
 | [],[],_=>rfl
 | [],_::_,_=>by simp[aNh]
 | _::_,[],_=>by simp[aNh]
 | _::_,_::_,h=>by rcases h with h | h<;>cases h
section
variable {prog:Program}{w:World}{A:Around}{E:Value->Shared->Prop}{s:Shared}
theorem aV7 {a b:Addr}{its jts:Array Value}{xs ys:List Str}{Q:Value->Shared->Prop}(ha:IsTup s.heap a its)(hb:IsTup s.heap b jts)(hx:TxA its.toList xs)(hy:TxA jts.toList ys)(q:Q (.bool (aNh xs ys)) s):
  wpAny (model prog w) A (Builtin.«tuple.__lt__» ⟨[.ref a,.ref b],[]⟩) (fun fin s'=> ∃r,fin= .done (.ret r)/\Q r s') E s:=by
 obtain⟨⟨c1,d1,x1,l1⟩,o1,k1,n1,e1⟩:=ha;obtain⟨⟨c2,d2,x2,l2⟩,o2,k2,n2,e2⟩:=hb
 dsimp only at k1 e1 k2 e2
 subst k1 e1 k2 e2;have f2:=AutoSeq1.sub_tuple_tuple;have z1:=hx.length;have z2:=hy.length;rw[Array.length_toList] at z1 z2;unfold Builtin.«tuple.__lt__»
 wp_walk using AutoSeq1.wpAny_loadPart' o1,AutoSeq1.wpAny_loadPart' o2,wpAny_forIn_list _ (fun rest st s'=>st.1=none/\s'=s/\∃(vs ws:List Value) (zs us:List Str),rest=vs.zip ws/\TxA vs zs/\TxA ws us/\zs.length+ys.length=us.length+xs.length/\aNh zs us=aNh xs ys) _
 case turn=>
  rintro⟨p,p'⟩ rest st s' ⟨g1,g2,vs,ws,zs,us,hz,hv,hw,hlen,hl⟩
  subst g2
  match vs,zs,ws,us,hv,hw with
  | v::vs,z::zs,y::ws,u::us,hv,hw=>
   rw[List.zip_cons_cons] at hz
   injection hz with hp hr
   injection hp with hp1 hp2
   obtain⟨⟨t1,e1⟩,hv⟩:=hv;obtain⟨⟨t2,e2⟩,hw⟩:=hw;subst hp1 hp2;rw[e1,e2];rw[List.length_cons,List.length_cons] at hlen;refine wpAny_bind (wpAny_eqBool_str ?_);by_cases ez:z=u
   ·rw[aNh,if_pos ez] at hl
    rw[decide_eq_true ez]
    wp_walk
    exact⟨rfl,rfl,vs,ws,zs,us,hr,hv,hw,by omega,hl⟩
   ·rw[aNh,if_neg ez] at hl
    rw[decide_eq_false ez];have hri: ∀(Q':Value->Shared->Prop) (E':Value->Shared->Prop),Q' (.bool (decide (z.cps.toList<u.cps.toList))) s'->wpAny (model prog w) A (richCompare .Lt (.str z t1) (.str u t2)) Q' E' s':=fun Q' E' h=>(lt_str h:wpAny (model prog w) A (compareOp .Lt (.str z t1) (.str u t2)) Q' E' s')
    wp_walk using hri
    exact⟨_,rfl,by rw[hl];exact q⟩
  | [],[],_,_,_,_=>rw[List.zip_nil_left] at hz;cases hz
  | _::_,_::_,[],[],_,_=>rw[List.zip_nil_right] at hz;cases hz
 case fin=>
  rintro⟨b1,b2⟩ s' ⟨g1,g2,vs,ws,zs,us,hz,hv,hw,hlen,hl⟩
  subst g2
  dsimp only at g1
  subst g1;have hends:zs=[]\/us=[]:=by
   match vs,zs,ws,us,hv,hw with
   | [],[],_,_,_,_=>exact .inl rfl
   | _::_,_::_,[],[],_,_=>exact .inr rfl
   | _::_,_::_,_::_,_::_,_,_=>rw[List.zip_cons_cons] at hz;cases hz
  have hv:aNh xs ys=decide (its.size<jts.size):=by
   rw[<-hl,bDg hends];by_cases h:zs.length<us.length
   ·rw[decide_eq_true h,decide_eq_true (by omega)]
   ·rw[decide_eq_false h,decide_eq_false (by omega)]
  rw[hv] at q
  wp_walk
  exact⟨_,rfl,by simpa[Builtin.Tuple.tupleCompareSizes] using q⟩
 case h=>
  exact⟨rfl,rfl,its.toList,jts.toList,xs,ys,rfl,hx,hy,by omega,rfl⟩
theorem aXb {a b:Addr}{its jts:Array Value}{xs ys:List Str}{Q:Value->Shared->Prop}(ha:IsTup s.heap a its)(hb:IsTup s.heap b jts)(hx:TxA its.toList xs)(hy:TxA jts.toList ys)(hu:A.units<cLine)(q:Q (.bool (aNh xs ys)) s):
  wpAny (model prog w) A (compareOp .Lt (.ref a) (.ref b)) Q E s:=by
 have ta:s.TypeIs (.ref a) "tuple":=ha.typeIs;have tb:s.TypeIs (.ref b) "tuple":=hb.typeIs;show wpAny _ _ (richCompare .Lt (.ref a) (.ref b)) _ _ _;refine wpAny_richCompare_same_room ta tb PySem.F.slot_tuple_lt (wpAny_call_entry PySem.F.slot_tuple_lt ta PySem.F.entry_tuple_lt (aV7 ha hb hx hy ?_) (PySem.F.args_tuple_lt_2 _ _)) hu;exact And.intro (fun z=>nomatch z) q
end
end L2.PU
namespace L2.PU
open PySem PySem.Spec PyProof.Rows PySem.W
def aKu {α:Type}(lt:Nat->Nat->Bool):KasT α->α
 | .ret a=>a
 | .ask i j k=>aKu lt (k (lt i j))
def okP {α:Type}(n:Nat)(R:α->Prop):KasT α->Prop
 | .ret a=>R a
 | .ask i j k=>i<n/\j<n/\∀b,okP n R (k b)
theorem okP.bind {α β:Type}{n:Nat}{R:α->Prop}{S:β->Prop}{f:α->KasT β}(hf: ∀a,R a->okP n S (f a)): ∀(t:KasT α),okP n R t->okP n S (t.bind f)
 | .ret a,h=>hf a h
 | .ask i j k,h=>⟨h.1,h.2.1,fun b=>okP.bind hf (k b) (h.2.2 b)⟩
theorem bB9 {n:Nat}{R:Array Nat->Prop}{lt:Nat->Nat->Bool}{cmp:Nat->Nat->(Bool->Shared->Prop)->Shared->Prop}{Q:Array Nat->Shared->Prop}{s:Shared}(hc: ∀i j C,i<n->j<n->C (lt i j) s->cmp i j C s): ∀(t:KasT (Array Nat)),okP n R t->Q (aKu lt t) s->t.kasWp cmp Q s
 | .ret _,_,h=>h
 | .ask i j k,o,h=>hc i j _ o.1 o.2.1 (bB9 hc (k (lt i j)) (o.2.2 _) h)
theorem bIr {α:Type}{n:Nat}{R:α->Prop}{lt:Nat->Nat->Bool}: ∀(t:KasT α),okP n R t->R (aKu lt t)
 | .ret _,o=>o
 | .ask i j k,o=>bIr (k (lt i j)) (o.2.2 _)
def Plc (n:Nat)(p:Array Nat):Prop:=p.toList.Perm (List.range n)
theorem Plc.lt {n:Nat}{p:Array Nat}(h:Plc n p)(hn:0<n)(k:Nat):p.getD k 0<n:=by
 by_cases hk:k<p.size
 ·have e:p.getD k 0=p[k]:=by simp[Array.getD,hk]
  rw[e];have:=(h.mem_iff (a:=p[k])).mp (by simp);exact List.mem_range.mp this
 ·have e:p.getD k 0=0:=by simp[Array.getD,hk]
  rw[e];exact hn
theorem Plc.of {n:Nat}{p p':Array Nat}(h:Plc n p)(q:p'.Perm p):Plc n p':=(Array.perm_iff_toList_perm.mp q).trans h
theorem Plc.rev {n:Nat}{p:Array Nat}(h:Plc n p)(i j:Nat):Plc n (kas_rev p i j):=h.of (mirror_perm _ _ _ _)
theorem bC4 {n:Nat}{p:Array Nat}(hn:0<n)(h:Plc n p): ∀f m,okP n (fun _=>True) (kas_asc p f m)
 | 0,_=>trivial
 | f+1,m=>⟨h.lt hn _,h.lt hn _,fun b=>by
  cases b
  ·exact bC4 hn h f (m+1)
  ·exact trivial⟩
theorem aSi {n:Nat}(hn:0<n): ∀f (p:Array Nat) m q,Plc n p->okP n (fun r=>Plc n r.1) (kas_desc f p m q)
 | 0,_,_,_,h=>h
 | f+1,p,m,q,h=>⟨h.lt hn _,h.lt hn _,fun b=>by
  cases b
  ·refine⟨h.lt hn _,h.lt hn _,fun d=> ?_⟩
   cases d
   ·exact aSi hn f p (m+1) (q+1) h
   ·exact h
  ·show okP n _ (if q>0 then kas_desc f (kas_rev p (m-(q+1)) m) (m+1) 0 else kas_desc f p (m+1) 0)
   split
   ·exact aSi hn f _ _ _ (h.rev _ _)
   ·exact aSi hn f _ _ _ h⟩
theorem aYm {n:Nat}{p:Array Nat}(hn:0<n)(h:Plc n p)(m r:Nat):okP n (fun x=>Plc n x.2) (kas_tail3 m r p):=by
 unfold kas_tail3;refine okP.bind (R:=fun _=>True) (fun a _=> ?_) _ (bC4 hn (h.rev 0 m) _ _);exact h.rev 0 m
theorem aOf {n:Nat}{p:Array Nat}(hn:0<n)(h:Plc n p)(m r:Nat):okP n (fun x=>Plc n x.2) (kas_descPart m r p):=by
 refine okP.bind (fun x hx=> ?_) _ (aSi hn _ _ _ _ h);split
 ·exact aYm hn (hx.rev _ _) _ _
 ·exact aYm hn hx _ _
theorem bHb {n:Nat}{p:Array Nat}(hn:0<n)(h:Plc n p)(r:Nat):okP n (fun x=>Plc n x.2) (kas_count r p):=by
 refine okP.bind (fun m _=> ?_) _ (bC4 hn h _ _);split
 ·exact h
 ·split
  ·refine⟨h.lt hn _,h.lt hn _,fun c=> ?_⟩
   cases c
   ·exact aOf hn (h.rev _ _) _ _
   ·exact h
  ·exact aOf hn h _ _
theorem aSg {n:Nat}{p:Array Nat}(hn:0<n)(h:Plc n p)(k:Nat): ∀f l r,okP n (fun _=>True) (kas_place p k f l r)
 | 0,_,_=>trivial
 | f+1,l,r=>by
  unfold kas_place;split
  ·exact trivial
  ·refine⟨h.lt hn _,h.lt hn _,fun c=> ?_⟩
   cases c
   ·exact aSg hn h k f _ _
   ·exact aSg hn h k f _ _
theorem bI4 {n:Nat}(hn:0<n): ∀f (p:Array Nat) k,Plc n p->okP n (Plc n) (kas_bin f p k)
 | 0,_,_,h=>h
 | f+1,p,k,h=>okP.bind (fun l _=>bI4 hn f _ _ (h.of (bubble_perm _ _ _))) _ (aSg hn h k _ _ _)
theorem bC2 {n:Nat}(hn:0<n):okP n (Plc n) (kas_sort n):=by
 refine okP.bind (fun x hx=> ?_) _ (bHb hn (p:=List.toArray (List.range n)) (List.Perm.refl _) _);split
 ·exact bI4 hn _ _ _ hx
 ·exact hx
def bG7 (lt:Nat->Nat->Bool)(n:Nat):List Nat:=if n<2 then List.range n else (aKu lt (kas_sort n)).toList
theorem bCx (lt:Nat->Nat->Bool)(n:Nat):(bG7 lt n).Perm (List.range n):=by
 unfold bG7;split
 ·exact List.Perm.refl _
 ·exact bIr _ (bC2 (by omega))
section
variable {prog:Program}{w:World}{A:Around}{E:Value->Shared->Prop}{s:Shared}
theorem bNt {a:Addr}{vs:List Value}{n:Nat}{lt:Nat->Nat->Bool}{P:PySem.Fin->Shared->Prop}(ho:s.heap.get? a=some (seqObj "list" vs.toArray n))(h64:vs.length<64)
  (hc:2<=vs.length->∀s':Shared,(∀b o,b≠a->s.heap.get? b=some o->s'.heap.get? b=some o)->wpAny (model prog w) A (keyKind' vs.toArray) (fun κ s''=>s''=s'/\∀i j C,i<vs.length->j<vs.length->C (lt i j) s'->kas_ask prog w A κ vs i j C s') (fun _ _=>False) s')
  (h:P (.done (.ret .none)) {s with heap:=sortedHeap s.heap a vs ((bG7 lt vs.length).map fun i=>vs.getD i Value.none).toArray}):
  wpAny (model prog w) A (Builtin.«list.sort» ⟨[.ref a],[]⟩) P E s:=by
 rw[list_sort_plain];have ha:a<s.heap.objs.size:=Heap.lt_size ho;refine wpAny_bind (listItems_at ho rfl ?_);refine wpAny_bind (listUpdate_at ho rfl ?_);obtain⟨e1,ho1⟩: ∃e1,(s.heap.update a (Obj.mapSeq fun _=> #[])).get? a=some (seqObj "list" #[] e1):=⟨_,get?_update_seq ho (fun _=> #[])⟩;refine wpAny_bind (seqEpoch_at ho1 rfl ?_);refine wpAny_bind (wpAny_newTuple ?_);refine wpAny_bind (wpAny_newList ?_);refine wpAny_holding ?_;have hk6: ∀b o,b≠a->s.heap.get? b=some o->(((s.heap.update a (Obj.mapSeq fun _=> #[])).push (seqObj "tuple" vs.toArray 0)).push (seqObj "list" #[] 0)).get? b=some o:=fun b o nb e=>Heap.get?_push_of_some _ (Heap.get?_push_of_some _ ((Heap.get?_update_other _ _ (Ne.symm nb)).trans e))
 have ho6:(((s.heap.update a (Obj.mapSeq fun _=> #[])).push (seqObj "tuple" vs.toArray 0)).push (seqObj "list" #[] 0)).get? a=some (seqObj "list" #[] e1):=Heap.get?_push_of_some _ (Heap.get?_push_of_some _ ho1);show wpAny (model prog w) A _ P E {s with heap:=((s.heap.update a (Obj.mapSeq fun _=> #[])).push (seqObj "tuple" vs.toArray 0)).push (seqObj "list" #[] 0)}
 dsimp only
 have hsz:vs.toArray.size=vs.length:=by simp
 by_cases h2:vs.toArray.size<2
 ·rw[if_pos h2,if_pos h2]
  refine wpAny_bind (wpAny_pure ?_);rw[StateT.run_pure];refine wpAny_bind (wpAny_pure ?_)
  dsimp only
  refine wpAny_bind (seqEpoch_at ho6 rfl ?_);refine wpAny_bind (listUpdate_at ho6 rfl ?_ (hsz2:=by rw[Array.size_map];show (pairsOf vs).size<=_;rw[pairsOf_size,sizeLine_eq];omega));simp only[bne_self_eq_false,Bool.false_eq_true,if_false];refine wpAny_pure ?_;have eo:((bG7 lt vs.length).map fun i=>vs.getD i Value.none).toArray=Array.map (fun x=>x.2) (arrOf (SortSt.mk' general' (vs.toArray.zip vs.toArray) #[] 7 none)):=by
   unfold bG7;rw[if_pos (by rw[hsz] at h2;exact h2)];have hl:vs.length<2:=by rw[hsz] at h2;exact h2
   show _=Array.map (fun x=>x.2) (vs.toArray.zip vs.toArray)
   apply Array.ext
   ·simp
   ·intro i h1 h3
    simp at h1;simp[h1]
  rw[eo] at h;exact h
 ·rw[if_neg h2,if_neg h2]
  have h2':2<=vs.length:=by rw[hsz] at h2;omega
  refine wpAny_bind (wpAny_mono (hc h2' {s with heap:=((s.heap.update a (Obj.mapSeq fun _=> #[])).push (seqObj "tuple" vs.toArray 0)).push (seqObj "list" #[] 0)} hk6) (fun κ s0 hs0=> ?_) fun _ _ x=>x.elim);obtain⟨e0,ask⟩:=hs0;subst e0;refine wpAny_bind (wpAny_mono (kat_run (ks:=vs) (vs:=vs) (κ:=κ) (G:=fun p s'=>p=aKu lt (kas_sort vs.length)/\s'={s with heap:=((s.heap.update a (Obj.mapSeq fun _=> #[])).push (seqObj "tuple" vs.toArray 0)).push (seqObj "list" #[] 0)})
   (Q:=fun st' s'=>s'={s with heap:=((s.heap.update a (Obj.mapSeq fun _=> #[])).push (seqObj "tuple" vs.toArray 0)).push (seqObj "list" #[] 0)}/\failedOf st'=none/\(aKu lt (kas_sort vs.length)).size=vs.length/\arrOf st'=(aKu lt (kas_sort vs.length)).map (kas_item (vs.toArray.zip vs.toArray)))
   rfl h2' h64 (fun p st' s' a1 a2 a3 a4=>⟨a4.2,a3,by rw[<-a4.1];exact a1,by rw[<-a4.1];exact a2⟩) (bB9 ask _ (bC2 (by omega)) ⟨rfl,rfl⟩)) ?_ fun _ _ e=>e)
  rintro⟨⟨⟩,st'⟩ s' ⟨rfl,hf,hp,har⟩
  dsimp only
  have hout:=kat_snds (ks:=vs) (vs:=vs) rfl har;rw[hout];refine wpAny_bind (seqEpoch_at ho6 rfl ?_);refine wpAny_bind (listUpdate_at ho6 rfl ?_ (hsz2:=by rw[List.size_toArray,List.length_map,Array.length_toList,hp,sizeLine_eq];omega));rw[hf];simp only[bne_self_eq_false,Bool.false_eq_true,if_false];refine wpAny_pure ?_;unfold bG7 at h;rw[if_neg (by omega)] at h;exact h
end
def ltI (p q:List Str×Int):Bool:=if p.1=q.1 then (if p.2=q.2 then false else decide (p.2<q.2)) else aNh p.1 q.1
abbrev ixP (l:List (List Str×Int))(i:Nat):List Str×Int:=l.getD i ([],0)
def bAf (l:List (List Str×Int)):List Nat:=bG7 (fun i j=>ltI (ixP l i) (ixP l j)) l.length
section
variable {prog:Program}{w:World}{A:Around}{E:Value->Shared->Prop}{s:Shared}
theorem bNi: ∀{xs:List Str} {vs:List Value},ItemsAre (aB8 prog w) (xs.map .inr) vs->TxA vs xs
 | [],_,.nil=>trivial
 | x::xs,_,.cons (v:=v) h r=>by
  refine⟨?_,bNi r⟩;rcases aCf (show aXc (Sum.inr x) v=true from h) with⟨i,u,e,_⟩ |⟨y,u,e,ev⟩
  ·cases e
  ·cases e;exact⟨u,ev⟩
theorem bIi {h:Heap}{xs:List Str}{a:Addr}(k:IsTupleKey (aB8 prog w) h (xs.map .inr) a): ∃its,IsTup h a its/\TxA its.toList xs:=by
 obtain⟨o,items,n,h1,h2,h3,h4⟩:=k;exact⟨items,⟨o,h1,h2,n,h3⟩,bNi h4⟩
theorem aH4 {xs ys:List Str}:(xs.map (Sum.inr:Str->Key)=ys.map .inr)↔xs=ys:=
 ⟨fun h=>by
  have:=congrArg (List.map fun k:Key=>match k with | .inr x=>x | .inl _=>Str.empty) h
  simpa[List.map_map,Function.comp_def] using this,fun h=>by rw[h]⟩
def aZs (prog:Program)(w:World)(h:Heap)(a:Addr)(p:List Str×Int):Prop:= ∃ka t,h.get? a=some {cls:= .type "tuple",data:= .seq #[.ref ka,.int p.2 t]}/\IsTupleKey (aB8 prog w) h (p.1.map .inr) ka
theorem bFg {a b:Addr}{p q:List Str×Int}{C:Bool->Shared->Prop}(hu:A.units<cLine)(ha:aZs prog w s.heap a p)(hb:aZs prog w s.heap b q)(h:C (ltI p q) s):wpAny (model prog w) A (keyLt' (tuples' false) (.ref a) (.ref b)) C E s:=by
 obtain⟨ka,t,h1,k1⟩:=ha;obtain⟨kb,u,h2,k2⟩:=hb;refine kat_lt h1 rfl h2 rfl ?_;refine kat_cons (p:= .ref ka) (q:= .ref kb) (wpAny_eqBool_tuple hu k1 k2 ?_);unfold ltI at h;by_cases e:p.1=q.1
 ·rw[if_pos e] at h
  rw[decide_eq_true (aH4.mpr e)];refine kat_yes (kat_cons (p:= .int p.2 t) (q:= .int q.2 u) (wpAny_eqBool_int ?_));by_cases e2:p.2=q.2
  ·rw[if_pos e2] at h
   rw[show (p.2==q.2)=true by simpa using e2];exact kat_yes (kat_nil h)
  ·rw[if_neg e2] at h
   rw[show (p.2==q.2)=false by simpa using e2];exact kat_no (kat_one _ _ (lt_int (show W.BoolBack C (.bool _) s from h)))
 ·rw[if_neg e] at h
  rw[decide_eq_false (fun z=>e (aH4.mp z))];obtain⟨its,t1,x1⟩:=bIi k1;obtain⟨jts,t2,x2⟩:=bIi k2;exact kat_no (kat_one _ _ (aXb t1 t2 x1 x2 hu (show W.BoolBack C (.bool _) s from h)))
theorem firsts {h:Heap}: ∀(as:List Addr),(∀a∈as,∃p,aZs prog w h a p)->∃fs,KatTups h (as.map Value.ref) fs/\fs.length=as.length/\∀v∈fs,∃ka o,v=Value.ref ka/\h.get? ka=some o/\o.cls= .type "tuple"
 | [],_=>⟨[],trivial,rfl,fun v hv=>by simp at hv⟩
 | a::as,hp=>by
  obtain⟨fs,h1,h2,h3⟩:=firsts as fun b hb=>hp b (List.mem_cons_of_mem _ hb)
  obtain⟨p,ka,t,g1,o,items,n,g2,g3,g4⟩:=hp a List.mem_cons_self;refine⟨.ref ka::fs,⟨⟨a,_,_,_,rfl,g1,rfl,rfl,rfl⟩,h1⟩,by rw[List.length_cons,List.length_cons,h2],fun v hv=> ?_⟩;rcases List.mem_cons.mp hv with e | e
  ·exact⟨ka,o,e,g2,g3⟩
  ·exact h3 v e
theorem aTz {r d:Addr}{ep:Nat}{od:Obj}{es:Array DictEntry}{l:List (List Str×Int)}{Q:Value->Shared->Prop}(hh:A.handled=none)(hu:A.units+64<cLine)(hv:s.heap.IsItemsView r d)(hod:s.heap.get? d=some od)(hdd:od.data= .dict es ep)(h3:l.length<64)(hl:l.length=es.size)
  (hk: ∀(j:Nat) (e:DictEntry),es[j]? =some e->∃ka t,e.key= .ref ka/\e.val= .int (ixP l j).2 t/\IsTupleKey (aB8 prog w) s.heap ((ixP l j).1.map .inr) ka)
  (q: ∀h' tk lst m (as:List Addr),(∀b o,s.heap.get? b=some o->h'.get? b=some o)->as.length=l.length->as.Nodup->(∀(j:Nat) (a:Addr),as[j]? =some a->s.heap.objs.size<=a/\∃e:DictEntry,es[j]? =some e/\h'.get? a=some {cls:= .type "tuple",data:= .seq #[e.key,e.val]})->s.heap.objs.size<=lst->lst∉as->
   h'.get? lst=some {cls:= .type "list",data:= .seq ((bAf l).map fun i=>(as.map Value.ref).getD i Value.none).toArray m}->Q (.ref lst) {s with heap:=h',toks:=tk}):
  wpAny (model prog w) A (call (.builtin "sorted") [.ref r]) Q E s:=by
 refine Calls.call_function_entry kind_sorted plain_sorted entry_sorted (args_sorted1 _) ?_;unfold Builtin.«sorted»;refine wpAny_bind (m:=checkCount "sorted" 1 1 _) (wpAny_pure ?_);refine wpAny_bind (aTe (A:=A.in1) (by simp[hh]) hv hod hdd (by rw[<-hl,sizeLine_eq];omega) fun h1 tk as hkp hal hG hnd le0=> ?_);refine wpAny_bind (wpAny_newList ?_);have hoL:(h1.push (seqObj "list" (as.map Value.ref).toArray 0)).get? h1.objs.size=some (seqObj "list" (as.map Value.ref).toArray 0):=Heap.get?_push_size _ rfl;show wpAny _ _ _ _ _ {s with heap:=h1.push (seqObj "list" (as.map Value.ref).toArray 0),toks:=tk};have al:as.length=l.length:=by rw[hal,hl]
 have vl:(as.map Value.ref).length=l.length:=by rw[List.length_map,al]
 have nas: ∀a∈as,a≠h1.objs.size:=fun a ha=>by
  obtain⟨j,hj⟩:=List.mem_iff_getElem?.mp ha;obtain⟨_,e,_,g⟩:=hG j a hj;exact Nat.ne_of_lt (Heap.lt_size g)
 have prs: ∀(s':Shared),(∀b o,b≠h1.objs.size->(h1.push (seqObj "list" (as.map Value.ref).toArray 0)).get? b=some o->s'.heap.get? b=some o)->∀(j:Nat) (a:Addr),as[j]? =some a->aZs prog w s'.heap a (ixP l j):=fun s' kp j a hj=>by
  obtain⟨_,e,e1,e2⟩:=hG j a hj;obtain⟨ka,t,k1,k2,o,items,n,g1,g2,g3,g4⟩:=hk j e e1;rw[k1,k2] at e2;refine⟨ka,t,kp a _ (nas a (List.mem_of_getElem? hj)) (Heap.get?_push_of_some _ e2),o,items,n,?_,g2,g3,g4⟩;have g5:=hkp _ _ g1;exact kp ka _ (Nat.ne_of_lt (Heap.lt_size g5)) (Heap.get?_push_of_some _ g5)
 refine wpAny_bind (wpAny_holding (wpAny_call_entry slot_list_sort ⟨_,hoL,rfl⟩ entry_list_sort (bNt (lt:=fun i j=>ltI (ixP l i) (ixP l j)) hoL (by rw[vl];omega) (fun h2 s' kp=> ?_) ⟨_,rfl,?_⟩) (args_list_sort _)))
 ·have P:=prs s' kp
  obtain⟨fs,t1,t2,t3⟩:=firsts as (fun a ha=>by obtain⟨j,hj⟩:=List.mem_iff_getElem?.mp ha;exact⟨_,P j a hj⟩);rw[vl] at h2;refine kat_kind (M:=model prog w) (T:= .type "tuple") t1 (by rw[t2,al];omega) (fun v hv=> ?_) rfl ⟨rfl,fun i j C hi hj hC=> ?_⟩
  ·obtain⟨ka,o,rfl,g1,g2⟩:=t3 v hv
   exact g2▸(show Looks (model prog w) _ (typeOf (.ref ka)) o.cls from (Looks.ld g1).andThen .now)
  ·rw[vl,<-al] at hi hj
   have ei:(as.map Value.ref).getD i Value.none= .ref as[i]:=by rw[List.getD_eq_getElem?_getD,List.getElem?_map,List.getElem?_eq_getElem hi];rfl
   have ej:(as.map Value.ref).getD j Value.none= .ref as[j]:=by rw[List.getD_eq_getElem?_getD,List.getElem?_map,List.getElem?_eq_getElem hj];rfl
   unfold kas_ask;rw[ei,ej];exact bFg (by simp;omega) (P i _ (List.getElem?_eq_getElem hi)) (P j _ (List.getElem?_eq_getElem hj)) hC
 ·refine wpAny_pure ⟨_,rfl,?_⟩
  rw[vl];have k1:=get?_update_seq hoL (fun _=> #[]);have k2:=get?_update_seq (Heap.get?_push_of_some (seqObj "list" #[] 0) (Heap.get?_push_of_some (seqObj "tuple" (as.map Value.ref).toArray 0) k1)) (fun _=>((bAf l).map fun i=>(as.map Value.ref).getD i Value.none).toArray);have keep: ∀b o,b≠h1.objs.size->h1.get? b=some o->(sortedHeap (h1.push (seqObj "list" (as.map Value.ref).toArray 0)) h1.objs.size (as.map Value.ref) ((bAf l).map fun i=>(as.map Value.ref).getD i Value.none).toArray).get? b=some o:=fun b o nb e=>by
   unfold sortedHeap;rw[Heap.get?_update_other _ _ (Ne.symm nb)];refine Heap.get?_push_of_some _ (Heap.get?_push_of_some _ ?_);rw[Heap.get?_update_other _ _ (Ne.symm nb)];exact Heap.get?_push_of_some _ e
  have le1:s.heap.objs.size<=h1.objs.size:=Nat.le_of_lt le0;refine q _ tk h1.objs.size _ as (fun b o e=>keep b o (Nat.ne_of_lt (Heap.lt_size (hkp b o e))) (hkp b o e)) al hnd (fun j a hj=> ?_) le1 (fun h=>nas _ h rfl) k2;obtain⟨g1,e,e1,e2⟩:=hG j a hj;exact⟨Nat.le_of_lt g1,e,e1,keep a _ (nas a (List.mem_of_getElem? hj)) e2⟩
end
end L2.PU
namespace L2.PU
open PySem PySem.Spec PyProof.Rows
section
variable {K:PySem.W.Frag}{H₀ H:Hp}{ρ:Rho}{σ:St}
theorem Rel.aYl {i:Nat}{a:Addr}{o:DO}{w:HO}(r:Rel K H₀ ρ σ H)(hf:H a=none)(iv: ∀H',Same H H'->IsO K H' o w)(hI: ∀O:Nat->Option Addr,aRh (upd H a w) O->IsO K (Off (upd H a w) O) o w):Rel K H₀ (ρ.set i (some (.ow o))) (σ.set i (some (.ref a))) (upd H a w):=by
 obtain⟨O,h1,ho,h2,hl,h3⟩:=r;have mu:bSu w=true:=(iv H (Same.refl H)).mut;have na: ∀j b,O j=some b->b≠a:=fun j b q e=>by
  subst e;obtain⟨u,z,m⟩:=ho j b q;rw[z] at hf;cases hf
 let O':Nat->Option Addr:=fun j=>if j=i then some a else O j
 have Oi:O' i=some a:=if_pos rfl;have On: ∀j,j≠i->O' j=O j:=fun j e=>if_neg e
 have hO':aRh (upd H a w) O':=fun j b q=>by
  by_cases e:j=i
  ·subst e
   rw[Oi] at q;cases q;exact⟨_,aAy,mu⟩
  ·rw[On j e] at q
   have nb:=na j b q;obtain⟨u,z,m⟩:=ho j b q;exact⟨u,by rw[aA6 nb];exact z,m⟩
 have sm:Same (Off H O) (Off (upd H a w) O'):=fun b o q=>by
  have qh:=Off.same H O b o q;have nb:b≠a:=fun e=>by subst e;rw[hf] at qh;cases qh
  refine Off.of (by rw[aA6 nb];exact qh) fun j z=> ?_
  by_cases e:j=i
  ·subst e
   rw[Oi] at z;cases z;exact nb rfl
  ·rw[On j e] at z
   exact Off.not q j z
 refine⟨O',fun j k b q1 q2=> ?_,hO',h2.trans sm,by rw[List.length_set,List.length_set,hl],fun j sv q=> ?_⟩
 ·by_cases e1:j=i
  ·by_cases e2:k=i
   ·rw[e1,e2]
   ·subst e1
    rw[Oi] at q1;cases q1;rw[On k e2] at q2;exact absurd rfl (na k _ q2)
  ·by_cases e2:k=i
   ·subst e2
    rw[Oi] at q2;cases q2;rw[On j e1] at q1;exact absurd rfl (na j _ q1)
   ·rw[On j e1] at q1
    rw[On k e2] at q2;exact h1 j k b q1 q2
 ·by_cases e:j=i
  ·subst e
   have hj:j<ρ.length:=by
    have:=(List.getElem?_eq_some_iff.mp q).1
    rwa [List.length_set] at this
   rw[List.getElem?_set_self hj] at q;have q':=Option.some.inj (Option.some.inj q);subst q';exact⟨a,w,Oi,List.getElem?_set_self (by rw[<-hl];exact hj),aAy,hI O' hO'⟩
  ·rw[List.getElem?_set_ne (Ne.symm e)] at q
   have z:=h3 j sv q;cases sv with
   | sh d'=>obtain⟨v',e1,e2⟩:=z;exact⟨v',by rw[List.getElem?_set_ne (Ne.symm e)];exact e1,e2.mono sm⟩
   | own ds'=>
    obtain⟨b,ws,e1,e2,e3,e4⟩:=z;exact⟨b,ws,by rw[On j e];exact e1,by rw[List.getElem?_set_ne (Ne.symm e)];exact e2,by rw[aA6 (na j b e1)];exact e3,e4.mono sm⟩
   | oin b C dx fs=>
    obtain⟨e1,e2,e3,ws,e4,e5⟩:=z;exact⟨by rw[On j e];exact e1,by rw[List.getElem?_set_ne (Ne.symm e)];exact e2,e3,ws,by rw[aA6 (na j b e1)];exact e4,e5.mono sm⟩
   | ow o'=>
    obtain⟨b,u,e1,e2,e3,e4⟩:=z;exact⟨b,u,by rw[On j e];exact e1,by rw[List.getElem?_set_ne (Ne.symm e)];exact e2,by rw[aA6 (na j b e1)];exact e3,e4.mono sm⟩
   | tk ks=>obtain⟨b,e1,e2⟩:=z;exact⟨b,by rw[List.getElem?_set_ne (Ne.symm e)];exact e1,sm _ _ e2⟩
theorem Rel.bCu {i:Nat}{a:Addr}{o o':DO}{w':HO}(O:Nat->Option Addr)(h1: ∀i j a,O i=some a->O j=some a->i=j)(ho:aRh H O)(h2:Same H₀ (Off H O))(hl:ρ.length=σ.length)
  (h3: ∀i sv,ρ[i]? =some (some sv)->Slot K H O σ i sv) (q:ρ[i]? =some (some (.ow o))) (z1:O i=some a) (z2:σ[i]? =some (some (.ref a))) (iv:IsO K (Off H O) o' w'):Rel K H₀ (ρ.set i (some (.ow o'))) σ (upd H a w'):=by
 have eo:Off (upd H a w') O=Off H O:=Off.upd z1;refine⟨O,h1,fun j b qj=> ?_,by rw[eo];exact h2,by rw[List.length_set,hl],fun j sv qj=> ?_⟩
 ·by_cases e:b=a
  ·subst e;exact⟨_,aAy,iv.mut⟩
  ·obtain⟨u,w,m⟩:=ho j b qj
   exact⟨u,by rw[aA6 e];exact w,m⟩
 ·by_cases e:j=i
  ·subst e
   have hj:j<ρ.length:=(List.getElem?_eq_some_iff.mp q).1;rw[List.getElem?_set_self hj] at qj;have q':=Option.some.inj (Option.some.inj qj);subst q';exact⟨a,w',z1,z2,aAy,by rw[eo];exact iv⟩
  ·rw[List.getElem?_set_ne (Ne.symm e)] at qj
   have z:=h3 j sv qj;cases sv with
   | sh d'=>obtain⟨v',e1,e2⟩:=z;exact⟨v',e1,by rw[eo];exact e2⟩
   | own es=>
    obtain⟨b,ws,e1,e2,e3,e4⟩:=z;have nb:b≠a:=fun w=>e (h1 j i a (by rw[<-w];exact e1) z1)
    exact⟨b,ws,e1,e2,by rw[aA6 nb];exact e3,by rw[eo];exact e4⟩
   | oin b C' dx' fs'=>
    obtain⟨e1,e2,e3,ws,e4,e5⟩:=z;have nb:b≠a:=fun w=>e (h1 j i a (by rw[<-w];exact e1) z1)
    exact⟨e1,e2,e3,ws,by rw[aA6 nb];exact e4,by rw[eo];exact e5⟩
   | ow o''=>
    obtain⟨b,u,e1,e2,e3,e4⟩:=z;have nb:b≠a:=fun w=>e (h1 j i a (by rw[<-w];exact e1) z1)
    exact⟨b,u,e1,e2,by rw[aA6 nb];exact e3,by rw[eo];exact e4⟩
   | tk ks=>obtain⟨b,e1,e2⟩:=z;exact⟨b,e1,by rw[eo];exact e2⟩
end
def keyOf:D->Option Key
 | .int i=>some (.inl i)
 | .str x=>some (.inr x)
 | _=>none
def keysOf:List D->Option (List Key)
 | []=>some []
 | d::ds=>match keyOf d,keysOf ds with | some k,some ks=>some (k::ks) | _,_=>none
theorem aSv {K:PySem.W.Frag}{H:Hp}{d:D}{v:V}{k:Key}(i:Is K H d v)(h:keyOf d=some k):v=kV k:=by
 cases i<;>first |(cases h;done) |(cases h;rfl)
theorem aSu {K:PySem.W.Frag}{H:Hp}: ∀{ds:List D} {vs:List V} {ks:List Key},IsL K H ds vs->keysOf ds=some ks->vs=ks.map kV
 | _,_,_,.nil,h=>by cases h;rfl
 | _,_,_,.cons i r,h=>by
  unfold keysOf at h;split at h
  ·rename_i k ks h1 h2
   cases h;rw[aSv i h1,aSu r h2];rfl
  ·cases h
theorem aOz (xs:List Str):keysOf (xs.map D.str)=some (xs.map .inr):=by
 induction xs with
 | nil=>rfl
 | cons x xs ih=>rw[List.map_cons,keysOf,ih];rfl
section
variable {X:Cx}{B:Hp}{e:Expr}{fa:Rho->M D}{pos pos' p pos2:Pos}{x:Str}{i j:Nat}
def bBy (i:Nat):Rho->Option Out:=fun ρ=>some (.nx (ρ.set i (some (.ow (.t [])))))
theorem aYi (hN:X.N.Nodup)(hi:X.N[i]? =some x)(hx:Loc X.env.scope x)(hs:swapsWith (.Dict [] [] p) (some (.Name x pos')) pos.line X.env=pure false:=by rfl)(hf:X.fn x=true\/X.env.scope.names.lookup x=some .local:=by first | exact .inl rfl | exact .inr rfl | assumption):
  PDS X B (.Assign [.Name x pos'] (.Dict [] [] p) pos) (bBy i):=by
 refine PS.of (aQs hN hi hx bGq hs hf) fun E σ H h=> ?_
 obtain⟨ρ,r,h⟩:=h;intro l hl;exact h _ _ (r.aYl (o:= .t []) hl (fun _ _=>IsT.nil) (fun _ _=>IsT.nil))
end
section
variable {κ:Type}[DecidableEq κ]
def aMt (kvs:List (κ×D))(k:κ):Option D:=(kvs.find? fun kv=>decide (kv.1=k)).map (·.2)
def aR4 (kvs:List (κ×D))(k:κ)(d:D):List (κ×D):=
 if (kvs.any fun kv=>decide (kv.1=k))=true then kvs.map (fun kv=>if kv.1=k then (kv.1,d) else kv) else kvs++ [(k,d)]
end
section
variable {K:PySem.W.Frag}{H:Hp}
theorem aL0: ∀{kvs:List (List Key×D)} {vs:List (List Key×V)},IsT K H kvs vs->kvs.length=vs.length
 | _,_,.nil=>rfl
 | _,_,.cons _ r=>by rw[List.length_cons,List.length_cons,aL0 r]
theorem bDt {k:List Key}: ∀{kvs:List (List Key×D)} {vs:List (List Key×V)},IsT K H kvs vs->(aMt kvs k=none/\aKl vs k=none)\/∃d v,aMt kvs k=some d/\aKl vs k=some v/\Is K H d v
 | _,_,.nil=> .inl ⟨rfl,rfl⟩
 | _,_,.cons (x:=x) (d:=d) (v:=v) i r=>by
  by_cases e:x=k
  ·exact .inr ⟨d,v,by simp[aMt,e],by simp[aKl,e],i⟩
  ·have h1: ∀ds,aMt ((x,d)::ds) k=aMt ds k:=fun ds=>by simp[aMt,List.find?_cons,e]
   have h2: ∀ds,aKl ((x,v)::ds) k=aKl ds k:=fun ds=>by simp[aKl,List.find?_cons,e]
   rw[h1,h2];exact bDt r
theorem bDv {k:List Key}: ∀{kvs:List (List Key×D)} {vs:List (List Key×V)},IsT K H kvs vs->(kvs.any fun kv=>decide (kv.1=k))=(vs.any fun kv=>decide (kv.1=k))
 | _,_,.nil=>rfl
 | _,_,.cons _ r=>by rw[List.any_cons,List.any_cons,bDv r]
theorem aXd {k:List Key}{d:D}{v:V}(i:Is K H d v): ∀{kvs:List (List Key×D)} {vs:List (List Key×V)},IsT K H kvs vs->IsT K H (kvs.map fun kv=>if kv.1=k then (kv.1,d) else kv) (vs.map fun kv=>if kv.1=k then (kv.1,v) else kv)
 | _,_,.nil=> .nil
 | _,_,.cons (x:=x) i' r=>by
  rw[List.map_cons,List.map_cons];by_cases e:x=k
  ·rw[if_pos e,if_pos e];exact .cons i (aXd i r)
  ·rw[if_neg e,if_neg e];exact .cons i' (aXd i r)
theorem aYy {k:List Key}{d:D}{v:V}(i:Is K H d v): ∀{kvs:List (List Key×D)} {vs:List (List Key×V)},IsT K H kvs vs->IsT K H (kvs++ [(k,d)]) (vs++ [(k,v)])
 | _,_,.nil=> .cons i .nil
 | _,_,.cons i' r=> .cons i' (aYy i r)
theorem bL6 {k:List Key}{d:D}{v:V}(i:Is K H d v){kvs:List (List Key×D)}{vs:List (List Key×V)}(r:IsT K H kvs vs):IsT K H (aR4 kvs k d) (putK vs k v):=by
 unfold aR4 putK;rw[bDv (k:=k) r];split
 ·exact aXd i r
 ·exact aYy i r
end
section
variable {X:Cx}{B:Hp}{e:Expr}{fa:Rho->M D}{pos pos' p p2 tpos cpos apos:Pos}{x y:Str}{i j:Nat}
def aQj (ρ:Rho)(j:Nat):Option (List Key):=match ρ[j]? with
 | some (some (.tk ks))=>some ks
 | some (some (.sh (.tup ds)))=>keysOf ds
 | _=>none
theorem Rel.key {K:PySem.W.Frag}{B H:Hp}{ρ:Rho}{σ:St}{ks:List Key}(r:Rel K B ρ σ H)(qj:aQj ρ j=some ks): ∃b,σ[j]? =some (some (.ref b))/\H b=some (.tup (ks.map kV)):=by
 obtain⟨O,h1,ho,h2,hl,h3⟩:=r;unfold aQj at qj;split at qj
 ·rename_i ks' q
  cases qj;obtain⟨b,y1,y2⟩:=(show Slot K H O σ j (.tk ks) from h3 j _ q);exact⟨b,y1,Off.same _ _ _ _ y2⟩
 ·rename_i ds q
  obtain⟨v,y1,y2⟩:=(show Slot K H O σ j (.sh (.tup ds)) from h3 j _ q);cases y2 with
  | tup hh rr=>
   have ev:=aSu rr qj;subst ev;exact⟨_,y1,Off.same _ _ _ _ hh⟩
 ·cases qj
def aPd (i j:Nat)(f:Rho->M D):Rho->M D:=fun ρ=>match ρ[i]?,aQj ρ j with
 | some (some (.ow (.t kvs))),some ks=>bnd (f ρ) fun d=>ok ((aMt kvs ks).getD d)
 | _,_=>none
theorem Rel.two {K:PySem.W.Frag}{B H:Hp}{ρ:Rho}{σ:St}{kvs:List (List Key×D)}{ks:List Key}(r:Rel K B ρ σ H)(qi:ρ[i]? =some (some (.ow (.t kvs))))(qj:aQj ρ j=some ks):
  ∃(O:Nat->Option Addr) (a b:Addr) (vs:List (List Key×V)),(∀i j a,O i=some a->O j=some a->i=j)/\aRh H O/\Same B (Off H O)/\ρ.length=σ.length/\(∀i sv,ρ[i]? =some (some sv)->Slot K H O σ i sv)/\
   O i=some a/\σ[i]? =some (some (.ref a))/\H a=some (.dT vs)/\IsT K (Off H O) kvs vs/\σ[j]? =some (some (.ref b))/\H b=some (.tup (ks.map kV)):=by
 obtain⟨b,y1,y2⟩:=r.key qj;obtain⟨O,h1,ho,h2,hl,h3⟩:=r;obtain⟨a,w,z1,z2,z3,z4⟩:=(show Slot K H O σ i (.ow (.t kvs)) from h3 i _ qi);cases w<;>first | exact False.elim z4 | skip
 exact⟨O,a,b,_,h1,ho,h2,hl,h3,z1,z2,z3,z4,y1,y2⟩
theorem aSa {k:Nat}(hr:aDm k X.A)(i j:Nat){x y:Str}(he:PD X B e fa)(hst:aD4 e=true:=by rfl)(hN:X.N[i]? =some x:=by rfl)(hv:Vis X.env.scope x:=by first | exact Or.inl rfl | exact Or.inr (Or.inl rfl) | exact Or.inr (Or.inr rfl))(hN2:X.N[j]? =some y:=by rfl)(hv2:Vis X.env.scope y:=by first | exact Or.inl rfl | exact Or.inr (Or.inl rfl) | exact Or.inr (Or.inr rfl))
  (hd:(x==("__debug__":Str))=false:=by decide) (hcd:(x==("__classdict__":Str))=false:=by decide) (hd2:(y==("__debug__":Str))=false:=by decide) (bP8:(y==("__classdict__":Str))=false:=by decide)
  (hline:(apos.endLine==cpos.line)=true:=by rfl) (hfew:((backTo cpos (starEach [.Name y p2,e] X.env)).all (fun x=> !x.1)&&(backToKw cpos (keywordEach [] X.env)).all (fun x=>x.1.isSome)
  &&decide (([.Name y p2,e]:List Expr).length+([]:List Keyword).length+(if ([]:List Keyword).isEmpty then 0 else 1)<30))=true:=by rfl) (htr:backTo cpos (starEach [.Name y p2,e] X.env)=[(false,eval (.Name y p2) X.env),(false,eval e X.env)]:=by rfl):
  PD X B (.Call (.Attribute (.Name x p) "get" apos) [.Name y p2,e] [] cpos) (aPd i j fa):=by
 refine PE.of (bGs (bD5 hr) (aGd hN hv hd hcd) (aGd hN2 hv2 hd2 bP8) he ⟨rfl,hfew,hline,htr⟩) fun σ H Q h=> ?_
 obtain⟨ρ,r,h⟩:=h;unfold aPd at h;split at h
 ·rename_i kvs ks qi qj
  obtain⟨O,a,b,vs,h1,ho,h2,hl,h3,z1,z2,z3,z4,y1,y2⟩:=r.two qi qj;refine⟨.ref a,z2,a,rfl,.inr ⟨vs,.inl z3⟩,.ref b,y1,ρ,r,(Res.bind h).imp fun d h1 v H1 s1 i1=>⟨aKl vs ks,aVx.t (s1 _ _ z3) (s1 _ _ y2),?_⟩⟩;rcases bDt (k:=ks) z4 with⟨e1,e2⟩ |⟨d',v',e1,e2,i'⟩
  ·rw[e2]
   refine h1 _ H1 s1 ?_;rw[e1];exact i1
  ·rw[e2]
   refine h1 _ H1 s1 ?_;rw[e1];exact (i'.mono (Off.same _ _)).mono s1
 ·exact False.elim h
def aN4 (i j:Nat)(f:Rho->M D):Rho->Option Out:=fun ρ=>match ρ[i]?,aQj ρ j with
 | some (some (.ow (.t kvs))),some ks=>lft (f ρ) ρ fun d=>if d.imm=true/\kvs.length<100000 then some (.nx (ρ.set i (some (.ow (.t (aR4 kvs ks d)))))) else none
 | _,_=>none
theorem aR7 {k:Nat}(hr:aDm k X.A)(i j:Nat){x y:Str}(he:PD X B e fa)(hN:X.N[i]? =some x:=by rfl)(hv:Vis X.env.scope x:=by first | exact Or.inl rfl | exact Or.inr (Or.inl rfl) | exact Or.inr (Or.inr rfl))(hN2:X.N[j]? =some y:=by rfl)(hv2:Vis X.env.scope y:=by first | exact Or.inl rfl | exact Or.inr (Or.inl rfl) | exact Or.inr (Or.inr rfl))
  (hd:(x==("__debug__":Str))=false:=by decide) (hcd:(x==("__classdict__":Str))=false:=by decide) (hd2:(y==("__debug__":Str))=false:=by decide) (bP8:(y==("__classdict__":Str))=false:=by decide)
  (hs:swapsWith e (some (.Subscript (.Name x p) (.Name y p2) pos')) pos.line X.env=pure false:=by rfl):
  PDS X B (.Assign [.Subscript (.Name x p) (.Name y p2) pos'] e pos) (aN4 i j fa):=by
 refine PS.of (bCg (bD5 hr) (aGd hN hv hd hcd) (aGd hN2 hv2 hd2 bP8) he hs) fun E σ H h=> ?_
 obtain⟨ρ,r,h⟩:=h;unfold aN4 at h;split at h
 ·rename_i kvs ks qi qj
  refine⟨ρ,r,(aCe r h).imp fun d h1 v H1 s1 i1=> ?_⟩;obtain⟨O,a,b,vs,g1,go,g2,gl,g3,z1,z2,z3,z4,y1,y2⟩:=(r.mono s1).two qi qj;split at h1
  ·rename_i hh
   refine⟨.ref a,z2,.ref b,y1,a,_,rfl,bJ1.t z3 y2 (by rw[<-aL0 z4];exact Nat.lt_trans hh.2 (by decide)),?_⟩;exact h1 _ _ (Rel.bCu O g1 go g2 gl g3 qi z1 z2 (o':= .t (aR4 kvs ks d)) (w':= .dT (putK vs ks v)) (bL6 (aKb go hh.1 i1) z4))
  ·exact False.elim h1
 ·exact False.elim h
end
open Classical in
theorem Inv.many {X:Cx}{pins:List (Addr×Obj)}{σ:St}{H:Hp}{s:Shared}{h':Heap}{t':Nat}(I:Inv X pins σ H s)(k: ∀b u,s.heap.get? b=some u->h'.get? b=some u)(P:Addr->HO->Prop)(un: ∀b o o',P b o->P b o'->o=o')(hi: ∀b o,P b o->s.heap.objs.size<=b)
  (new: ∀H',Same H H'->(∀b o,P b o->H' b=some o)->∀b o,P b o->aDb X.prog X.w H' h' b o): ∃H',Same H H'/\(∀b o,P b o->H' b=some o)/\Inv X pins σ H' {s with heap:=h',toks:=t'}:=by
 let H':Hp:=fun b=>match H b with | some o=>some o | none=>if h: ∃o,P b o then some (Classical.choose h) else none
 have sm:Same H H':=fun b o e=>by show (match H b with | some o=>some o | none=>_)=some o;rw[e]
 have fr: ∀b o,P b o->H b=none:=fun b o p=>I.hok.fresh (hi b o p)
 have at_: ∀b o,P b o->H' b=some o:=fun b o p=>by
  show (match H b with | some o=>some o | none=>if h: ∃o,P b o then some (Classical.choose h) else none)=some o;rw[fr b o p];have hx: ∃o,P b o:=⟨o,p⟩;show (if h: ∃o,P b o then some (Classical.choose h) else none)=some o;rw[dif_pos hx,un b _ o (Classical.choose_spec hx) p]
 have back: ∀b o,H' b=some o->H b=some o\/(H b=none/\P b o):=fun b o e=>by
  have e':(match H b with | some o=>some o | none=>if h: ∃o,P b o then some (Classical.choose h) else none)=some o:=e;cases q:H b with
  | some u=>rw[q] at e';exact .inl e'
  | none=>
   rw[q] at e';have e2:(if h: ∃o,P b o then some (Classical.choose h) else none)=some o:=e';split at e2
   ·rename_i hx;cases e2;exact .inr ⟨rfl,Classical.choose_spec hx⟩
   ·cases e2
 refine⟨H',sm,at_,I.un ⟨fun b u q _ _ _=>k b u q,fun b u q _ _ _=>⟨u.slots,k b u q⟩,fun b u q n _=> ?_,fun b u q _=>⟨u,k b u q⟩,fun b xs q=>sm _ _ q,fun b o u q=>sm _ _ q,fun b ps q=>⟨#[],by rw[sm _ _ q];simp⟩⟩ fun b o e=> ?_⟩
 ·cases q2:H' b with
  | none=>rfl
  | some o=>
   rcases back b o q2 with z |⟨_,z⟩
   ·rw[n] at z;cases z
   ·exact absurd (Heap.lt_size q) (Nat.not_lt.mpr (hi b o z))
 ·rcases back b o e with z |⟨_,z⟩
  ·exact (I.hok b o z).stay (fun c v _ q=>k c v q) (fun c q=>sm _ _ q) fun c xs q=>sm _ _ q
  ·exact new H' sm at_ b o z
def bIo:List Key->Option (List Str)
 | []=>some []
 | .inr x::ks=>match bIo ks with | some xs=>some (x::xs) | none=>none
 | .inl _::_=>none
theorem bBl: ∀{ks:List Key} {xs:List Str},bIo ks=some xs->ks=xs.map .inr
 | [],xs,h=>by cases h;rfl
 | .inr x::ks,xs,h=>by
  unfold bIo at h;split at h
  ·rename_i ys e;cases h;rw[bBl e];rfl
  ·cases h
 | .inl _::_,_,h=>by cases h
theorem bF3 (xs:List Str):bIo (xs.map .inr)=some xs:=by
 induction xs with
 | nil=>rfl
 | cons x xs ih=>rw[List.map_cons,bIo,ih]
def bH7:List (List Key×D)->Option (List (List Str×Int))
 | []=>some []
 |(ks,.int n)::r=>match bIo ks,bH7 r with | some xs,some l=>some ((xs,n)::l) | _,_=>none
 | _::_=>none
def pD (p:List Str×Int):D:= .tup [.tup (p.1.map D.str),.int p.2]
def dictAt (ρ:Rho)(i:Nat):Option (List (List Key×D)):=match ρ[i]? with
 | some (some (.ow (.t kvs)))=>some kvs
 | some (some (.sh (.dt kvs)))=>some kvs
 | _=>none
theorem Rel.dict {K:PySem.W.Frag}{B H:Hp}{ρ:Rho}{σ:St}{kvs:List (List Key×D)}{i:Nat}(r:Rel K B ρ σ H)(qi:dictAt ρ i=some kvs): ∃a vs,σ[i]? =some (some (.ref a))/\H a=some (.dT vs)/\IsT K H kvs vs:=by
 obtain⟨O,h1,ho,h2,hl,h3⟩:=r;unfold dictAt at qi;split at qi
 ·rename_i q
  cases qi;obtain⟨a,w,z1,z2,z3,z4⟩:=(show Slot K H O σ i (.ow (.t kvs)) from h3 i _ q);cases w<;>first | exact False.elim z4 | skip
  exact⟨a,_,z2,z3,IsT.mono (Off.same _ _) z4⟩
 ·rename_i q
  cases qi;obtain⟨v,z1,z2⟩:=(show Slot K H O σ i (.sh (.dt kvs)) from h3 i _ q);cases z2 with
  | dt hh rr=>exact⟨_,_,z1,Off.same _ _ _ _ hh,IsT.mono (Off.same _ _) rr⟩
 ·cases qi
def aXq (i:Nat):Rho->M D:=fun ρ=>match dictAt ρ i with
 | some kvs=>(match bH7 kvs with | some l=>if l.length<64 then ok (.lst ((bAf l).map fun j=>pD (ixP l j))) else none | none=>none)
 | _=>none
abbrev KR (H:Hp)(p:List Key×V)(q:List Key×Addr×Value):Prop:=p.1=q.1/\H q.2.1=some (.tup (p.1.map kV))/\RelV p.2 q.2.2
theorem bEr {ks:List Key}{d:D}{r:List (List Key×D)}{l:List (List Str×Int)}(h:bH7 ((ks,d)::r)=some l): ∃xs n l',d= .int n/\bIo ks=some xs/\bH7 r=some l'/\l=(xs,n)::l':=by
 cases d<;>first |(cases h;done) | skip
 rename_i n;unfold bH7 at h;split at h
 ·rename_i xs l' e1 e2
  cases h;exact⟨xs,n,l',rfl,e1,e2,rfl⟩
 ·cases h
theorem aXo {K:PySem.W.Frag}{H H₂:Hp}: ∀{kvs:List (List Key×D)} {l:List (List Str×Int)} {vs:List (List Key×V)} {xs:List (List Key×Addr×Value)},bH7 kvs=some l->IsT K H kvs vs->Paired (KR H₂) vs xs->
  l.length=xs.length/\∀(j:Nat) (q:List Key×Addr×Value),xs[j]? =some q->∃t,q.2.2=Value.int (ixP l j).2 t/\H₂ q.2.1=some (.tup ((ixP l j).1.map V.str))
 | [],l,_,_,h,.nil,.nil=>by cases h;exact⟨rfl,fun j q e=>by simp at e⟩
 |(ks,d)::r,l,_,_,h,.cons i r',.cons hp r2=>by
  obtain⟨zs,n,l',rfl,e1,e2,rfl⟩:=bEr h;obtain⟨g1,g2⟩:=aXo e2 r' r2;have ek:=bBl e1;subst ek;cases i;obtain⟨p1,p2,p3⟩:=hp;refine⟨by rw[List.length_cons,List.length_cons,g1],fun j q e=> ?_⟩;cases j with
  | zero=>
   cases e;obtain⟨t,ht⟩:=p3;refine⟨t,ht,?_⟩
   dsimp only at p2
   rw[p2,List.map_map];rfl
  | succ j=>exact g2 j q e
section
variable {X:Cx}{B:Hp}{pos p p2 apos cpos:Pos}{i:Nat}{x:Str}
theorem bDs {K:PySem.W.Frag}{H:Hp}: ∀(xs:List Str),IsL K H (xs.map D.str) (xs.map V.str)
 | []=> .nil
 | x::xs=> .cons (.str x) (bDs xs)
theorem aOe (l:List (List Str×Int)):(bAf l).Perm (List.range l.length):=bCx _ _
theorem bCy (l:List (List Str×Int)): ∀j∈bAf l,j<l.length:=fun j hj=>List.mem_range.mp ((aOe l).mem_iff.mp hj)
theorem bG8 (l:List (List Str×Int)):(bAf l).length=l.length:=by rw[(aOe l).length_eq,List.length_range]
theorem aLt {k:Nat}(hr:aDm k X.A)(hc:X.calm=true)(hg:Gl X "sorted")(hm:X.mg "sorted"=none)(i:Nat){x:Str}(hN:X.N[i]? =some x:=by rfl)(hv:Vis X.env.scope x:=by first | exact Or.inl rfl | exact Or.inr (Or.inl rfl) | exact Or.inr (Or.inr rfl))
  (hd:(x==("__debug__":Str))=false:=by decide) (hcd:(x==("__classdict__":Str))=false:=by decide) (hline:(apos.endLine==cpos.line)=true:=by rfl):
  PD X B (.Call (.Name "sorted" p) [.Call (.Attribute (.Name x p2) "items" apos) [] [] cpos] [] pos) (aXq i):=by
 intro pins s σ H Q I h;obtain⟨ρ,r,h⟩:=h;unfold aXq at h;split at h
 ·rename_i kvs qi
  split at h
  ·rename_i l hl
   split at h
   ·rename_i h3
    obtain⟨a,vs,z2,z3,z4⟩:=r.dict qi;obtain⟨lz,bTt,xs,rel,od,es,ep,o1,o2,o3,o4,o5⟩:=(show aDb X.prog X.w H s.heap a (.dT vs) from I.hok a _ z3);obtain⟨ll,ent⟩:=aXo hl z4 rel;have hT:s.TypeIs (.ref a) "dict":=⟨od,o1,o2.1⟩;refine wpAny_Call_Name_kw (aQ4 I hg hm boot_sorted ?_ (by decide) (by decide));refine PyProof.Rows.callWith_builtin1 ?_ (aA5 rfl) rfl;show wpAny _ _ (spliced [(false,eval (.Call (.Attribute (.Name x p2) "items" apos) [] [] cpos) X.env)]) _ _ s;refine Calls.spliced_cons ?_;refine wpAny_Call_method0_late rfl hline (thn (aGd hN hv hd hcd pins s σ H (fun v H1=>v= .ref a/\H1=H) I ⟨.ref a,z2,rfl,rfl⟩) fun v s1 hs1=> ?_);obtain⟨y,H1,I1,ry,ey,eH⟩:=hs1;subst ey eH;cases ry;obtain⟨lz,bTt,xs,rel,od,es,ep,o1,o2,o3,o4,o5⟩:=(show aDb X.prog X.w H1 s1.heap a (.dT vs) from I1.hok a _ z3);obtain⟨ll,ent⟩:=aXo hl z4 rel;have hT:s1.TypeIs (.ref a) "dict":=⟨od,o1,o2.1⟩;refine⟨"dict","dict.items",PySem.F.plainAttrs_dict,PySem.F.slot_dict_items,PySem.F.type_dict_items,hT,fun b e=>by cases e;exact⟨od,o1,o2.2.1⟩,Calls.callWith_builtin rfl (PySem.evalArgs_none (bAt (ep:=ep) (od:=od) (es:=es) hT bTt ?_))⟩;refine Calls.spliced_nil ?_;have kp0: ∀b o,s1.heap.get? b=some o->(s1.heap.push {cls:= .type "dict_items",data:= .fields #[.ref a]}).get? b=some o:=fun b o e=>Heap.get?_push_of_some _ e
    have esz:l.length=es.size:=by rw[ll,<-Array.length_toList,o4,List.length_map]
    have entry: ∀(j:Nat) (e:DictEntry),es[j]? =some e->∃q,xs[j]? =some q/\e.key= .ref q.2.1/\e.val=q.2.2:=fun j e he=>by
     rw[entry_at o4 j] at he;obtain⟨q,e1,e2⟩:=Option.map_eq_some_iff.mp he;exact⟨q,e1,by rw[<-e2];rfl,by rw[<-e2];rfl⟩
    have v2: ∀zs:List Str,zs.map V.str=(zs.map (Sum.inr:Str->Key)).map kV:=fun zs=>by rw[List.map_map];rfl
    refine aTz (s:={s1 with heap:=s1.heap.push {cls:= .type "dict_items",data:= .fields #[.ref a]}}) (l:=l) (I1.ok.hd hc) hr.units ⟨_,Heap.get?_push_size _ rfl,rfl,rfl⟩ (kp0 _ _ o1) o3 h3 esz (fun j e he=> ?_) fun h' tk lst m as hkp hal hnd hpr hle hna hls=> ?_
    ·obtain⟨q,e1,e2,e3⟩:=entry j e he
     obtain⟨t,f1,f2⟩:=ent j q e1;rw[v2] at f2;exact⟨q.2.1,t,e2,by rw[e3,f1],aO0 (I1.hok.kept kp0) f2⟩
    ·have asz: ∀(j:Nat) (b:Addr),as[j]? =some b->∃q t,xs[j]? =some q/\h'.get? b=some {cls:= .type "tuple",data:= .seq #[.ref q.2.1,.int (ixP l j).2 t]}/\H1 q.2.1=some (.tup ((ixP l j).1.map V.str)):=fun j b hj=>by
      obtain⟨_,e,e1,e2⟩:=hpr j b hj;obtain⟨q,q1,q2,q3⟩:=entry j e e1;obtain⟨t,f1,f2⟩:=ent j q q1;exact⟨q,t,q1,by rw[e2,q2,q3,f1],f2⟩
     have sz2:s1.heap.objs.size<=(s1.heap.push {cls:= .type "dict_items",data:= .fields #[.ref a]}).objs.size:=by simp[Heap.push]
     let PP:Addr->HO->Prop:=fun b o=>(b=lst/\o= .lst ((bAf l).map fun j=>V.ref (as.getD j 0)))\/∃j q,as[j]? =some b/\xs[j]? =some q/\o= .tup [.ref q.2.1,.int (ixP l j).2]
     have un: ∀b o o',PP b o->PP b o'->o=o':=by
      intro b o o' h1 h2;rcases h1 with⟨e1,e2⟩ |⟨j,q,e1,e2,e3⟩
      ·rcases h2 with⟨f1,f2⟩ |⟨j',q',f1,f2,f3⟩
       ·rw[e2,f2]
       ·subst e1;exact absurd (List.mem_of_getElem? f1) hna
      ·rcases h2 with⟨f1,f2⟩ |⟨j',q',f1,f2,f3⟩
       ·subst f1;exact absurd (List.mem_of_getElem? e1) hna
       ·have:j=j':=(List.getElem?_inj (List.getElem?_eq_some_iff.mp e1).1 hnd).mp (e1.trans f1.symm)
        subst this;rw[e2] at f2;cases f2;rw[e3,f3]
     have hi: ∀b o,PP b o->s1.heap.objs.size<=b:=by
      intro b o h1;rcases h1 with⟨e1,e2⟩ |⟨j,q,e1,e2,e3⟩
      ·subst e1;exact Nat.le_trans sz2 hle
      ·exact Nat.le_trans sz2 (hpr j b e1).1
     have new: ∀H',Same H1 H'->(∀b o,PP b o->H' b=some o)->∀b o,PP b o->aDb X.prog X.w H' h' b o:=by
      intro H' sm at_ b o h1;rcases h1 with⟨e1,e2⟩ |⟨j,q,e1,e2,e3⟩
      ·subst e1 e2
       refine⟨by rw[List.length_map,bG8 l,sizeLine_eq];omega,(bAf l).map fun i=>(as.map Value.ref).getD i Value.none,m,?_,hls⟩;have go: ∀(ix:List Nat),(∀j∈ix,j<l.length)->Vals (ix.map fun j=>V.ref (as.getD j 0)) (ix.map fun i=>(as.map Value.ref).getD i Value.none):=by
        intro ix
        induction ix with
        | nil=>intro _;exact .nil
        | cons j ix ih=>
         intro hj;refine .cons ?_ (ih fun j' h'=>hj j' (List.mem_cons_of_mem _ h'));have jl:j<as.length:=by rw[hal];exact hj j List.mem_cons_self
         show (as.map Value.ref).getD j Value.none= .ref (as.getD j 0);rw[List.getD_eq_getElem?_getD,List.getD_eq_getElem?_getD,List.getElem?_map,List.getElem?_eq_getElem jl];rfl
       exact go (bAf l) (bCy l)
      ·subst e3
       obtain⟨q',t,q1,q2,q3⟩:=asz j b e1;rw[e2] at q1;cases q1;exact⟨(by decide:2<=sizeLine),[.ref q.2.1,.int (ixP l j).2 t],.cons rfl (.cons ⟨t,rfl⟩ .nil),_,q2,rfl,⟨_,rfl⟩,rfl⟩
     obtain⟨H',sm,at_,I'⟩:=Inv.many (t':=tk) I1 (h':=h') (fun b u e=>hkp b u (kp0 b u e)) PP un hi new;refine⟨.ref lst,H',I',rfl,h _ H' sm (.lst (SqL.of (at_ lst _ (.inl ⟨rfl,rfl⟩))) ?_)⟩;have go: ∀(ix:List Nat),(∀j∈ix,j<l.length)->IsL X.K H' (ix.map fun j=>pD (ixP l j)) (ix.map fun j=>V.ref (as.getD j 0)):=by
      intro ix
      induction ix with
      | nil=>intro _;exact .nil
      | cons j ix ih=>
       intro hj;refine .cons ?_ (ih fun j' h'=>hj j' (List.mem_cons_of_mem _ h'));have jl:j<as.length:=by rw[hal];exact hj j List.mem_cons_self
       have ja:as[j]? =some (as.getD j 0):=by rw[List.getD_eq_getElem?_getD,List.getElem?_eq_getElem jl];rfl
       obtain⟨q,t,q1,q2,q3⟩:=asz j _ ja;exact .tup (TQ.of (at_ _ _ (.inr ⟨j,q,ja,q1,rfl⟩))) (.cons (.tup (TQ.of (sm _ _ q3)) (bDs _)) (.cons (.int _) .nil))
     exact go (bAf l) (bCy l)
   ·exact False.elim h
  ·exact False.elim h
 ·exact False.elim h
end
section
variable {X:Cx}{B:Hp}{e:Expr}{fa:Rho->M D}{pos p apos cpos:Pos}{x:Str}{i:Nat}
def bR5 (K:PySem.W.Frag):V->List V->Hp->VK->Prop:=fun x vs H Q=> ∃l b xs zs,x= .ref l/\vs=[.ref b]/\H l=some (.lst xs)/\(SqL K H b zs\/SqT K H b zs)/\xs.length+zs.length<=sizeLine/\Q .non (upd H l (.lst (xs++zs)))
theorem bLw:MtM X "list.extend" (bR5 X.K):=by
 intro pins s σ H x vs v us Q I rx rv h;obtain⟨l,b,xs,zs,rfl,rfl,hH,hB,hz,q⟩:=h;cases rx;obtain⟨u,rfl,ru⟩:=rv.one;cases ru;obtain⟨z,its,n,r,hl,e⟩:=I.bTw hH;obtain⟨its2,r2,o2,n2,ho2,hc2,hd2⟩: ∃its2:List Value,Vals zs its2/\∃(o2:Obj) (n2:Nat),s.heap.get? b=some o2/\(o2.cls= .type "list"\/o2.cls= .type "tuple")/\o2.data= .seq its2.toArray n2:=by
  rcases hB with hB | hB
  ·obtain⟨its2,r2,⟨o2,n2,ho2,hc2,_,hd2⟩,z2⟩:=I.list hB
   exact⟨its2,r2,o2,n2,ho2,.inl hc2,hd2⟩
  ·obtain⟨its2,r2,⟨o2,ho2,hc2,n2,hd2⟩,z2⟩:=I.tuple hB
   exact⟨its2,r2,o2,n2,ho2,.inr hc2,hd2⟩
 have hl2:=r2.length;have hsz:its.toArray.size+its2.toArray.size<=sizeLine:=by rw[List.size_toArray,List.size_toArray];omega
 refine wpAny_call_entry F.slot_list_extend ⟨_,e,rfl⟩ F.entry_list_extend ?_ (F.args_list_extend_2 _ _);show wpAny _ _ (Builtin.List.listExtendWith (.ref l) (.ref b) .none) _ _ _;unfold Builtin.List.listExtendWith;have ht:(Value.type "list"==Value.type "list")=true:=by rfl
 have ht2:(Value.type "tuple"==Value.type "tuple")=true:=by rfl
 rcases hc2 with hc2 | hc2
 ·refine wpAny_bind (wpAny_typeOf (T:="list") ⟨o2,ho2,hc2⟩ ?_)
  rw[if_pos (by rw[ht];simp)];refine wpAny_bind (listItems_at ho2 hd2 (wpAny_bind (listItems_at e rfl ?_)));rw[if_neg (by rw[aYo hsz,Bool.and_false];exact Bool.false_ne_true)];refine wpAny_bind (listUpdate_at e rfl (wpAny_pure ⟨_,rfl,?_⟩) (by rw[List.size_toArray];omega) (by rw[Array.size_append];omega));refine⟨.non,_,I.bSv (its':=its++its2) hH e (by simp) (r.append r2) ?_,rfl,q⟩;rw[List.length_append];omega
 ·refine wpAny_bind (wpAny_typeOf (T:="tuple") ⟨o2,ho2,hc2⟩ ?_)
  rw[if_pos (by rw[ht2];simp)];refine wpAny_bind (listItems_at ho2 hd2 (wpAny_bind (listItems_at e rfl ?_)));rw[if_neg (by rw[aYo hsz,Bool.and_false];exact Bool.false_ne_true)];refine wpAny_bind (listUpdate_at e rfl (wpAny_pure ⟨_,rfl,?_⟩) (by rw[List.size_toArray];omega) (by rw[Array.size_append];omega));refine⟨.non,_,I.bSv (its':=its++its2) hH e (by simp) (r.append r2) ?_,rfl,q⟩;rw[List.length_append];omega
def aZ7 (i:Nat)(g:Rho->M (List D)):Rho->Option Out:=fun ρ=>match ρ[i]? with
 | some (some (.own ds))=>lft (g ρ) ρ fun as=>(match as with
  | [.lst es]=>if aIm es=true/\ds.length+es.length<=100000 then some (.nx (ρ.set i (some (.own (ds++es))))) else none
  | [.tup es]=>if aIm es=true/\ds.length+es.length<=100000 then some (.nx (ρ.set i (some (.own (ds++es))))) else none
  | _=>none)
 | _=>none
theorem aWs (hN:X.N[i]? =some x)(hv:Vis X.env.scope x)(ha:PD X B e fa)(hs:aD4 e=true:=by rfl)(hline:(apos.endLine==cpos.line)=true:=by rfl)
  (hsw:swapsWith (.Call (.Attribute (.Name x p) "extend" apos) [e] [] cpos) none pos.line X.env=pure false:=by rfl)
  (hd:(x==("__debug__":Str))=false:=by decide) (hcd:(x==("__classdict__":Str))=false:=by decide):
  PDS X B (.Expr (.Call (.Attribute (.Name x p) "extend" apos) [e] [] cpos) pos) (aZ7 i (aAe fa aA3)):=by
 refine PS.of (aR5 (bOw PySem.F.plainAttrs_list PySem.F.slot_list_extend PySem.F.type_list_extend bLw (aGd hN hv hd hcd) (aAc ha aAk (aA5 hs)) (hbase:=rfl) (hfew:=by rw[aIl hs];rfl) (hline:=hline) (hs:=aA5 hs) (hplain:=rfl)) hsw) fun E σ H h=> ?_
 obtain⟨ρ,r1,h⟩:=h;unfold aZ7 at h;split at h
 ·rename_i ds q
  obtain⟨O,h1,ho,h2,hl,h3⟩:=(show Rel X.K B ρ σ H from r1);obtain⟨a,vs,z1,z2,z3,z4⟩:=h3 i _ q;refine⟨.ref a,z2,.inl ⟨rfl,_,SqL.of z3⟩,ρ,r1,(aCe r1 h).imp fun as k1 us H1 e1 i1=> ?_⟩;have ho1:=ho.mono e1;have z4':=z4.mono (Off.mono e1 (O:=O));split at k1
  ·rename_i es
   split at k1
   ·rename_i hh
    cases i1 with
    | cons id1 rest=>
     cases rest;cases id1 with
     | lst hq rr=>
      have il:=aJi ho1 hh.1 rr;refine⟨a,_,vs,_,rfl,rfl,e1 _ _ z3,.inl hq,?_,k1 _ _ (Rel.aWu O h1 ho1 (h2.trans (Off.mono e1)) hl (fun j sv qj=>(h3 j sv qj).mono e1) q z1 z2 (z4'.append il))⟩;rw[<-z4.length,<-rr.length];exact Nat.le_trans hh.2 (by decide)
   ·exact False.elim k1
  ·rename_i es
   split at k1
   ·rename_i hh
    cases i1 with
    | cons id1 rest=>
     cases rest;cases id1 with
     | tup hq rr=>
      have il:=aJi ho1 hh.1 rr;refine⟨a,_,vs,_,rfl,rfl,e1 _ _ z3,.inr hq,?_,k1 _ _ (Rel.aWu O h1 ho1 (h2.trans (Off.mono e1)) hl (fun j sv qj=>(h3 j sv qj).mono e1) q z1 z2 (z4'.append il))⟩;rw[<-z4.length,<-rr.length];exact Nat.le_trans hh.2 (by decide)
   ·exact False.elim k1
  ·exact False.elim k1
 ·exact False.elim h
end
theorem ar1 (us:List Value)(hl:us.length=1): ∃a,us=[a]:=by
 cases us with
 | nil=>exact absurd hl (by simp)
 | cons a us=>
  cases us with
  | nil=>exact⟨a,rfl⟩
  | cons z us=>exact absurd hl (by simp)
theorem ar2 (us:List Value)(hl:us.length=2): ∃a b,us=[a,b]:=by
 cases us with
 | nil=>exact absurd hl (by simp)
 | cons a us=>
  cases us with
  | nil=>exact absurd hl (by simp)
  | cons b us=>
   cases us with
   | nil=>exact⟨a,b,rfl⟩
   | cons z us=>exact absurd hl (by simp)
theorem ar3 (us:List Value)(hl:us.length=3): ∃a b c,us=[a,b,c]:=by
 cases us with
 | nil=>exact absurd hl (by simp)
 | cons a us=>
  cases us with
  | nil=>exact absurd hl (by simp)
  | cons b us=>
   cases us with
   | nil=>exact absurd hl (by simp)
   | cons c us=>
    cases us with
    | nil=>exact⟨a,b,c,rfl⟩
    | cons z us=>exact absurd hl (by simp)
theorem ar4 (us:List Value)(hl:us.length=4): ∃a b c d,us=[a,b,c,d]:=by
 cases us with
 | nil=>exact absurd hl (by simp)
 | cons a us=>
  cases us with
  | nil=>exact absurd hl (by simp)
  | cons b us=>
   cases us with
   | nil=>exact absurd hl (by simp)
   | cons c us=>
    cases us with
    | nil=>exact absurd hl (by simp)
    | cons d us=>
     cases us with
     | nil=>exact⟨a,b,c,d,rfl⟩
     | cons z us=>exact absurd hl (by simp)
theorem aHr:entryFor table "dict.update.loop"=some Builtin.«dict.update.loop»:=entryFor_of_tree (by kernel_rfl)
theorem aDu:plainId "dict.update.loop"=true:=by decide+kernel
def Kps (h h':Heap):Prop:= ∀b u,h.get? b=some u->h'.get? b=some u
section
variable {prog:Program}{w:World}{A:Around}{E:Value->Shared->Prop}{s:Shared}{κ:Type}[DecidableEq κ]{knd:HeapKind prog w κ}
theorem aL4 {h h':Heap}{a:Addr}{xs:List (κ×Addr×Value)}(z:h.DictOfH knd a xs)(e: ∀o,h.get? a=some o->h'.get? a=some o)(k: ∀x∈xs,knd.is h' x.1 x.2.1):h'.DictOfH knd a xs:=by
 obtain⟨o,es,ep,ho,hc,hd,he,his,hn⟩:=z;exact⟨o,es,ep,e o ho,hc,hd,he,k,hn⟩
theorem pair_items {c:Addr}{its:Array Value}{Q:List Value->Shared->Prop}(h:s.heap.IsTuple c its)(q:Q its.toList s):wpAny (model prog w) A (Builtin.Dict.pairItems (.ref c)) Q E s:=by
 obtain⟨o,ho,hc,n,hd⟩:=h;have t:s.TypeIs (.ref c) "tuple":=⟨o,ho,hc⟩;unfold Builtin.Dict.pairItems;refine wpAny_bind (wpAny_typeOf t ?_);rw[if_pos (by decide)];exact wpAny_bind (wpAny_seqItems ho hd (wpAny_pure q))
theorem bEm {R:Result->Shared->Prop}{I S:Addr}{fp wr:List Addr}{n:Nat}{St:Nat->Heap->Prop}{items:Array Value}(W:Walks prog w A.in1 I fp wr n (fun i v=>items[i]? =some v) St)(hS:S∉fp)(h0:Heap)(hw: ∀b∈wr,h0.get? b=none)(hS0:h0.get? S=none)
  (ps:List (κ×Addr×Value)) (hn:ps.length=n) (nd:(ps.map (·.1)).Nodup) (hu:knd.room A.in1)
  (hp: ∀(i:Nat) (v:Value),items[i]? =some v->∃(c:Addr) (q:κ×Addr×Value),v=Value.ref c/\ps[i]? =some q/\∀h',Kps h0 h'->h'.IsTuple c #[Value.ref q.2.1,q.2.2])
  (hk: ∀q∈ps,∀h',Kps h0 h'->knd.is h' q.1 q.2.1) (hb:n<=sizeLine):
  ∀(k i:Nat) (j:Int) (t:Nat) (s:Shared),n-i=k->i<=n->St i s.heap->s.heap.DictOfH knd S (ps.take i)->Kps h0 s.heap->
   (∀h' tk,h'.DictOfH knd S ps->Kps h0 h'->R (.ok (.ret .none)) {s with heap:=h',toks:=tk})->
   codeAny (model prog w) A (.builtin "dict.update.loop" ⟨[.ref S,.ref I,.int j t,.none],[]⟩) R s:=by
 have nw:S∉wr:=fun z=>hS (W.sub _ z)
 have kw: ∀{h h':Heap},(∀b o,b∉wr->h.get? b=some o->h'.get? b=some o)->Kps h0 h->Kps h0 h':=fun {h h'} m z b u q=>m b u (fun hbw=>by rw[hw b hbw] at q;cases q) (z b u q)
 intro k
 induction k with
 | zero=>
  intro i j t s hk' hi st zS zK q;have ei:i=n:=by omega
  subst ei;rw[<-hn,List.take_length] at zS;refine codeAny_builtin aHr ?_;rw[Around.under_plainId aDu _];show wpAny _ A.in1 (pyNext (.ref I)>>=_) _ _ s;refine wpAny_bind (W.done s _ _ st fun h' tk m=> ?_);have zK':=kw m zK;exact wpAny_bind (wpAny_pure (wpAny_pure (q h' tk (aL4 zS (fun o e=>m S o nw e) fun x hx=>hk x hx h' zK') zK')))
 | succ k ih=>
  intro i j t s hk' hi st zS zK q;have lt:i<n:=by omega
  refine codeAny_builtin aHr ?_;rw[Around.under_plainId aDu _];show wpAny _ A.in1 (pyNext (.ref I)>>=_) _ _ s;refine wpAny_bind (W.item i s _ _ lt st fun v h' tk hP st' m=> ?_);obtain⟨c,x,rfl,hx,ht⟩:=hp i v hP;have zK':=kw m zK;have zS':h'.DictOfH knd S (ps.take i):=aL4 zS (fun o e=>m S o nw e) fun y hy=>hk y (List.mem_of_mem_take hy) h' zK'
  show wpAny _ A.in1 (holding [Value.ref c] _>>=_) _ _ _;refine wpAny_bind (wpAny_holding ?_);refine wpAny_bind (wpAny_tryCatch (pair_items (s:={s with heap:=h',toks:=tk}) (ht h' zK') ?_));show wpAny _ A.in1 (holding [Value.ref x.2.1,x.2.2] (dictSet S (.ref x.2.1) x.2.2)) _ _ _;refine wpAny_holding ?_;have hmem:x∈ps:=List.mem_of_getElem? hx;refine wpAny_dictSet_heap (s:={s with heap:=h',toks:=tk}) (k:=x.1) (xs:=ps.take i) (knd:=knd) hu (hk x hmem h' zK') zS' (fun h2 z2 sb=> ?_) (by rw[List.length_take];omega);have hno:atKey (ps.take i) x.1=none:=by
   refine atKey_none_of_get fun j p hj=> ?_
   obtain⟨jl,je⟩:=List.getElem?_eq_some_iff.mp hj;have jlt:j<i:=by rw[List.length_take] at jl;omega
   have e1:ps[j]? =some (x.1,p):=by
    rw[List.getElem?_take_of_lt jlt] at hj;exact hj
   have e2:(ps.map (·.1))[j]? =(ps.map (·.1))[i]? :=by rw[List.getElem?_map,List.getElem?_map,e1,hx];rfl
   have:=(List.getElem?_inj (by rw[List.length_map];omega) nd).mp e2;omega
  have es:ps.take (i+1)=storedH (ps.take i) x.1 x.2.1 x.2.2:=by
   rw[storedH_new hno,List.take_succ,hx];rfl
  rw[<-es] at z2;have zK2:Kps h0 h2:=fun b u e=>(sb.2 b (fun z=>by rw[z,hS0] at e;cases e)).trans (zK' b u e)
  refine wpAny_pure ⟨plainId_quiet aDu _,ih (i+1) _ _ _ (by omega) lt (W.frame _ h' h2 st' fun b hb' o e=> ?_) z2 zK2 fun h3 tk3 z3 k3=> ?_⟩
  ·exact (sb.2 b (fun z:b=S=>hS (by rw[<-z];exact hb'))).trans e
  ·exact q h3 tk3 z3 k3
end
theorem aRp:typeLookup (.type "tuple") "keys"=pure none:=by rw[typeLookup_type,builtinLookup_eq_fast];kernel_rfl
theorem aMu:typeLookup (.type "tuple") "__getattr__"=pure none:=by rw[typeLookup_type,builtinLookup_eq_fast];kernel_rfl
section
variable {prog:Program}{w:World}{A:Around}{E:Value->Shared->Prop}{h:Heap}{g:Array GenState}{d:Drawn}{t:Nat}{os:OsState}{a:Addr}{o:Obj}
theorem bAr {tk:Tok}{Q:Fin->Shared->Prop}{E:Value->Shared->Prop}(hx:h.get? a=some o)(hc:o.cls= .type "tuple")(hdi:o.dict=none){its:Array Value}{nn:Nat}(hdt:o.data= .seq its nn)(hh:A.handled=none)(hE: ∀h' t' e,Heap.NewAttrErr h h' e (.ref a) "keys"->E (.ref e) ⟨h',g,d,t',os⟩):
  wpAny (model prog w) A (Builtin.«object.__getattribute__» ⟨[.ref a,.str "keys" tk],[]⟩) Q E ⟨h,g,d,t,os⟩:=by
 have hT:(⟨h,g,d,t,os⟩:Shared).TypeIs (.ref a) "tuple":=⟨_,hx,hc⟩;have f4:=aRp;obtain⟨c,dd,dt,sl⟩:=o
 dsimp only at hc hdi hdt
 subst hc hdi hdt;unfold Builtin.«object.__getattribute__»
 repeat (any_goals (first | assumption | wp_step))
 exact wpAny_raiseAttrError hh hE (attrMsg_fits (by decide+kernel) (by decide+kernel))
theorem bDj {tk:Tok}{R:Result->Shared->Prop}{its:Array Value}{nn:Nat}(hx:h.get? a=some o)(hc:o.cls= .type "tuple")(hdi:o.dict=none)(hdt:o.data= .seq its nn)(hh:A.handled=none)
  (hR: ∀h' t' e,Heap.NewAttrErr h h' e (.ref a) "keys"->R (.error (.ref e)) ⟨h',g,d,t',os⟩):
  codeAny (model prog w) A (.call (.builtin "tuple.__getattribute__") ⟨[.ref a,.str "keys" tk],[]⟩) R ⟨h,g,d,t,os⟩:=
 codeAny_call_builtin PySem.F.slot_tuple_getattribute.plain PySem.F.entry_tuple_ga (PySem.F.slot_tuple_getattribute.check _ _ _ _ _ _ _ _ (show (⟨h,g,d,t,os⟩:Shared).TypeIs (.ref a) "tuple" from⟨_,hx,hc⟩) (PySem.F.args_tuple_getattribute_2 _ _) (bAr hx hc hdi hdt (by simp[hh]) hR))
theorem bL1 {tk:Tok}{Q:Value->Shared->Prop}{E:Value->Shared->Prop}{its:Array Value}{nn:Nat}(hx:h.get? a=some o)(hc:o.cls= .type "tuple")(hdi:o.dict=none)(hdt:o.data= .seq its nn)(hh:A.handled=none)
  (hE: ∀h' t' e,Heap.NewAttrErr h h' e (.ref a) "keys"->E (.ref e) ⟨h',g,d,t',os⟩):wpAny (model prog w) A (getAttrBy (.ref a) (.str "keys" tk) false) Q E ⟨h,g,d,t,os⟩:=by
 have hT:(⟨h,g,d,t,os⟩:Shared).TypeIs (.ref a) "tuple":=⟨_,hx,hc⟩;have f2:=PySem.F.slot_tuple_getattribute.lookup;have f3:=PySem.F.slot_tuple_getattribute.bind (.ref a);have f5:=aMu
 repeat (any_goals (first | assumption | wp_step))
 refine bDj hx hc hdi hdt hh fun h' t' e n=> ?_
 have f1:=sub_AttributeError;have kk:=hE h' t' e n;obtain⟨t2,u,he⟩:=n.there;have hT':(⟨h',g,d,t',os⟩:Shared).TypeIs (.ref e) "AttributeError":=⟨_,he,rfl⟩
 repeat (any_goals (first | assumption | wp_step))
theorem bDi {Q:Option Value->Shared->Prop}{its:Array Value}{nn:Nat}(hx:h.get? a=some o)(hc:o.cls= .type "tuple")(hdi:o.dict=none)(hdt:o.data= .seq its nn)(hh:A.handled=none)
  (hq: ∀h' t',Kps h h'->Q none ⟨h',g,d,t',os⟩):wpAny (model prog w) A (getAttr? (.ref a) "keys") Q E ⟨h,g,d,t,os⟩:=by
 have f1:=sub_AttributeError;unfold getAttr? getAttrBy?;refine wpAny_bind (wpAny_mkText ?_);refine wpAny_bind (wpAny_attempt ?_);refine bL1 hx hc hdi hdt hh fun h' t' e n=> ?_
 obtain⟨t2,u,he⟩:=n.there;have hT':(⟨h',g,d,t',os⟩:Shared).TypeIs (.ref e) "AttributeError":=⟨_,he,rfl⟩;have kk:=hq h' t' n.keeps
 repeat (any_goals (first | assumption | wp_step))
end
section
variable {prog:Program}{w:World}{A:Around}{E:Value->Shared->Prop}{s:Shared}{κ:Type}[DecidableEq κ]{knd:HeapKind prog w κ}
theorem aPk {l:Addr}{items:Array Value}{o:Obj}{nn:Nat}{Q:Value->Shared->Prop}(hh:A.handled=none)(ho:s.heap.get? l=some o)(hc:o.cls= .type "tuple")(hdi:o.dict=none)(hd:o.data= .seq items nn)
  (ps:List (κ×Addr×Value)) (hn:ps.length=items.size) (nd:(ps.map (·.1)).Nodup) (hu:knd.room A.in1.in1)
  (hp: ∀(i:Nat) (v:Value),items[i]? =some v->∃(c:Addr) (q:κ×Addr×Value),v=Value.ref c/\ps[i]? =some q/\∀h',Kps s.heap h'->h'.IsTuple c #[Value.ref q.2.1,q.2.2])
  (hk: ∀q∈ps,∀h',Kps s.heap h'->knd.is h' q.1 q.2.1) (hb:items.size<=sizeLine)
  (h: ∀h' tk,h'.DictOfH knd s.heap.objs.size ps->Kps s.heap h'->Q (.ref s.heap.objs.size) {s with heap:=h',toks:=tk}):
  wpAny (model prog w) A (call (.type "dict") [.ref l]) Q E s:=by
 have lt:l<s.heap.objs.size:=Heap.lt_size ho;refine callType_codes (Q₁:=fun obj s₁=>obj= .ref s.heap.objs.size/\s₁={s with heap:=s.heap.push {cls:= .type "dict",data:= .dict #[]}}) PySem.F.kt_called_dict (PySem.F.kt_typeCall_dict_1 _) PySem.F.entry_dict_init (kt_code_dict_new _ ⟨rfl,rfl⟩) ?_
 rintro obj s₁ ⟨rfl,rfl⟩
 have hnew:(s.heap.push {cls:= .type "dict",data:= .dict #[]}).DictOfH knd s.heap.objs.size []:=Heap.DictOfH.new s.heap;have k1:Kps s.heap (s.heap.push {cls:= .type "dict",data:= .dict #[]}):=fun b u e=>Heap.get?_push_of_some _ e
 have ho':=k1 _ _ ho;have tL:Shared.TypeIs {s with heap:=s.heap.push {cls:= .type "dict",data:= .dict #[]}} (.ref l) "tuple":=⟨o,ho',hc⟩;refine⟨hnew.typeIs,PySem.F.args_dict_init_2 _ _,?_⟩;unfold Builtin.«dict.__init__»;refine wpAny_bind ?_;unfold Builtin.Dict.selfAndRest;refine wpAny_bind (wpAny_notOrdered_dict hnew.typeIs ?_);show wpAny _ _ (pure (s.heap.objs.size,[Value.ref l])) _ _ _;refine wpAny_pure ?_;show wpAny _ _ (Builtin.Dict.updateFrom "dict.__init__" s.heap.objs.size (.ref l) [] .none) _ _ _;unfold Builtin.Dict.updateFrom;refine wpAny_bind (wpAny_typeOf tL ?_);rw[if_pos (by decide)];obtain⟨hp0,g,d,tk,os⟩:=s;refine wpAny_bind (bDi ho' hc hdi hd (by simp[hh]) fun h1 t1 kk1=> ?_);rw[if_pos (show (none:Option Value).isNone=true from rfl)];refine wpAny_bind (wpAny_rule ?_);have k2:Kps hp0 h1:=fun b u e=>kk1 b u (k1 b u e)
 have ho1:=k2 _ _ ho;refine wpAny_bind (aYd (T:="tuple") (.inr rfl) (by simp[hh]) ho1 hc hd fun ob St W st0=> ?_);have k3:Kps h1 (h1.push ob):=fun b u e=>Heap.get?_push_of_some _ e
 have sz1:hp0.objs.size<h1.objs.size:=by
  have:=Heap.lt_size (kk1 _ _ (Heap.get?_push_size hp0 (o:={cls:= .type "dict",data:= .dict #[]}) rfl));exact this
 have h1n:hp0.get? h1.objs.size=none:=Heap.get?_none_of_le (Nat.le_of_lt sz1);refine wpAny_pure ⟨plainId_quiet aDu _,?_⟩;refine bEm (R:=_) (W _ (by simp[hh])) ?_ hp0 ?_ (Heap.get?_none_of_le (Nat.le_refl _)) ps hn nd hu hp hk hb (items.size-0) 0 _ _ _ (by omega) (Nat.zero_le _) st0 ?_ (fun b u e=>k3 b u (k2 b u e)) fun h' tk z k=> ?_
 ·simp only[List.mem_cons,List.not_mem_nil,or_false,not_or]
  exact⟨Nat.ne_of_lt sz1,Nat.ne_of_gt lt⟩
 ·intro b hb'
  simp only[List.mem_cons,List.not_mem_nil,or_false] at hb';rw[hb'];exact h1n
 ·exact aL4 hnew (fun o e=>k3 _ _ (kk1 _ _ e)) fun x hx=>by simp at hx
 ·exact⟨rfl,h h' tk z k⟩
end
end L2.PU
namespace L2.PU
open PySem PySem.Spec PyProof.Rows PySem.W
structure Tot (n:Nat)(lt:Nat->Nat->Bool):Prop where
 ir: ∀i,lt i i=false
 tr: ∀i j k,lt i j=true->lt j k=true->lt i k=true
 to: ∀i j,i<n->j<n->i≠j->lt i j=false->lt j i=true
theorem aHg {α β:Type}{lt:Nat->Nat->Bool}{f:α->KasT β}: ∀(t:KasT α),aKu lt (t.bind f)=aKu lt (f (aKu lt t))
 | .ret _=>rfl
 | .ask i j k=>aHg (k (lt i j))
abbrev gt0 (p:Array Nat)(i:Nat):Nat:=p.getD i 0
theorem Plc.size {n:Nat}{p:Array Nat}(h:Plc n p):p.size=n:=by
 have:=h.length_eq;rw[Array.length_toList,List.length_range] at this;exact this
theorem Plc.ne {n:Nat}{p:Array Nat}(h:Plc n p){i j:Nat}(hi:i<n)(hj:j<n)(e:i≠j):gt0 p i≠gt0 p j:=by
 have hs:=h.size;have nd:p.toList.Nodup:=h.nodup_iff.mpr List.nodup_range;intro q;have e1:p.toList[i]? =some (gt0 p i):=by
  have:i<p.toList.length:=by rw[Array.length_toList];omega
  rw[List.getElem?_eq_getElem this];simp[gt0,Array.getD,show i<p.size by omega]
 have e2:p.toList[j]? =some (gt0 p j):=by
  have:j<p.toList.length:=by rw[Array.length_toList];omega
  rw[List.getElem?_eq_getElem this];simp[gt0,Array.getD,show j<p.size by omega]
 exact e ((List.getElem?_inj (by rw[Array.length_toList];omega) nd).mp (by rw[e1,e2,q]))
section
variable {n:Nat}{lt:Nat->Nat->Bool}(T:Tot n lt)
def Asc (lt:Nat->Nat->Bool)(p:Array Nat)(a b:Nat):Prop:= ∀i,a<=i->i+1<b->lt (gt0 p i) (gt0 p (i+1))=true
include T
theorem aZn {p:Array Nat}{a b:Nat}(h:Asc lt p a b): ∀(d i:Nat),a<=i->i+d+1<b->lt (gt0 p i) (gt0 p (i+d+1))=true
 | 0,i,hi,hb=>h i hi hb
 | d+1,i,hi,hb=>T.tr _ _ _ (aZn h d i hi (by omega)) (h (i+d+1) (by omega) (by omega))
theorem aWl {p:Array Nat}(hp:Plc n p): ∀(f m:Nat),1<=m->m+f<=n->Asc lt p 0 m->∃m',aKu lt (kas_asc p f m)=m'/\m<=m'/\m'<=m+f/\Asc lt p 0 m'/\(m'<m+f->lt (gt0 p m') (gt0 p (m'-1))=true)
 | 0,m,h1,h2,ha=>⟨m,rfl,Nat.le_refl _,Nat.le_refl _,ha,fun z=>by omega⟩
 | f+1,m,h1,h2,ha=>by
  have e:aKu lt (kas_asc p (f+1) m)=aKu lt (if lt (gt0 p m) (gt0 p (m-1))=true then .ret m else kas_asc p f (m+1)):=rfl;cases c:lt (gt0 p m) (gt0 p (m-1)) with
  | true=>exact⟨m,by rw[e,if_pos c];rfl,Nat.le_refl _,by omega,ha,fun _=>c⟩
  | false=>
   obtain⟨m',g1,g2,g3,g4,g5⟩:=aWl hp f (m+1) (by omega) (by omega) (fun i hi hb=>by
    by_cases q:i+1<m
    ·exact ha i hi q
    ·have:i=m-1:=by omega
     subst this;rw[show m-1+1=m by omega];exact T.to _ _ (hp.lt (by omega) _) (hp.lt (by omega) _) (hp.ne (by omega) (by omega) (by omega)) c)
   exact⟨m',by rw[e,if_neg (by rw[c];exact Bool.false_ne_true)];exact g1,by omega,by omega,g4,fun z=>g5 (by omega)⟩
def Des (lt:Nat->Nat->Bool)(p:Array Nat)(b:Nat):Prop:= ∀i,i+1<b->lt (gt0 p (i+1)) (gt0 p i)=true
theorem aYg {p:Array Nat}(hp:Plc n p): ∀(f m:Nat),1<=m->m+f<=n->Des lt p m->∃m',aKu lt (kas_desc f p m 0)=(p,m',0)/\m<=m'/\m'<=m+f/\Des lt p m'
 | 0,m,h1,h2,ha=>⟨m,rfl,Nat.le_refl _,Nat.le_refl _,ha⟩
 | f+1,m,h1,h2,ha=>by
  have e:aKu lt (kas_desc (f+1) p m 0)=aKu lt (if lt (gt0 p m) (gt0 p (m-1))=true then (if 0>0 then kas_desc f (kas_rev p (m-(0+1)) m) (m+1) 0 else kas_desc f p (m+1) 0)
   else .ask (gt0 p (m-1)) (gt0 p m) fun d=>if d=true then .ret (p,m,0) else kas_desc f p (m+1) (0+1)):=rfl
  cases c:lt (gt0 p m) (gt0 p (m-1)) with
  | true=>
   obtain⟨m',g1,g2,g3,g4⟩:=aYg hp f (m+1) (by omega) (by omega) (fun i hb=>by
    by_cases q:i+1<m
    ·exact ha i q
    ·have:i=m-1:=by omega
     subst this;rw[show m-1+1=m by omega];exact c)
   exact⟨m',by rw[e,if_pos c,if_neg (by omega)];exact g1,by omega,by omega,g4⟩
  | false=>
   have d:=T.to _ _ (hp.lt (by omega) _) (hp.lt (by omega) _) (hp.ne (i:=m) (j:=m-1) (by omega) (by omega) (by omega)) c;refine⟨m,?_,Nat.le_refl _,by omega,ha⟩;rw[e,if_neg (by rw[c];exact Bool.false_ne_true)];show aKu lt (if lt (gt0 p (m-1)) (gt0 p m)=true then .ret (p,m,0) else kas_desc f p (m+1) (0+1))=_;rw[if_pos d];rfl
omit T in
theorem bD8 {p:Array Nat}{m:Nat}(hm:m<=p.size){i:Nat}:gt0 (kas_rev p 0 m) i=if i<m then gt0 p (m-1-i) else gt0 p i:=by
 have e:=getElem?_mirror_all (xs:=p) (i:=0) (j:=m) hm i;have g: ∀(q:Array Nat) (k:Nat),gt0 q k=(q[k]?).getD 0:=fun q k=>by simp[gt0,Array.getD,getElem?_def];split<;>rfl
 rw[g,show kas_rev p 0 m=mirror p 0 m ((m-0)/2) from rfl,e];by_cases q:i<m
 ·rw[if_pos ⟨Nat.zero_le _,q⟩,if_pos q,g,show 0+m-1-i=m-1-i by omega]
 ·rw[if_neg (fun z=>q z.2),if_neg q,g]
theorem bGd {p:Array Nat}(hp:Plc n p){m:Nat}(h1:1<=m)(h2:m<=n)(hd:Des lt p m): ∃m' p',aKu lt (kas_tail3 m n p)=(m',p')/\Plc n p'/\1<=m'/\m'<=n/\Asc lt p' 0 m':=by
 have hr:=hp.rev 0 m;obtain⟨m',g1,g2,g3,g4,_⟩:=aWl T hr (n-m) m h1 (by omega) (fun i _ hb=>by
  rw[bD8 (by rw[hp.size];exact h2),bD8 (by rw[hp.size];exact h2),if_pos (by omega),if_pos hb];have:=hd (m-1-(i+1)) (by omega)
  rwa [show m-1-(i+1)+1=m-1-i by omega] at this)
 refine⟨m',kas_rev p 0 m,?_,hr,by omega,by omega,g4⟩;unfold kas_tail3;rw[aHg,g1];rfl
theorem bB7 {p:Array Nat}(hp:Plc n p)(hn:2<=n): ∃m p',aKu lt (kas_count n p)=(m,p')/\Plc n p'/\1<=m/\m<=n/\Asc lt p' 0 m:=by
 obtain⟨m,g1,g2,g3,g4,g5⟩:=aWl T hp (n-1) 1 (Nat.le_refl _) (by omega) (fun i _ hb=>by omega);unfold kas_count;rw[aHg,g1];by_cases q:m=n
 ·rw[if_pos (by simpa using q)]
  exact⟨m,p,rfl,hp,g2,by omega,g4⟩
 ·rw[if_neg (by simpa using q)]
  by_cases q2:m>1
  ·rw[if_pos q2]
   have c:=aZn T g4 (m-2) 0 (Nat.le_refl _) (by omega);rw[show 0+(m-2)+1=m-1 by omega] at c;refine⟨m,p,?_,hp,g2,by omega,g4⟩;show aKu lt (if lt (gt0 p 0) (gt0 p (m-1))=true then .ret (m,p) else kas_descPart m n (kas_rev p 0 m))=_;rw[if_pos c];rfl
  ·rw[if_neg q2]
   have em:m=1:=by omega
   subst em;have c:=g5 (by omega);obtain⟨m',k1,k2,k3,k4⟩:=aYg T hp (n-(1+1)) (1+1) (by omega) (by omega) (fun i hb=>by
    have:i=0:=by omega
    subst this;exact c)
   unfold kas_descPart;rw[aHg,k1];show∃m p',aKu lt (if 0>0 then kas_tail3 m' n (kas_rev p (m'-(0+1)) m') else kas_tail3 m' n p)=(m,p')/\_;rw[if_neg (by omega)];exact bGd T hp (by omega) (by omega) k4
theorem aN5 {p:Array Nat}(hp:Plc n p){k:Nat}(hk:k<n)(ha:Asc lt p 0 k): ∀(f l r:Nat),r<=l+f->r<=k->l<=r->(∀i,i<l->lt (gt0 p i) (gt0 p k)=true)->(∀i,r<=i->i<k->lt (gt0 p k) (gt0 p i)=true)->
  ∃l',aKu lt (kas_place p k f l r)=l'/\l'<=k/\(∀i,i<l'->lt (gt0 p i) (gt0 p k)=true)/\(∀i,l'<=i->i<k->lt (gt0 p k) (gt0 p i)=true)
 | 0,l,r,h1,h2,h3,hl,hr=>⟨l,rfl,by omega,hl,fun i hi hk=>hr i (by omega) hk⟩
 | f+1,l,r,h1,h2,h3,hl,hr=>by
  unfold kas_place;by_cases q:l≥r
  ·rw[if_pos q]
   exact⟨l,rfl,by omega,hl,fun i hi hk=>hr i (by omega) hk⟩
  ·rw[if_neg q]
   have pw: ∀i j,i<j->j<k->lt (gt0 p i) (gt0 p j)=true:=fun i j hij hjk=>by
    have:=aZn T ha (j-i-1) i (Nat.zero_le _) (by omega)
    rwa [show i+(j-i-1)+1=j by omega] at this
   show∃l',aKu lt (if lt (gt0 p k) (gt0 p ((l+r)/2))=true then kas_place p k f l ((l+r)/2) else kas_place p k f ((l+r)/2+1) r)=l'/\_;cases c:lt (gt0 p k) (gt0 p ((l+r)/2)) with
   | true=>
    rw[if_pos rfl];refine aN5 hp hk ha f l ((l+r)/2) (by omega) (by omega) (by omega) hl fun i hi hik=> ?_
    by_cases e:i=(l+r)/2
    ·rw[e];exact c
    ·exact T.tr _ _ _ c (pw _ _ (by omega) hik)
   | false=>
    rw[if_neg Bool.false_ne_true];have d:=T.to _ _ (hp.lt (by omega) _) (hp.lt (by omega) _) (hp.ne (i:=k) (j:=(l+r)/2) hk (by omega) (by omega)) c;refine aN5 hp hk ha f ((l+r)/2+1) r (by omega) h2 (by omega) (fun i hi=> ?_) hr;by_cases e:i=(l+r)/2
    ·rw[e];exact d
    ·exact T.tr _ _ _ (pw _ _ (by omega) (by omega)) d
omit T in
theorem bD9 {p:Array Nat}{k d:Nat}(hk:k<p.size)(hd:d<=k){i:Nat}:gt0 (bubble p k d) i=if i=k-d then gt0 p k else if k-d<i/\i<=k then gt0 p (i-1) else gt0 p i:=by
 have g: ∀(q:Array Nat) (k:Nat),gt0 q k=(q[k]?).getD 0:=fun q k=>by simp[gt0,Array.getD,getElem?_def];split<;>rfl
 have b:=getElem?_bubble hk d hd i;rw[g,g p k,g p (i-1),g p i,b];by_cases c1:i=k-d
 ·rw[if_pos c1,if_pos c1]
 ·rw[if_neg c1,if_neg c1]
  by_cases c2:k-d<i/\i<=k
  ·rw[if_pos c2,if_pos c2]
  ·rw[if_neg c2,if_neg c2]
theorem bB8: ∀(f:Nat) (p:Array Nat) (k:Nat),Plc n p->1<=k->k+f=n->Asc lt p 0 k->∃p',aKu lt (kas_bin f p k)=p'/\Plc n p'/\Asc lt p' 0 n
 | 0,p,k,hp,h1,h2,ha=>⟨p,rfl,hp,by rw[<-h2];exact ha⟩
 | f+1,p,k,hp,h1,h2,ha=>by
  obtain⟨l,g1,g2,g3,g4⟩:=aN5 T hp (k:=k) (by omega) ha k 0 k (by omega) (Nat.le_refl _) (Nat.zero_le _) (fun i hi=>by omega) (fun i hi hk=>by omega);have e:aKu lt (kas_bin (f+1) p k)=aKu lt (kas_bin f (bubble p k (k-l)) (k+1)):=by
   show aKu lt ((kas_place p k k 0 k).bind fun l=>kas_bin f (bubble p k (k-l)) (k+1))=_;rw[aHg,g1]
  rw[e];have hs:=hp.size;refine bB8 f _ (k+1) (hp.of (bubble_perm _ _ _)) (by omega) (by omega) fun i _ hb=> ?_
  rw[bD9 (by omega) (by omega),bD9 (by omega) (by omega)];have kl:k-(k-l)=l:=by omega
  rw[kl];by_cases c1:i=l
  ·rw[if_pos c1,if_neg (by omega),if_pos (by omega),show i+1-1=i by omega]
   exact g4 i (by omega) (by omega)
  ·rw[if_neg c1]
   by_cases c2:l<i
   ·rw[if_pos (by omega),if_neg (by omega),if_pos (by omega),show i+1-1=i-1+1 by omega]
    exact ha (i-1) (Nat.zero_le _) (by omega)
   ·rw[if_neg (by omega)]
    by_cases c3:i+1=l
    ·rw[if_pos c3]
     exact g3 i (by omega)
    ·rw[if_neg c3,if_neg (by omega)]
     exact ha i (Nat.zero_le _) (by omega)
theorem bGe (hn:2<=n): ∃p,aKu lt (kas_sort n)=p/\Plc n p/\Asc lt p 0 n:=by
 obtain⟨m,p,g1,g2,g3,g4,g5⟩:=bB7 T (p:=List.toArray (List.range n)) (List.Perm.refl _) hn;unfold kas_sort;rw[aHg,g1];show∃p',aKu lt (if m<n then kas_bin (n-max m 1) p (max m 1) else .ret p)=p'/\_;rw[show max m 1=m by omega];by_cases q:m<n
 ·rw[if_pos q]
  exact bB8 T (n-m) p m g2 g3 (by omega) g5
 ·rw[if_neg q]
  refine⟨p,rfl,g2,?_⟩;rw[show n=m by omega];exact g5
theorem bG6:(bG7 lt n).Pairwise fun i j=>lt i j=true:=by
 unfold bG7;by_cases h:n<2
 ·rw[if_pos h]
  rcases (show n=0\/n=1 by omega) with e | e<;>subst e
  ·exact .nil
  ·exact List.pairwise_singleton _ _
 ·rw[if_neg h]
  obtain⟨p,g1,g2,g3⟩:=bGe T (by omega);rw[g1,List.pairwise_iff_getElem];intro i j hi hj hij;rw[Array.length_toList] at hi hj;have e: ∀k (h:k<p.size),p.toList[k]'(by rw[Array.length_toList];exact h)=gt0 p k:=fun k h=>by simp[gt0,Array.getD,h]
  rw[e i hi,e j hj];have hs:=g2.size;have:=aZn T g3 (j-i-1) i (Nat.zero_le _) (by omega)
  rwa [show i+(j-i-1)+1=j by omega] at this
end
end L2.PU
namespace L2.PU
open PySem PySem.Spec PyProof.Rows
def N1 (p:Keyed):Int:=numOf p.1
def SL (l:List Keyed):Prop:=l.Pairwise fun p q=>N1 p<=N1 q
def bJz:Nat->List (Nat×Nat×Nat)->List (List Keyed)->Prop
 | _,[],[]=>True
 | s,(b,n,_)::p,r::R=>b=s/\n=r.length/\0<n/\SL r/\bJz (s+n) p R
 | _,_,_=>False
structure TS (a0:List Keyed)(rest:List Keyed)(lo:Nat)(st:SortSt):Prop where
 kind:kindOf st=oneType'
 fail:failedOf st=none
 runs: ∃R,(arrOf st).toList=R.flatten++rest/\R.flatten.length=lo/\bJz 0 (pendingOf st).toList R
 perm:(arrOf st).toList.Perm a0
def stand (t:SetTable)(h:Int):Nat->SetTable.Probe
 | 0=>t.probeStart h
 | n+1=>t.advance (stand t h n)
abbrev bM5 (H:Hp)(y:V)(kv:List Key×V):Prop:= ∃c b,y= .ref c/\H c=some (.tup [.ref b,kv.2])/\H b=some (.tup (kv.1.map kV))
def bN7:List V->Hp->VK->Prop:=fun xs H Q=> ∃(p:Addr) (ys:List V) (kvs:List (List Key×V)),xs=[.ref p]/\H p=some (.tup ys)/\Paired (bM5 H) ys kvs/\(kvs.map (·.1)).Nodup/\kvs.length<=1000/\∀l,H l=none->Q (.ref l) (upd H l (.dT kvs))
theorem Paired.len {α β:Type}{F:α->β->Prop}: ∀{l₁:List α} {l₂:List β},Paired F l₁ l₂->l₁.length=l₂.length
 | _,_,.nil=>rfl
 | _,_,.cons _ t=>congrArg (· +1) (Paired.len t)
theorem pairs_at {P:Program}{w:World}{H:Hp}{h:Heap}(ok:HOk P w H h): ∀{ys:List V} {kvs:List (List Key×V)} {its:List Value},Paired (bM5 H) ys kvs->Vals ys its->
  ∃ps:List (List Key×Addr×Value),ps.map (·.1)=kvs.map (·.1)/\Paired (KR H) kvs ps/\Paired (fun (v:Value) (q:List Key×Addr×Value)=> ∃c,v= .ref c/\bFo h c #[.ref q.2.1,q.2.2]) its ps
 | _,_,_,.nil,.nil=>⟨[],rfl,.nil,.nil⟩
 | _,_,_,.cons (b:=kv) ⟨c,b,e1,e2,e3⟩ r,.cons rx t=>by
  obtain⟨ps,g1,g2,g3⟩:=pairs_at ok r t;subst e1;cases rx;obtain⟨_,its,r',td⟩:=(show aDb P w H h c (.tup [.ref b,kv.2]) from ok c _ e2);cases r' with
  | cons rb r2=>
   cases rb;cases r2 with
   | cons rv r3=>
    cases r3;exact⟨(kv.1,b,_)::ps,by rw[List.map_cons,List.map_cons,g1],.cons ⟨rfl,e3,rv⟩ g2,.cons ⟨c,rfl,td⟩ g3⟩
theorem Paired.at {α β:Type}{F:α->β->Prop}: ∀{l₁:List α} {l₂:List β} {i:Nat} {a:α},Paired F l₁ l₂->l₁[i]? =some a->∃b,l₂[i]? =some b/\F a b
 | _,_,_,_,.nil,e=>by simp at e
 | _,_,0,_,.cons h _,e=>by simp at e;subst e;exact⟨_,rfl,h⟩
 | _,_,i+1,a,.cons _ t,e=>by
  obtain⟨b,h1,h2⟩:=Paired.at (i:=i) (a:=a) t (by simpa using e);exact⟨b,by simpa using h1,h2⟩
theorem Paired.mem {α β:Type}{F:α->β->Prop}{b:β}: ∀{l₁:List α} {l₂:List β},Paired F l₁ l₂->b∈l₂->∃a∈l₁,F a b
 | _,_,.nil,e=>by simp at e
 | _,_,.cons h t,e=>by
  rcases List.mem_cons.mp e with e | e
  ·subst e;exact⟨_,List.mem_cons_self,h⟩
  ·obtain⟨a,m,f⟩:=Paired.mem t e;exact⟨a,List.mem_cons_of_mem _ m,f⟩
section
variable {X:Cx}{B:Hp}{e:Expr}{fa:Rho->M D}{pos pos' p pos2:Pos}{x:Str}{i j:Nat}
theorem aVk {k:Nat}(hr:aDm k X.A):aJe X (.type "dict") bN7:=by
 intro pins s σ H xs us Q I r h;obtain⟨p,ys,kvs,rfl,hp,pr,nd,hl,q⟩:=h;obtain⟨u,rfl,rx⟩:=vals1 r;cases rx;obtain⟨hz,its,r',td⟩:=(show aDb X.prog X.w H s.heap p (.tup ys) from I.hok p _ hp);obtain⟨ps,g1,g2,g3⟩:=pairs_at I.hok pr r';obtain⟨o,ho,hc,⟨n,hd⟩,hdi⟩:=td;have l1:=Paired.len g3;have l2:=Paired.len g2;refine aPk (knd:=tupleKind (aB8 X.prog X.w)) hr.hd ho hc hdi hd ps (by rw[List.size_toArray];exact l1.symm) (by rw[g1];exact nd) ?_ (fun i v hv=> ?_) (fun y hy h' kp=> ?_) (by rw[List.size_toArray,l1,<-l2];exact aOv hl) fun h' tk dd kp=> ?_
 ·show X.A.units+1+1<cLine
  have:=hr.un;omega
 ·rw[List.getElem?_toArray] at hv
  obtain⟨y,e1,c,e2,o2,f1,f2,⟨m,f3⟩,f4⟩:=Paired.at g3 hv;exact⟨c,y,e2,e1,fun h' kp=>⟨o2,kp _ _ f1,f2,m,f3⟩⟩
 ·obtain⟨kv,_,e1,e2,_⟩:=Paired.mem g2 hy
  have:=aO0 (I.hok.kept kp) e2;rw[e1] at this;exact this
 ·obtain⟨od,es,ep,o1,o2,o3,o4,_,o5⟩:=dd
  have hf:H s.heap.objs.size=none:=I.hok.fresh (Nat.le_refl _);obtain⟨_,hsys,_⟩:=aZc (P:=X.prog) (w:=X.w) (H:=H) s.heap I.big;refine⟨.ref s.heap.objs.size,_,I.laid (a:=s.heap.objs.size) (o:= .dT kvs) (t':=tk) kp (Nat.le_refl _) ⟨aOv hl,hsys,ps,?_,od,es,ep,o1,o2,o3,o4,o5⟩,rfl,q _ hf⟩;exact Paired.bQ9 g2 fun a b ⟨z1,z2,z3⟩=>⟨z1,by rw[aA6 (fun e=>by rw[e,hf] at z2;cases z2)];exact z2,z3⟩
def aK0:List D->Option (List (List Key×D))
 | []=>some []
 | .tup [.tup kd,v]::r=>match keysOf kd,aK0 r with | some ks,some l=>some ((ks,v)::l) | _,_=>none
 | _::_=>none
theorem aWt {d:D}{r:List D}{l:List (List Key×D)}(h:aK0 (d::r)=some l): ∃kd v ks l',d= .tup [.tup kd,v]/\keysOf kd=some ks/\aK0 r=some l'/\l=(ks,v)::l':=by
 unfold aK0 at h;split at h
 ·rename_i e;cases e
 ·rename_i kd v r' e
  cases e;split at h
  ·rename_i ks l' e1 e2
   cases h;exact⟨kd,v,ks,l',rfl,e1,e2,rfl⟩
  ·cases h
 ·cases h
theorem aYk {K:PySem.W.Frag}{H:Hp}: ∀{ds:List D} {ys:List V} {l:List (List Key×D)},aK0 ds=some l->IsL K H ds ys->∃kvs:List (List Key×V),Paired (bM5 H) ys kvs/\IsT K H l kvs/\kvs.map (·.1)=l.map (·.1)
 | [],_,l,h,.nil=>by cases h;exact⟨[],.nil,.nil,rfl⟩
 | d::r,_,l,h,.cons i t=>by
  obtain⟨kd,v,ks,l',rfl,e1,e2,rfl⟩:=aWt h;obtain⟨kvs,g1,g2,g3⟩:=aYk e2 t;cases i with
  | tup hh rr=>
   cases rr with
   | cons ik rr=>
    cases rr with
    | cons iv rr=>
     cases rr;cases ik with
     | tup hk rk=>
      have ev:=aSu rk e1;subst ev;exact⟨(ks,_)::kvs,.cons ⟨_,_,rfl,hh,hk⟩ g1,.cons iv g2,by rw[List.map_cons,List.map_cons,g3]⟩
def bMa:List (List Key×D)->Bool
 | []=>true
 | kv::r=>kv.2.imm&&bMa r
theorem bDu {K:PySem.W.Frag}{H:Hp}{O:Nat->Option Addr}(ho:aRh H O): ∀{l:List (List Key×D)} {kvs:List (List Key×V)},bMa l=true->IsT K H l kvs->IsT K (Off H O) l kvs
 | _,_,_,.nil=> .nil
 | _,_,q,.cons i r=>by
  unfold bMa at q;rw[Bool.and_eq_true] at q;exact .cons (aKb ho q.1 i) (bDu ho q.2 r)
def bGb (i:Nat)(f:Rho->M D):Rho->Option Out:=fun ρ=>lft (f ρ) ρ fun d=>match d with
 | .tup ds=>(match aK0 ds with | some l=>if bMa l=true/\(l.map (·.1)).Nodup/\l.length<=1000 then some (.nx (ρ.set i (some (.ow (.t l))))) else none | none=>none)
 | _=>none
theorem bGv {k:Nat}(hr:aDm k X.A)(hg:Gl X "dict")(hm:X.mg "dict"=none)(hN:X.N.Nodup)(hi:X.N[i]? =some x)(hx:Loc X.env.scope x)(he:PD X B e fa)(hst:aD4 e=true:=by rfl)(hs:swapsWith (.Call (.Name "dict" p) [e] [] pos2) (some (.Name x pos')) pos.line X.env=pure false:=by rfl)(hf:X.fn x=true\/X.env.scope.names.lookup x=some .local:=by first | exact .inl rfl | exact .inr rfl | assumption):
  PDS X B (.Assign [.Name x pos'] (.Call (.Name "dict" p) [e] [] pos2) pos) (bGb i fa):=by
 refine PS.of (aQs hN hi hx (aIv (aVk hr) hg hm boot_dict (aBq he aEi (aA5 hst)) (he:=aA5 hst) (hpl:=by rfl)) hs hf) fun E σ H h=> ?_
 obtain⟨ρ,r,h⟩:=h;refine⟨ρ,r,(aCe r h).imp fun d h1 v H1 e1 i1=> ?_⟩;split at h1
 ·rename_i ds
  split at h1
  ·rename_i l hl
   split at h1
   ·rename_i hh
    cases i1 with
    | tup hq rr=>
     obtain⟨kvs,g1,g2,g3⟩:=aYk hl rr;refine⟨_,_,kvs,rfl,hq,g1,by rw[g3];exact hh.2.1,by rw[<-aL0 g2];exact hh.2.2,fun a ha=> ?_⟩;exact h1 _ _ ((r.mono e1).aYl (o:= .t l) (w:= .dT kvs) ha (fun H' s'=>IsT.mono s' g2) (fun O ho=>bDu ho hh.1 (IsT.mono (aA4 ha _) g2)))
   ·exact False.elim h1
  ·exact False.elim h1
 ·exact False.elim h1
end
abbrev Sm:=List (List Str×Int)
theorem bDd (a b:Str):decide (a.cps.toList<b.cps.toList)= !leS b a:=by
 rw[Bool.eq_iff_iff,decide_eq_true_eq,Bool.not_eq_true',<-Bool.not_eq_true,aOw];exact List.not_le.symm
theorem bPq (a:Str):decide (a.cps.toList<a.cps.toList)=false:=by
 rw[bDd];have:=aUw a a;rw[Bool.or_self] at this;rw[this];rfl
theorem bPo {a b c:Str}(h1:decide (a.cps.toList<b.cps.toList)=true)(h2:decide (b.cps.toList<c.cps.toList)=true):decide (a.cps.toList<c.cps.toList)=true:=
 decide_eq_true (List.lt_trans (of_decide_eq_true h1) (of_decide_eq_true h2))
theorem bPp {a b:Str}(ne:a≠b)(h:decide (a.cps.toList<b.cps.toList)=false):decide (b.cps.toList<a.cps.toList)=true:=by
 rw[bDd] at h⊢;cases q:leS a b with
 | false=>rfl
 | true=>
  have q2:leS b a=true:=by cases z:leS b a<;>simp_all
  exact absurd (aYt a b q q2) ne
theorem bJb: ∀(xs:List Str),aNh xs xs=false
 | []=>rfl
 | x::xs=>by unfold aNh;rw[if_pos rfl];exact bJb xs
theorem bI9: ∀{xs ys zs:List Str},aNh xs ys=true->aNh ys zs=true->aNh xs zs=true
 | [],[],_,h,_=>by cases h
 | [],_::_,[],_,h=>by cases h
 | [],_::_,_::_,_,_=>rfl
 | _::_,[],_,h,_=>by cases h
 | _::_,_::_,[],_,h=>by cases h
 | x::xs,y::ys,z::zs,h1,h2=>by
  unfold aNh at h1 h2⊢;by_cases e1:x=y
  ·subst e1
   rw[if_pos rfl] at h1;by_cases e2:x=z
   ·subst e2
    rw[if_pos rfl] at h2⊢;exact bI9 h1 h2
   ·rw[if_neg e2] at h2⊢
    exact h2
  ·rw[if_neg e1] at h1
   by_cases e2:y=z
   ·subst e2
    rw[if_neg e1];exact h1
   ·rw[if_neg e2] at h2
    have t:=bPo h1 h2;rw[if_neg (fun e=>by rw[e,bPq] at t;cases t)];exact t
theorem bJa: ∀{xs ys:List Str},xs≠ys->aNh xs ys=false->aNh ys xs=true
 | [],[],n,_=>absurd rfl n
 | [],_::_,_,h=>by cases h
 | _::_,[],_,_=>rfl
 | x::xs,y::ys,n,h=>by
  unfold aNh at h⊢;by_cases e:x=y
  ·subst e
   rw[if_pos rfl] at h⊢;exact bJa (fun z=>n (by rw[z])) h
  ·rw[if_neg e] at h
   rw[if_neg (Ne.symm e)];exact bPp e h
theorem bPs (p:List Str×Int):ltI p p=false:=by unfold ltI;rw[if_pos rfl,if_pos rfl]
theorem bDe {p q:List Str×Int}(n:p.1≠q.1):ltI p q=aNh p.1 q.1:=by unfold ltI;rw[if_neg n]
theorem bPr {p q r:List Str×Int}(h1:ltI p q=true)(h2:ltI q r=true):ltI p r=true:=by
 unfold ltI at h1 h2⊢;by_cases e1:p.1=q.1
 ·rw[if_pos e1] at h1
  by_cases e2:q.1=r.1
  ·rw[if_pos e2] at h2
   rw[if_pos (e1.trans e2)];split at h1
   ·cases h1
   ·split at h2
    ·cases h2
    ·have a:=of_decide_eq_true h1
     have b:=of_decide_eq_true h2;rw[if_neg (by omega)];exact decide_eq_true (by omega)
  ·rw[if_neg e2] at h2
   rw[if_neg (fun e=>e2 (e1.symm.trans e)),e1];exact h2
 ·rw[if_neg e1] at h1
  by_cases e2:q.1=r.1
  ·rw[if_pos e2] at h2
   rw[if_neg (fun e=>e1 (e.trans e2.symm)),<-e2];exact h1
  ·rw[if_neg e2] at h2
   have t:=bI9 h1 h2;rw[if_neg (fun e=>by rw[e,bJb] at t;cases t)];exact t
abbrev kys (l:Sm):List (List Str):=l.map (·.1)
theorem bDp {l:Sm}{i:Nat}(h:i<l.length):l[i]? =some (ixP l i):=by
 show l[i]? =some (l.getD i ([],0));rw[List.getD_eq_getElem?_getD,List.getElem?_eq_getElem h];rfl
theorem bNk {l:Sm}(nd:(kys l).Nodup):Tot l.length fun i j=>ltI (ixP l i) (ixP l j) where
 ir:=fun i=>bPs _
 tr:=fun i j k h1 h2=>bPr h1 h2
 to:=fun i j hi hj ne h=>by
  have nk:(ixP l i).1≠(ixP l j).1:=fun e=>ne ((List.getElem?_inj (l:=kys l) (by rw[List.length_map];exact hi) nd).mp (by rw[List.getElem?_map,List.getElem?_map,bDp hi,bDp hj];exact congrArg some e))
  rw[bDe nk] at h;rw[bDe (Ne.symm nk)];exact bJa nk h
def aZ2 (l:Sm):Sm:=(bAf l).map (ixP l)
theorem bCb (l:Sm):(List.range l.length).map (ixP l)=l:=by
 apply List.ext_getElem?
 intro i;rw[List.getElem?_map];by_cases h:i<l.length
 ·rw[List.getElem?_range h,bDp h];rfl
 ·rw[List.getElem?_eq_none (by rw[List.length_range];omega),List.getElem?_eq_none (by omega)];rfl
theorem aKp (l:Sm):(aZ2 l).Perm l:=by
 have:=(aOe l).map (ixP l);rw[bCb] at this;exact this
theorem aYb (l:Sm):(aZ2 l).length=l.length:=(aKp l).length_eq
theorem bBm {l:Sm}(nd:(kys l).Nodup):(aZ2 l).Pairwise fun p q=>ltI p q=true:=by
 unfold aZ2;rw[List.pairwise_map];exact bG6 (bNk nd)
theorem bBn {l:Sm}(nd:(kys l).Nodup):(kys (aZ2 l)).Pairwise fun x y=>aNh x y=true:=by
 have nd2:(kys (aZ2 l)).Nodup:=((aKp l).map (·.1)).nodup_iff.mpr nd;unfold kys at nd2⊢;rw[List.pairwise_map];rw[List.Nodup,List.pairwise_map] at nd2;refine List.Pairwise.imp₂ ?_ (bBm nd) nd2;intro p q h1 h2;rw[bDe h2] at h1;exact h1
def aNn (l:Sm)(k:List Str):Int:=((l.find? fun p=>decide (p.1=k)).map (·.2)).getD 0
def bBa (l:Sm)(k:List Str)(v:Int):Sm:=if (l.any fun p=>decide (p.1=k))=true then l.map (fun p=>if p.1=k then (p.1,v) else p) else l++ [(k,v)]
def aPu (l:Sm)(p:List Str×Int):Sm:=bBa l p.1 (aNn l p.1+p.2)
def aPv (c l:Sm):Sm:=c.foldl aPu l
theorem aTj {l:Sm}{k:List Str}:(l.any fun p=>decide (p.1=k))=true↔k∈kys l:=by
 rw[List.any_eq_true,List.mem_map]
 constructor
 ·rintro⟨p,hp,e⟩;exact⟨p,hp,of_decide_eq_true e⟩
 ·rintro⟨p,hp,e⟩;exact⟨p,hp,decide_eq_true e⟩
theorem bFw {l:Sm}{k:List Str}(h:k∉kys l):aNn l k=0:=by
 unfold aNn;rw[List.find?_eq_none.mpr fun p hp e=>h (List.mem_map.mpr ⟨p,hp,of_decide_eq_true e⟩)];rfl
theorem aV5 {l:Sm}(nd:(kys l).Nodup){p:List Str×Int}(hp:p∈l):aNn l p.1=p.2:=by
 induction l with
 | nil=>cases hp
 | cons q l ih=>
  rw[show kys (q::l)=q.1::kys l from rfl,List.nodup_cons] at nd;unfold aNn;rw[List.find?_cons];rcases List.mem_cons.mp hp with e | e
  ·subst e;simp
  ·have ne:¬q.1=p.1:=fun z=>nd.1 (by rw[z];exact List.mem_map_of_mem e)
   rw[decide_eq_false ne];exact ih nd.2 e
theorem bLx {l:Sm}(nd:(kys l).Nodup){k:List Str}{v:Int}:(k,v)∈l↔k∈kys l/\aNn l k=v:=by
 constructor
 ·intro h;exact⟨List.mem_map_of_mem (f:=Prod.fst) h,aV5 nd h⟩
 ·rintro⟨h1,h2⟩
  obtain⟨p,hp,e⟩:=List.mem_map.mp h1;have:=aV5 nd hp;rw[e,h2] at this;rw[show (k,v)=p from Prod.ext e.symm this];exact hp
theorem aYh (l:Sm)(k:List Str)(v:Int):kys (bBa l k v)=if k∈kys l then kys l else kys l++ [k]:=by
 unfold bBa;by_cases h:k∈kys l
 ·rw[if_pos (aTj.mpr h),if_pos h]
  unfold kys;rw[List.map_map]
  apply List.map_congr_left
  intro p _;show (if p.1=k then (p.1,v) else p).1=p.1;split<;>rfl
 ·rw[if_neg (fun z=>h (aTj.mp z)),if_neg h]
  unfold kys;rw[List.map_append];rfl
theorem bKo {l:Sm}{k:List Str}{v:Int}(k':List Str):aNn (bBa l k v) k'=if k'=k then v else aNn l k':=by
 unfold bBa;by_cases h:k∈kys l
 ·rw[if_pos (aTj.mpr h)]
  induction l with
  | nil=>cases h
  | cons q l ih=>
   rw[List.map_cons];unfold aNn;rw[List.find?_cons,List.find?_cons];by_cases e:q.1=k
   ·rw[if_pos e]
    by_cases e2:k'=k
    ·rw[if_pos e2,decide_eq_true (e.trans e2.symm)]
     rfl
    ·rw[if_neg e2,decide_eq_false (fun z:q.1=k'=>e2 (z.symm.trans e))]
     by_cases h2:k∈kys l
     ·have:=ih h2
      rw[if_neg e2] at this;exact this
     ·have:l.map (fun p=>if p.1=k then (p.1,v) else p)=l:=by
       conv=>rhs;rw[<-List.map_id l]
       apply List.map_congr_left
       intro p hp;exact if_neg fun z=>h2 (by rw[<-z];exact List.mem_map_of_mem hp)
      rw[this]
   ·rw[if_neg e]
    have h2:k∈kys l:=by
     rcases List.mem_cons.mp h with z | z
     ·exact absurd z.symm e
     ·exact z
    by_cases e3:q.1=k'
    ·rw[decide_eq_true e3,if_neg (fun z=>e (e3.trans z))]
    ·rw[decide_eq_false e3]
     exact ih h2
 ·rw[if_neg (fun z=>h (aTj.mp z))]
  unfold aNn;rw[List.find?_append];by_cases e:k'=k
  ·rw[if_pos e,List.find?_eq_none.mpr fun p hp z=>h (List.mem_map.mpr ⟨p,hp,(of_decide_eq_true z).trans e⟩)]
   simp[e]
  ·rw[if_neg e]
   cases q:l.find? fun p=>decide (p.1=k') with
   | some p=>rfl
   | none=>simp[Ne.symm e]
theorem bFl {l:Sm}(nd:(kys l).Nodup)(p:List Str×Int):(kys (aPu l p)).Nodup:=by
 unfold aPu;rw[aYh];split
 ·exact nd
 ·rename_i h
  rw[List.nodup_append];exact⟨nd,by simp,fun x hx y hy=>by rw[List.mem_singleton] at hy;subst hy;exact fun e=>h (e▸hx)⟩
theorem bIe (l:Sm)(p:List Str×Int)(k:List Str):k∈kys (aPu l p)↔k∈kys l\/k=p.1:=by
 unfold aPu;rw[aYh];split
 ·rename_i h
  constructor
  ·exact .inl
  ·rintro (z | z)
   ·exact z
   ·rw[z];exact h
 ·rw[List.mem_append,List.mem_singleton]
theorem bM4 (l:Sm)(p:List Str×Int)(k:List Str):aNn (aPu l p) k=aNn l k+(if p.1=k then p.2 else 0):=by
 unfold aPu;rw[bKo];by_cases e:k=p.1
 ·rw[if_pos e,if_pos e.symm,e]
 ·rw[if_neg e,if_neg (Ne.symm e)];omega
def aWp (a b:Sm):Sm:=aZ2 (aPv b a)
def aT8 (a b:Sm):Sm:=a.flatMap fun p=>b.map fun q=>(aHz (p.1++q.1),p.2*q.2)
def bIl (a b:Sm):Sm:=aZ2 (aPv (aT8 a b) [])
def sD (l:Sm):D:= .tup (l.map pD)
def kvD (p:List Str×Int):List Key×D:=(p.1.map .inr,.int p.2)
theorem bCt (p:List Str×Int):(pD p).imm=true:=by
 show ((tS p.1).imm&&((D.int p.2).imm&&true))=true;rw[aO5];rfl
theorem bMb (l:Sm):aIm (l.map pD)=true:=by
 induction l with
 | nil=>rfl
 | cons p l ih=>
  show ((pD p).imm&&aIm (l.map pD))=true;rw[bCt,ih];rfl
theorem bB6 (l:Sm):(sD l).imm=true:=bMb l
theorem bSj {p:List Str×Int}(h:p.1.length<=1000):(pD p).pl=true:=by
 show (true&&((tS p.1).pl&&(true&&true)))=true;rw[bR8 p.1 h];rfl
theorem bIt: ∀{l:Sm},(∀p∈l,p.1.length<=1000)->plL (l.map pD)=true
 | [],_=>rfl
 | p::l,h=>by
  show ((pD p).pl&&plL (l.map pD))=true;rw[bSj (h p List.mem_cons_self),bIt fun q hq=>h q (List.mem_cons_of_mem _ hq)];rfl
theorem bRz {l:Sm}(h: ∀p∈l,p.1.length<=1000)(hl:l.length<=1000):(sD l).pl=true:=by
 show (decide ((l.map pD).length<=100000)&&plL (l.map pD))=true;rw[bIt h,decide_eq_true (by rw[List.length_map];omega)];rfl
theorem bO4 (p:List Str×Int):(pD p).dep<=2:=by
 show max (tS p.1).dep (max 0 0)+1<=2;have:=bQl p.1;omega
theorem bEn: ∀(l:Sm),aZd (l.map pD)<=2
 | []=>Nat.zero_le _
 | p::l=>by
  show max (pD p).dep (aZd (l.map pD))<=2;have:=bO4 p;have:=bEn l;omega
theorem bNy (l:Sm):(sD l).dep<=3:=by
 show aZd (l.map pD)+1<=3;have:=bEn l;omega
theorem bNf (l:Sm)(k:List Str):(aMt (l.map kvD) (k.map .inr)).getD (.int 0)= .int (aNn l k):=by
 unfold aMt aNn
 induction l with
 | nil=>rfl
 | cons p l ih=>
  rw[List.map_cons,List.find?_cons,List.find?_cons];by_cases e:p.1=k
  ·rw[decide_eq_true (show (kvD p).1=k.map .inr from aH4.mpr e),decide_eq_true e]
   rfl
  ·rw[decide_eq_false (fun z:(kvD p).1=k.map .inr=>e (aH4.mp z)),decide_eq_false e]
   exact ih
theorem bOf (l:Sm)(k:List Str)(v:Int):aR4 (l.map kvD) (k.map .inr) (.int v)=(bBa l k v).map kvD:=by
 have ha:((l.map kvD).any fun kv=>decide (kv.1=k.map .inr))=(l.any fun p=>decide (p.1=k)):=by
  rw[List.any_map]
  congr 1
  funext p
  show decide ((kvD p).1=k.map Sum.inr)=_;by_cases e:p.1=k
  ·rw[decide_eq_true (show (kvD p).1=k.map Sum.inr from aH4.mpr e),decide_eq_true e]
  ·rw[decide_eq_false (fun z:(kvD p).1=k.map Sum.inr=>e (aH4.mp z)),decide_eq_false e]
 unfold aR4 bBa;rw[ha];split
 ·rw[List.map_map,List.map_map]
  apply List.map_congr_left
  intro p _;show (if (kvD p).1=k.map Sum.inr then ((kvD p).1,D.int v) else kvD p)=kvD (if p.1=k then (p.1,v) else p);by_cases e:p.1=k
  ·rw[if_pos (show (kvD p).1=k.map Sum.inr from aH4.mpr e),if_pos e];rfl
  ·rw[if_neg (fun z:(kvD p).1=k.map Sum.inr=>e (aH4.mp z)),if_neg e]
 ·rw[List.map_append]
  rfl
theorem bQm (l:Sm):bH7 (l.map kvD)=some l:=by
 induction l with
 | nil=>rfl
 | cons p l ih=>
  show (match bIo (p.1.map Sum.inr),bH7 (l.map kvD) with | some xs,some l=>some ((xs,p.2)::l) | _,_=>none)=_;rw[bF3,ih]
theorem bG2 (l:Sm):aK0 (l.map pD)=some (l.map kvD):=by
 induction l with
 | nil=>rfl
 | cons p l ih=>
  show (match keysOf (p.1.map D.str),aK0 (l.map pD) with | some ks,some l=>some ((ks,D.int p.2)::l) | _,_=>none)=_;rw[aOz,ih];rfl
theorem bHd {l:Sm}(h:(kys l).Nodup):((l.map kvD).map (·.1)).Nodup:=by
 rw[List.map_map];unfold kys at h;rw[List.Nodup,List.pairwise_map] at h⊢;exact h.imp fun hn e=>hn (aH4.mp e)
theorem bP6 (l:Sm):bMa (l.map kvD)=true:=by
 induction l with
 | nil=>rfl
 | cons p l ih=>show ((D.int p.2).imm&&bMa (l.map kvD))=true;rw[ih];rfl
theorem bLr {i:Nat}{f:Rho->M D}{ρ:Rho}{l:Sm}(h:f ρ=ok (sD l))(nd:(kys l).Nodup)(hl:l.length<=1000):bGb i f ρ=some (.nx (ρ.set i (some (.ow (.t (l.map kvD)))))):=by
 unfold bGb;rw[h,aHi];show (match aK0 (l.map pD) with | some l=>_ | none=>_)=_;rw[bG2];show (if bMa (l.map kvD)=true/\((l.map kvD).map (·.1)).Nodup/\(l.map kvD).length<=1000 then _ else _)=_;rw[if_pos ⟨bP6 l,bHd nd,by rw[List.length_map];exact hl⟩]
theorem bQa {i j:Nat}{ρ:Rho}{l:Sm}{k:List Str}(hi:ρ[i]? =some (some (.ow (.t (l.map kvD)))))(hj:aQj ρ j=some (k.map .inr)):aPd i j (con (.int 0)) ρ=ok (.int (aNn l k)):=by
 unfold aPd;rw[hi,hj];show bnd (ok (D.int 0)) _=_;rw[aCx,bNf]
theorem bOe {i j:Nat}{f:Rho->M D}{ρ:Rho}{l:Sm}{k:List Str}{v:Int}(hi:ρ[i]? =some (some (.ow (.t (l.map kvD)))))(hj:aQj ρ j=some (k.map .inr))(hf:f ρ=ok (.int v))(hl:l.length<100000):
  aN4 i j f ρ=some (.nx (ρ.set i (some (.ow (.t ((bBa l k v).map kvD)))))):=by
 unfold aN4;rw[hi,hj];show lft (f ρ) ρ _=_;rw[hf,aHi,if_pos ⟨rfl,by rw[List.length_map];exact hl⟩,bOf]
theorem aWe {i:Nat}{ρ:Rho}{l:Sm}(hi:dictAt ρ i=some (l.map kvD))(hl:l.length<64):aXq i ρ=ok (.lst ((aZ2 l).map pD)):=by
 unfold aXq;rw[hi];show (match bH7 (l.map kvD) with | some l=>_ | none=>_)=_;rw[bQm];show (if l.length<64 then ok (D.lst ((bAf l).map fun j=>pD (ixP l j))) else none)=_;rw[if_pos hl];unfold aZ2;rw[List.map_map];rfl
theorem bDk {ρ:Rho}{j:Nat}{k:List Str}(h:ρ[j]? =some (some (.sh (tS k)))):aQj ρ j=some (k.map .inr):=by
 unfold aQj;rw[h];exact aOz k
theorem aLy {ρ:Rho}{j:Nat}{d:D}(h:ρ[j]? =some (some (.sh d))):look j ρ=ok d:=by unfold look;rw[h];rfl
theorem aTk (l:Sm)(p:List Str×Int):(aPu l p).length<=l.length+1:=by
 unfold aPu bBa;split
 ·rw[List.length_map];omega
 ·rw[List.length_append,List.length_singleton];omega
theorem aXz {i j:Nat}{f:Rho->M D}{ρ:Rho}{l:Sm}{k:List Str}{n:Int}(hi:ρ[i]? =some (some (.ow (.t (l.map kvD)))))(hj:aQj ρ j=some (k.map .inr))(hf:f ρ=ok (.int n))(hl:l.length<100000):
  aAi (aN4 i j (b2 aBd (aPd i j (con (.int 0))) f)) aAp ρ=some (.nx (ρ.set i (some (.ow (.t ((aPu l (k,n)).map kvD)))))):=by
 rw[aAg (bOe (v:=aNn l k+n) hi hj (aIj (bQa hi hj) hf) hl)];rfl
theorem aT9 {i j k:Nat}(nij:i≠j)(nik:i≠k)(njk:j≠k): ∀(b l:Sm) (ρ:Rho),i<ρ.length->j<ρ.length->k<ρ.length->ρ[i]? =some (some (.ow (.t (l.map kvD))))->l.length+b.length<100000->
  ∃ρ',loop (gN2 j k) (aAi (aN4 i j (b2 aBd (aPd i j (con (.int 0))) (look k))) aAp) (b.map pD) ρ=some (.nx ρ')/\ρ'[i]? =some (some (.ow (.t ((aPv b l).map kvD))))/\ρ'.length=ρ.length/\∀m,m≠i->m≠j->m≠k->ρ'[m]? =ρ[m]?
 | [],l,ρ,_,_,_,h,_=>⟨ρ,rfl,h,rfl,fun _ _ _ _=>rfl⟩
 | p::b,l,ρ,hi,hj,hk,h,hl=>by
  rw[List.length_cons] at hl;have g:gN2 j k (pD p) ρ=some ((ρ.set j (some (.sh (tS p.1)))).set k (some (.sh (.int p.2)))):=by
   show some (aLk k (.int p.2) (aLk j (tS p.1) ρ))=_;rw[aEk (aO5 _),aEk rfl]
  have l1:((ρ.set j (some (.sh (tS p.1)))).set k (some (.sh (.int p.2)))).length=ρ.length:=by rw[List.length_set,List.length_set]
  have h1:((ρ.set j (some (.sh (tS p.1)))).set k (some (.sh (.int p.2))))[i]? =some (some (.ow (.t (l.map kvD)))):=by rw[List.getElem?_set_ne (Ne.symm nik),List.getElem?_set_ne (Ne.symm nij)];exact h
  have h2:((ρ.set j (some (.sh (tS p.1)))).set k (some (.sh (.int p.2))))[j]? =some (some (.sh (tS p.1))):=by rw[List.getElem?_set_ne (Ne.symm njk),List.getElem?_set_self hj]
  have h3:((ρ.set j (some (.sh (tS p.1)))).set k (some (.sh (.int p.2))))[k]? =some (some (.sh (.int p.2))):=List.getElem?_set_self (by rw[List.length_set];exact hk);have e:=aXz h1 (bDk h2) (aLy h3) (by omega);have al:=aTk l (p.1,p.2);obtain⟨ρ',e1,e2,e3,e4⟩:=aT9 nij nik njk b (aPu l (p.1,p.2)) (((ρ.set j (some (.sh (tS p.1)))).set k (some (.sh (.int p.2)))).set i (some (.ow (.t ((aPu l (p.1,p.2)).map kvD))))) (by rw[List.length_set,l1];exact hi) (by rw[List.length_set,l1];exact hj) (by rw[List.length_set,l1];exact hk)
   (List.getElem?_set_self (by rw[l1];exact hi)) (by omega)
  refine⟨ρ',by rw[List.map_cons,aB4 g e];exact e1,e2,by rw[e3,List.length_set,l1],fun m m1 m2 m3=> ?_⟩;rw[e4 m m1 m2 m3,List.getElem?_set_ne (Ne.symm m1),List.getElem?_set_ne (Ne.symm m3),List.getElem?_set_ne (Ne.symm m2)]
theorem aXj {n:Nat}{G:D->Rho->Option Rho}{F:Rho->Option Out}{ρ:Rho}{b:Sm}(h:ρ[n]? =some (some (.sh (sD b)))):aF0 n G F ρ=loop G F (b.map pD) ρ:=by
 unfold aF0;rw[aLy h];show loop G F (b.map pD) (aJr n ρ)=_;unfold aJr;rw[h]
theorem aJw {ρ:Rho}{a b:Nat}{v:Option SV}(h:a≠b):(ρ.set a v)[b]? =ρ[b]? :=List.getElem?_set_ne h
theorem bKa {x z:Nat}{ρ:Rho}{p q:List Str}(hx:ρ[x]? =some (some (.sh (tS p))))(hz:ρ[z]? =some (some (.sh (tS q))))(hl:p.length+q.length<64):f1 toT (f1 bBo (b2 aBd (look x) (look z))) ρ=ok (tS (aHz (p++q))):=by
 have e1:b2 aBd (look x) (look z) ρ=ok (tS (p++q)):=by
  refine aGu (aLy hx) (aLy hz) ?_;show (if (p.map D.str).length+(q.map D.str).length<=100000 then ok (D.tup (p.map D.str++q.map D.str)) else none)=_;rw[if_pos (by rw[List.length_map,List.length_map];omega),<-List.map_append]
 have e2:f1 bBo (b2 aBd (look x) (look z)) ρ=ok (.lst ((aHz (p++q)).map D.str)):=by
  refine aLe e1 ?_;show (match bA9 ((p++q).map D.str) with | some xs=>if xs.length<64 then ok (D.lst ((aHz xs).map .str)) else none | none=>none)=_;rw[aRv];show (if (p++q).length<64 then _ else _)=_;rw[if_pos (by rw[List.length_append];exact hl)]
 exact aLe e2 rfl
abbrev aY3 (i:Nat):Rho->Option Out:=aAi (aDy (i+5) (f1 toT (f1 bBo (b2 aBd (look (i+1)) (look (i+3)))))) (aAi (aN4 i (i+5) (b2 aBd (aPd i (i+5) (con (.int 0))) (b2 aCn (look (i+2)) (look (i+4))))) aAp)
theorem aNr {i:Nat}{p:List Str×Int}: ∀(b l:Sm) (ρ:Rho),i+5<ρ.length->ρ[i]? =some (some (.ow (.t (l.map kvD))))->ρ[i+1]? =some (some (.sh (tS p.1)))->ρ[i+2]? =some (some (.sh (.int p.2)))->l.length+b.length<100000->
  (∀q∈b,p.1.length+q.1.length<64/\aM5 p.2 q.2=true)->
  ∃ρ',loop (gN2 (i+3) (i+4)) (aY3 i) (b.map pD) ρ=some (.nx ρ')/\ρ'[i]? =some (some (.ow (.t ((aPv (b.map fun q=>(aHz (p.1++q.1),p.2*q.2)) l).map kvD))))/\ρ'.length=ρ.length/\(aPv (b.map fun q=>(aHz (p.1++q.1),p.2*q.2)) l).length<=l.length+b.length/\∀m,m≠i->m≠i+3->m≠i+4->m≠i+5->ρ'[m]? =ρ[m]?
 | [],l,ρ,_,h,_,_,_,_=>⟨ρ,rfl,h,rfl,Nat.le_refl _,fun _ _ _ _ _=>rfl⟩
 | q::b,l,ρ,hlen,h,hx,hy,hl,hb=>by
  rw[List.length_cons] at hl;obtain⟨b1,b2'⟩:=hb q List.mem_cons_self;have g:gN2 (i+3) (i+4) (pD q) ρ=some ((ρ.set (i+3) (some (.sh (tS q.1)))).set (i+4) (some (.sh (.int q.2)))):=by
   show some (aLk (i+4) (.int q.2) (aLk (i+3) (tS q.1) ρ))=_;rw[aEk (aO5 _),aEk rfl]
  obtain⟨ρ1,hρ1⟩: ∃ρ1,ρ1=(ρ.set (i+3) (some (.sh (tS q.1)))).set (i+4) (some (.sh (.int q.2))):=⟨_,rfl⟩;rw[<-hρ1] at g;have l1:ρ1.length=ρ.length:=by rw[hρ1,List.length_set,List.length_set]
  have o1: ∀m,m≠i+3->m≠i+4->ρ1[m]? =ρ[m]? :=fun m m1 m2=>by rw[hρ1,aJw (Ne.symm m2),aJw (Ne.symm m1)]
  have z1:ρ1[i+3]? =some (some (.sh (tS q.1))):=by rw[hρ1,aJw (by omega),List.getElem?_set_self (by omega)]
  have w1:ρ1[i+4]? =some (some (.sh (.int q.2))):=by rw[hρ1];exact List.getElem?_set_self (by rw[List.length_set];omega)
  have e5:=aA1 (i:=i+5) (bKa ((o1 (i+1) (by omega) (by omega)).trans hx) z1 b1) (aO5 _);obtain⟨ρ2,hρ2⟩: ∃ρ2,ρ2=ρ1.set (i+5) (some (.sh (tS (aHz (p.1++q.1))))):=⟨_,rfl⟩;rw[<-hρ2] at e5;have l2:ρ2.length=ρ.length:=by rw[hρ2,List.length_set,l1]
  have o2: ∀m,m≠i+5->ρ2[m]? =ρ1[m]? :=fun m m1=>by rw[hρ2,aJw (Ne.symm m1)]
  have u2:ρ2[i+5]? =some (some (.sh (tS (aHz (p.1++q.1))))):=by rw[hρ2];exact List.getElem?_set_self (by omega)
  have i2:ρ2[i]? =some (some (.ow (.t (l.map kvD)))):=(o2 i (by omega)).trans ((o1 i (by omega) (by omega)).trans h);have y2:ρ2[i+2]? =some (some (.sh (.int p.2))):=(o2 _ (by omega)).trans ((o1 _ (by omega) (by omega)).trans hy);have w2:ρ2[i+4]? =some (some (.sh (.int q.2))):=(o2 _ (by omega)).trans w1;have e6:=aXz i2 (bDk u2) (aQ3 (aLy y2) (aLy w2) b2') (by omega);have e7:aY3 i ρ1=some (.nx (ρ2.set i (some (.ow (.t ((aPu l (aHz (p.1++q.1),p.2*q.2)).map kvD)))))):=by
   show aAi _ _ ρ1=_;rw[aAg e5];exact e6
  have al:=aTk l (aHz (p.1++q.1),p.2*q.2);obtain⟨ρ',k1,k2,k3,k5,k4⟩:=aNr (i:=i) (p:=p) b (aPu l (aHz (p.1++q.1),p.2*q.2)) (ρ2.set i (some (.ow (.t ((aPu l (aHz (p.1++q.1),p.2*q.2)).map kvD))))) (by rw[List.length_set,l2];exact hlen) (List.getElem?_set_self (by omega))
   (by rw[aJw (by omega)];exact (o2 _ (by omega)).trans ((o1 _ (by omega) (by omega)).trans hx)) (by rw[aJw (by omega)];exact y2) (by omega) (fun q' hq'=>hb q' (List.mem_cons_of_mem _ hq'))
  refine⟨ρ',by rw[List.map_cons,aB4 g e7];exact k1,k2,by rw[k3,List.length_set,l2],?_,fun m m1 m2 m3 m4=> ?_⟩
  ·rw[List.length_cons]
   show (aPv (b.map fun q=>(aHz (p.1++q.1),p.2*q.2)) (aPu l (aHz (p.1++q.1),p.2*q.2))).length<=_;omega
  ·rw[k4 m m1 m2 m3 m4,aJw (Ne.symm m1),o2 m m4,o1 m m2 m3]
theorem bFm (c d l:Sm):aPv (c++d) l=aPv d (aPv c l):=List.foldl_append
theorem aQm {i n:Nat}(hn:n<i){b:Sm}: ∀(a l:Sm) (ρ:Rho),i+5<ρ.length->ρ[i]? =some (some (.ow (.t (l.map kvD))))->ρ[n]? =some (some (.sh (sD b)))->l.length+a.length*b.length<100000->
  (∀p∈a,∀q∈b,p.1.length+q.1.length<64/\aM5 p.2 q.2=true)->
  ∃ρ',loop (gN2 (i+1) (i+2)) (aAi (aF0 n (gN2 (i+3) (i+4)) (aY3 i)) aAp) (a.map pD) ρ=some (.nx ρ')/\ρ'[i]? =some (some (.ow (.t ((aPv (aT8 a b) l).map kvD))))/\(aPv (aT8 a b) l).length<=l.length+a.length*b.length
 | [],l,ρ,_,h,_,_,_=>⟨ρ,rfl,h,by simp[aT8,aPv]⟩
 | p::a,l,ρ,hlen,h,hb,hl,hm=>by
  have em:(a.length+1)*b.length=a.length*b.length+b.length:=Nat.succ_mul _ _;rw[List.length_cons,em] at hl;have g:gN2 (i+1) (i+2) (pD p) ρ=some ((ρ.set (i+1) (some (.sh (tS p.1)))).set (i+2) (some (.sh (.int p.2)))):=by
   show some (aLk (i+2) (.int p.2) (aLk (i+1) (tS p.1) ρ))=_;rw[aEk (aO5 _),aEk rfl]
  obtain⟨ρ1,hρ1⟩: ∃ρ1,ρ1=(ρ.set (i+1) (some (.sh (tS p.1)))).set (i+2) (some (.sh (.int p.2))):=⟨_,rfl⟩;rw[<-hρ1] at g;have l1:ρ1.length=ρ.length:=by rw[hρ1,List.length_set,List.length_set]
  have o1: ∀m,m≠i+1->m≠i+2->ρ1[m]? =ρ[m]? :=fun m m1 m2=>by rw[hρ1,aJw (Ne.symm m2),aJw (Ne.symm m1)]
  have x1:ρ1[i+1]? =some (some (.sh (tS p.1))):=by rw[hρ1,aJw (by omega),List.getElem?_set_self (by omega)]
  have y1:ρ1[i+2]? =some (some (.sh (.int p.2))):=by rw[hρ1];exact List.getElem?_set_self (by rw[List.length_set];omega)
  obtain⟨ρ2,k1,k2,k3,k5,k4⟩:=aNr (i:=i) (p:=p) b l ρ1 (by omega) ((o1 i (by omega) (by omega)).trans h) x1 y1 (by omega) (hm p List.mem_cons_self);have n1:ρ1[n]? =some (some (.sh (sD b))):=(o1 n (by omega) (by omega)).trans hb;have e:aAi (aF0 n (gN2 (i+3) (i+4)) (aY3 i)) aAp ρ1=some (.nx ρ2):=by
   rw[aAg ((aXj n1).trans k1)];rfl
  obtain⟨ρ',j1,j2,j3⟩:=aQm hn a (aPv (b.map fun q=>(aHz (p.1++q.1),p.2*q.2)) l) ρ2 (by omega) k2 ((k4 n (by omega) (by omega) (by omega) (by omega)).trans n1) (by omega) (fun p' hp'=>hm p' (List.mem_cons_of_mem _ hp'));have ep:aT8 (p::a) b=(b.map fun q=>(aHz (p.1++q.1),p.2*q.2))++aT8 a b:=List.flatMap_cons;refine⟨ρ',by rw[List.map_cons,aB4 g e];exact j1,by rw[ep,bFm];exact j2,?_⟩;rw[ep,bFm,List.length_cons,em];omega
theorem aZg {α:Type}{k:Nat}{fe:Rho->M D}{ρ:Rho}{e:α->D}{g:α->D}: ∀(l:List α),(∀x∈l,fe (ρ.set k (some (.sh (e x))))=ok (g x)/\(g x).imm=true)->aMp [k] h1 (fun _=>ok true) fe (l.map e) ρ=ok (l.map g)
 | [],_=>rfl
 | x::l,h=>by
  obtain⟨e1,e2⟩:=h x List.mem_cons_self;have ih:=aZg (g:=g) l fun p hp=>h p (List.mem_cons_of_mem _ hp)
  rw[List.map_cons,List.map_cons];unfold aMp;show (match fe (ρ.set k (some (.sh (e x)))) with
    | some (.ok r)=>if r.imm=true then bnd (aMp [k] h1 (fun _=>ok true) fe (l.map e) ρ) fun rs=>ok (r::rs) else none
    | _=>none)=_
  rw[e1,ih];show (if (g x).imm=true then bnd (ok (l.map g)) fun rs=>ok (g x::rs) else none)=_;rw[if_pos e2];rfl
theorem bMu {α:Type}{m k:Nat}{it:Rho->M (List D)}{fe:Rho->M D}{ρ:Rho}{l:List α}{e:α->D}{g:α->D}(hi:it ρ=ok (l.map e))(hl:l.length<=1000)
  (h: ∀x∈l,fe ((ext m (free ρ)).set k (some (.sh (e x))))=ok (g x)/\(g x).imm=true):cmp m it [k] h1 (fun _=>ok true) fe ρ=ok (.lst (l.map g)):=by
 unfold cmp;rw[hi,aCx,if_pos (by rw[List.length_map];omega),aZg l h,aCx]
structure MarkS (l:Sm):Prop where
 ks:(kys l).Pairwise fun x y=>aNh x y=true
 fa: ∀p∈l,p.1.Pairwise fun x y=>leS x y=true
 po: ∀p∈l,1<=p.2
def aRk (P k:List Str):Prop:= ∃xs:List Str,k=aHz xs/\xs.length<=3/\∀x∈xs,x∈P
def r4:List Nat:=[0,1,2,3]
def L35:List (List Nat):=[[]]++(r4.map fun a=> [a])++(r4.flatMap fun a=>(r4.filter fun b=>decide (a<=b)).map fun b=> [a,b])++(r4.flatMap fun a=>(r4.filter fun b=>decide (a<=b)).flatMap fun b=>(r4.filter fun c=>decide (b<=c)).map fun c=> [a,b,c])
theorem w1: ∀a:Fin 4,(L35.any fun l=>l.isPerm [a.1])=true:=by decide
theorem w2: ∀a b:Fin 4,(L35.any fun l=>l.isPerm [a.1,b.1])=true:=by decide
theorem w3: ∀a b c:Fin 4,(L35.any fun l=>l.isPerm [a.1,b.1,c.1])=true:=by decide
def sWh (t:Rho->M Bool)(F:Rho->Option Out):Nat->Rho->Option Out
 | 0,_=>none
 | n+1,ρ=>lft (t ρ) ρ fun b=>if b=true then (match F ρ with
  | some (.nx ρ')=>sWh t F n ρ'
  | some (.ct ρ')=>sWh t F n ρ'
  | some (.bk ρ')=>some (.nx ρ')
  | some (.rt d)=>some (.rt d)
  | some (.ex c ρ')=>some (.ex c ρ')
  | none=>none) else some (.nx ρ)
def aIt (t:Rho->M Bool)(F:Rho->Option Out):Rho->Option Out:=sWh t F 100000
theorem aNa {t:Rho->M Bool}{F:Rho->Option Out}{ρ:Rho}(h:t ρ=ok false)(n:Nat):sWh t F (n+1) ρ=some (.nx ρ):=by
 unfold sWh;rw[h,aHi,if_neg Bool.false_ne_true]
theorem aNb {t:Rho->M Bool}{F:Rho->Option Out}{ρ ρ':Rho}(h:t ρ=ok true)(hf:F ρ=some (.nx ρ'))(n:Nat):sWh t F (n+1) ρ=sWh t F n ρ':=by
 (conv=>lhs;unfold sWh)
 rw[h,aHi,if_pos rfl,hf]
section
variable {X:Cx}{B:Hp}{c:Expr}{body:List Stmt}{tc:Rho->M Bool}{F:Rho->Option Out}{pos:Pos}
theorem aUd (hp:PassesOwn (model X.prog X.w) X.A X.env X.xe)(hc:PDT X B c tc)(hb:PDB X B body F):PDS X B (.While c body [] pos) (aIt tc F):=by
 refine PS.of (bGm hp hc hb) fun E σ H h=> ?_
 obtain⟨ρ,r,h⟩:=h;refine⟨fun m σ H=> ∃ρ,Rel X.K B ρ σ H/\aM8 X B E (sWh tc F m ρ),⟨100000,ρ,r,h⟩,?_⟩
 rintro m σ H ⟨ρ,r,h⟩
 cases m with
 | zero=>exact False.elim h
 | succ m=>
  unfold sWh at h;refine⟨ρ,r,(aCe r h).imp fun b h1 H1 e1=> ?_⟩;cases b with
  | false=>rw[if_neg Bool.false_ne_true] at h1⊢;exact h1 σ H1 (r.mono e1)
  | true=>
   rw[if_pos rfl] at h1⊢;refine⟨fun σ' H'=> ∃ρ',Rel X.K B ρ' σ' H'/\aM8 X B E (sWh tc F m ρ'),fun σ' H' q=>⟨m,Nat.lt_succ_self m,q⟩,ρ,r.mono e1,?_⟩;cases qf:F ρ with
   | none=>rw[qf] at h1;exact False.elim h1
   | some o=>
    rw[qf] at h1;cases o with
    | nx ρ2=>exact fun σ3 H3 r3=>⟨ρ2,r3,h1⟩
    | ct ρ2=>exact fun σ3 H3 r3=>⟨ρ2,r3,h1⟩
    | bk ρ2=>exact h1
    | rt d=>exact h1
    | ex c ρ2=>exact h1
end
section
variable {K:PySem.W.Frag}{H:Hp}
theorem aL1: ∀{kvs:List (Key×D)} {vs:List (Key×V)},IsK K H kvs vs->kvs.length=vs.length
 | _,_,.nil=>rfl
 | _,_,.cons _ r=>by rw[List.length_cons,List.length_cons,aL1 r]
theorem aSz {k:Key}: ∀{kvs:List (Key×D)} {vs:List (Key×V)},IsK K H kvs vs->(aMt kvs k=none/\aKl vs k=none)\/∃d v,aMt kvs k=some d/\aKl vs k=some v/\Is K H d v
 | _,_,.nil=> .inl ⟨rfl,rfl⟩
 | _,_,.cons (x:=x) (d:=d) (v:=v) i r=>by
  by_cases e:x=k
  ·exact .inr ⟨d,v,by simp[aMt,e],by simp[aKl,e],i⟩
  ·have h1: ∀ds,aMt ((x,d)::ds) k=aMt ds k:=fun ds=>by simp[aMt,List.find?_cons,e]
   have h2: ∀ds,aKl ((x,v)::ds) k=aKl ds k:=fun ds=>by simp[aKl,List.find?_cons,e]
   rw[h1,h2];exact aSz r
theorem bDz {k:Key}: ∀{kvs:List (Key×D)} {vs:List (Key×V)},IsK K H kvs vs->(kvs.any fun kv=>decide (kv.1=k))=(vs.any fun kv=>decide (kv.1=k))
 | _,_,.nil=>rfl
 | _,_,.cons _ r=>by rw[List.any_cons,List.any_cons,bDz r]
theorem aXe {k:Key}{d:D}{v:V}(i:Is K H d v): ∀{kvs:List (Key×D)} {vs:List (Key×V)},IsK K H kvs vs->IsK K H (kvs.map fun kv=>if kv.1=k then (kv.1,d) else kv) (vs.map fun kv=>if kv.1=k then (kv.1,v) else kv)
 | _,_,.nil=> .nil
 | _,_,.cons (x:=x) i' r=>by
  rw[List.map_cons,List.map_cons];by_cases e:x=k
  ·rw[if_pos e,if_pos e];exact .cons i (aXe i r)
  ·rw[if_neg e,if_neg e];exact .cons i' (aXe i r)
theorem aY0 {k:Key}{d:D}{v:V}(i:Is K H d v): ∀{kvs:List (Key×D)} {vs:List (Key×V)},IsK K H kvs vs->IsK K H (kvs++ [(k,d)]) (vs++ [(k,v)])
 | _,_,.nil=> .cons i .nil
 | _,_,.cons i' r=> .cons i' (aY0 i r)
theorem bL8 {k:Key}{d:D}{v:V}(i:Is K H d v){kvs:List (Key×D)}{vs:List (Key×V)}(r:IsK K H kvs vs):IsK K H (aR4 kvs k d) (putK vs k v):=by
 unfold aR4 putK;rw[bDz (k:=k) r];split
 ·exact aXe i r
 ·exact aY0 i r
def aTa (kvs:List (Key×D))(k:Key):List (Key×D):=kvs.filter fun kv=> !decide (kv.1=k)
end
section
variable {X:Cx}{B:Hp}{e a b:Expr}{fa fb fk:Rho->M D}{pos pos' p pos2 cpos apos spos:Pos}{x:Str}{i j:Nat}
def aU4:D->D->M D:=fun d k=>match d,keyOf k with
 | .dk kvs,some key=>(match aMt kvs key with | some v=>ok v | none=>none)
 | _,_=>none
theorem aVx.ofK {K:PySem.W.Frag}{H:Hp}{kvs:List (Key×D)}{v:V}{kd:D}{u:V}{key:Key}(i:Is K H (.dk kvs) v)(ik:Is K H kd u)(hk:keyOf kd=some key): ∃a vs,v= .ref a/\H a=some (.dK vs)/\IsK K H kvs vs/\u=kV key/\aVx H a u (aKl vs key):=by
 cases i with
 | dk hh rr=>
  have e:=aSv ik hk;subst e;exact⟨_,_,rfl,hh,rr,rfl,aVx.k hh⟩
theorem aOb {k:Nat}(hr:aDm k X.A)(ha:PD X B a fa)(hb:PD X B b fb)(hs:bTe b:=by intro _ _;rfl):PD X B (.Subscript a b pos) (b2 aU4 fa fb):=by
 refine PE.of (bKx (bD5 hr) ha hb hs) fun σ H Q h=> ?_
 obtain⟨ρ,r1,h⟩:=h;refine⟨ρ,r1,(Res.bind h).imp fun dx h1 v H1 e1 i1=>⟨ρ,r1.mono e1,(Res.bind h1).mono e1 fun dy h2 u H2 e2 i2=> ?_⟩⟩;unfold aU4 at h2;split at h2
 ·rename_i kvs key hk
  split at h2
  ·rename_i d hd
   obtain⟨a,vs,rfl,g1,g2,g3,g4⟩:=aVx.ofK (i1.mono e2) i2 hk;rcases aSz (k:=key) g2 with⟨z1,z2⟩ |⟨d',v',z1,z2,i'⟩
   ·rw[z1] at hd;cases hd
   ·rw[z1] at hd
    cases hd;rw[z2] at g4;exact⟨a,v',rfl,g4,h2 v' H2 (e1.trans e2) i'⟩
  ·exact False.elim h2
 ·exact False.elim h2
def bJk (neg:Bool):D->D->M D:=fun k d=>match d,keyOf k with
 | .dk kvs,some key=>ok (.bl (if neg then !(aMt kvs key).isSome else (aMt kvs key).isSome))
 | _,_=>none
def bTr (neg:Bool):R2:=fun x y H Q=> ∃a o,y= .ref a/\aVx H a x o/\Q (.bl (if neg then !o.isSome else o.isSome)) H
theorem bEl (neg:Bool):aJt (bJk neg):=by
 intro x y c h;unfold bJk at h;split at h<;>cases h
theorem bR3 (neg:Bool):aTo X (bTr neg) (bJk neg):=by
 intro H x y dx dy d Q ix iy e q;unfold bJk at e;split at e
 ·rename_i kvs key hk
  cases e;obtain⟨a,vs,rfl,g1,g2,g3,g4⟩:=aVx.ofK iy ix hk;have hs:(aMt kvs key).isSome=(aKl vs key).isSome:=by
   rcases aSz (k:=key) g2 with⟨z1,z2⟩ |⟨d',v',z1,z2,i'⟩<;>rw[z1,z2]<;>rfl
  refine⟨a,_,rfl,g4,?_⟩;rw[<-hs];exact q _ H (Same.refl H) (.bl _)
 ·cases e
theorem bC0 {k:Nat}(hr:aDm k X.A):OpR X (compareOp .NotIn) (bTr true):=by
 intro pins s σ H x y v u Q I rx ry h;obtain⟨a,o,rfl,g,q⟩:=h;cases ry;exact bMq (bD5 hr) I g rx fun s' I'=>aBy I' q rfl
theorem bAd {k:Nat}(hr:aDm k X.A)(ha:PD X B a fa)(hb:PD X B b fb)(hm:behindInMarks .NotIn b=false:=by rfl):PDT X B (.Compare a [.NotIn] [b] pos) (aA2 (b2 (bJk true) fa fb)):=aKa (bC0 hr) (bR3 true) (bEl true) ha hb hm
def bRa:D->M D
 | .dk kvs=>ok (.int kvs.length)
 | _=>none
theorem bK5 (hg:Gl X "len")(hm:X.mg "len"=none)(ha:PD X B e fa)(he:starEach [e] X.env=[(false,eval e X.env)]:=by exact aIl rfl):PD X B (.Call (.Name "len" p) [e] [] pos) (f1 bRa fa):=by
 refine PE.of (aEu bE1 hg hm PySem.boot_len (aBq ha aEi he) (he:=by rw[he];rfl) (hpl:=by rfl)) fun σ H Q h=> ?_
 obtain⟨ρ,r1,h⟩:=h;refine⟨ρ,r1,(Res.bind h).imp fun d h1 v H1 e1 i1=> ?_⟩;cases i1 with
 | dk hh r=>exact⟨_,_,rfl,hh,by rw[<-aL1 r];exact h1 _ H1 e1 (.int _)⟩
 | _=>exact False.elim h1
def aT4 (i:Nat):Rho->Option Out:=fun ρ=>some (.nx (ρ.set i (some (.ow (.k [])))))
theorem aR8 (hN:X.N.Nodup)(hi:X.N[i]? =some x)(hx:Loc X.env.scope x)(hs:swapsWith (.Dict [] [] p) (some (.Name x pos')) pos.line X.env=pure false:=by rfl)(hf:X.fn x=true\/X.env.scope.names.lookup x=some .local:=by first | exact .inl rfl | exact .inr rfl | assumption):
  PDS X B (.Assign [.Name x pos'] (.Dict [] [] p) pos) (aT4 i):=by
 refine PS.of (aQs hN hi hx bGr hs hf) fun E σ H h=> ?_
 obtain⟨ρ,r,h⟩:=h;intro l hl;exact h _ _ (r.aYl (o:= .k []) hl (fun _ _=>IsK.nil) (fun _ _=>IsK.nil))
theorem Rel.bQ8 {K:PySem.W.Frag}{B H:Hp}{ρ:Rho}{σ:St}{kvs:List (Key×D)}(r:Rel K B ρ σ H)(qi:ρ[i]? =some (some (.ow (.k kvs)))):
  ∃(O:Nat->Option Addr) (a:Addr) (vs:List (Key×V)),(∀i j a,O i=some a->O j=some a->i=j)/\aRh H O/\Same B (Off H O)/\ρ.length=σ.length/\(∀i sv,ρ[i]? =some (some sv)->Slot K H O σ i sv)/\
   O i=some a/\σ[i]? =some (some (.ref a))/\H a=some (.dK vs)/\IsK K (Off H O) kvs vs:=by
 obtain⟨O,h1,ho,h2,hl,h3⟩:=r;obtain⟨a,w,z1,z2,z3,z4⟩:=(show Slot K H O σ i (.ow (.k kvs)) from h3 i _ qi);cases w<;>first | exact False.elim z4 | skip
 exact⟨O,a,_,h1,ho,h2,hl,h3,z1,z2,z3,z4⟩
def aIu (i:Nat)(fk f:Rho->M D):Rho->Option Out:=fun ρ=>match ρ[i]? with
 | some (some (.ow (.k kvs)))=>lft (f ρ) ρ fun d=>lft (fk ρ) ρ fun kd=>(match keyOf kd with
  | some key=>if d.imm=true/\kvs.length<100000 then some (.nx (ρ.set i (some (.ow (.k (aR4 kvs key d)))))) else none
  | none=>none)
 | _=>none
theorem aJf {k:Nat}(hr:aDm k X.A)(i:Nat){x:Str}(hk:PD X B b fk)(he:PD X B e fa)(hN:X.N[i]? =some x:=by rfl)(hv:Vis X.env.scope x:=by first | exact Or.inl rfl | exact Or.inr (Or.inl rfl) | exact Or.inr (Or.inr rfl))
  (hd:(x==("__debug__":Str))=false:=by decide) (hcd:(x==("__classdict__":Str))=false:=by decide) (hs:swapsWith e (some (.Subscript (.Name x p) b pos')) pos.line X.env=pure false:=by rfl):
  PDS X B (.Assign [.Subscript (.Name x p) b pos'] e pos) (aIu i fk fa):=by
 refine PS.of (bCg (bD5 hr) (aGd hN hv hd hcd) hk he hs) fun E σ H h=> ?_
 obtain⟨ρ,r,h⟩:=h;unfold aIu at h;split at h
 ·rename_i kvs qi
  refine⟨ρ,r,(aCe r h).imp fun d h1 v H1 s1 i1=> ?_⟩;obtain⟨O,a,vs,g1,go,g2,gl,g3,z1,z2,z3,z4⟩:=(r.mono s1).bQ8 qi;refine⟨.ref a,z2,ρ,r.mono s1,Res.mono (Same.refl _) (aCe (r.mono s1) h1) fun kd h2 u H2 s2 i2=> ?_⟩;split at h2
  ·rename_i key hkey
   split at h2
   ·rename_i hh
    clear g1 go g2 gl g3 z1 z3 z4;obtain⟨O2,a',vs2,g1,go,g2,gl,g3,z1,z2',z3,z4⟩:=((r.mono s1).mono s2).bQ8 qi;have ea:a=a':=by rw[z2] at z2';cases z2';rfl
    rw[ea];have eu:=aSv i2 hkey;rw[eu];refine⟨a',_,rfl,bJ1.k z3 (by rw[<-aL1 z4];exact Nat.lt_trans hh.2 (by decide)),?_⟩;exact h2 _ _ (Rel.bCu O2 g1 go g2 gl g3 qi z1 z2' (o':= .k (aR4 kvs key d)) (w':= .dK (putK vs2 key v)) (bL8 (aKb go hh.1 (i1.mono s2)) z4))
   ·exact False.elim h2
  ·exact False.elim h2
 ·exact False.elim h
end
def bLo:List D->Option (List Int)
 | []=>some []
 | .int x::ds=>match bLo ds with | some xs=>some (x::xs) | none=>none
 | _::_=>none
theorem bHc (xs:List Int):bLo (xs.map D.int)=some xs:=by
 induction xs with
 | nil=>rfl
 | cons x r ih=>rw[List.map_cons];unfold bLo;rw[ih]
theorem bLn (ds:List D){xs:List Int}(h:bLo ds=some xs):ds=xs.map D.int:=by
 induction ds generalizing xs with
 | nil=>cases h;rfl
 | cons d ds ih=>
  unfold bLo at h;split at h
  ·cases‹_::_=[]›
  ·rename_i e
   cases e;split at h
   ·rename_i ys hy
    cases h;rw[ih hy];rfl
   ·cases h
  ·cases h
def ownAt (ρ:Rho)(j:Nat):Bool:=match ρ[j]? with
 | some (some (.own _))=>true
 | some (some (.oin _ _ _ _))=>true
 | some (some (.ow _))=>true
 | _=>false
theorem Rel.tight {K:PySem.W.Frag}{H₀ H:Hp}{ρ:Rho}{σ:St}(r:Rel K H₀ ρ σ H): ∃O:Nat->Option Addr,(∀i j a,O i=some a->O j=some a->i=j)/\aRh H O/\Same H₀ (Off H O)/\ρ.length=σ.length/\(∀i sv,ρ[i]? =some (some sv)->Slot K H O σ i sv)/\∀j a,O j=some a->ownAt ρ j=true:=by
 obtain⟨O,h1,ho,h2,hl,h3⟩:=r;obtain⟨O',hO'⟩: ∃O':Nat->Option Addr,O'=fun j=>if ownAt ρ j=true then O j else none:=⟨_,rfl⟩
 have oj: ∀j a,O' j=some a->ownAt ρ j=true/\O j=some a:=fun j a q=>by
  rw[hO'] at q
  dsimp only at q
  by_cases hj:ownAt ρ j=true
  ·rw[if_pos hj] at q;exact⟨hj,q⟩
  ·rw[if_neg hj] at q;cases q
 have sm:Same (Off H O) (Off H O'):=Off.less fun j a q=>⟨j,(oj j a q).2⟩
 have oi: ∀j,ownAt ρ j=true->O' j=O j:=fun j hj=>by rw[hO'];exact if_pos hj
 refine⟨O',fun i j a p q=>h1 i j a (oj i a p).2 (oj j a q).2,fun i a q=>ho i a (oj i a q).2,h2.trans sm,hl,fun i sv q=> ?_,fun j a q=>(oj j a q).1⟩;have z:=h3 i sv q;cases sv with
 | sh d=>obtain⟨v,e1,e2⟩:=z;exact⟨v,e1,e2.mono sm⟩
 | own ds=>obtain⟨a,vs,e1,e2,e3,e4⟩:=z;exact⟨a,vs,(oi i (by unfold ownAt;rw[q])).trans e1,e2,e3,e4.mono sm⟩
 | oin a C dx fs=>obtain⟨e1,e2,e3,vs,e4,e5⟩:=z;exact⟨(oi i (by unfold ownAt;rw[q])).trans e1,e2,e3,vs,e4,e5.mono sm⟩
 | ow o=>obtain⟨a,w,e1,e2,e3,e4⟩:=z;exact⟨a,w,(oi i (by unfold ownAt;rw[q])).trans e1,e2,e3,e4.mono sm⟩
 | tk ks=>obtain⟨a,e1,e2⟩:=z;exact⟨a,e1,sm _ _ e2⟩
def bVc:List D->List D->Bool
 | .int _::_,.lst _::_=>true
 | _,_=>false
def apL (ds:List D):Option SV->Bool
 | some (.own es)=>decide (ds.length≠es.length) || bVc ds es
 | some (.oin _ _ _ _)=>false
 | _=>true
def ap:D->Rho->Bool
 | .lst ds,ρ=>aIm ds&&ρ.all (apL ds)
 | _,_=>false
theorem Rel.apart {K:PySem.W.Frag}{H₀ H:Hp}{ρ:Rho}{σ:St}{d:D}{v:V}(r:Rel K H₀ ρ σ H)(iv:Is K H d v)(h:ap d ρ=true):
  ∃O:Nat->Option Addr,(∀i j a,O i=some a->O j=some a->i=j)/\aRh H O/\Same H₀ (Off H O)/\ρ.length=σ.length/\(∀i sv,ρ[i]? =some (some sv)->Slot K H O σ i sv)/\Is K (Off H O) d v:=by
 obtain⟨O,h1,ho,h2,hl,h3,h4⟩:=r.tight;refine⟨O,h1,ho,h2,hl,h3,?_⟩;cases iv with
 | lst hh rr=>
  rename_i a ds vs;rw[ap,Bool.and_eq_true,List.all_eq_true] at h;have no: ∀u,H a=some u->((∃ws,u= .lst ws)\/∃ob ws,u= .frz ob ws)->(∀ws,u= .lst ws->ws=vs)->∀j,O j≠some a:=fun u hu hm hw j q=>by
   have hj:=h4 j a q;unfold ownAt at hj;split at hj
   ·rename_i es e
    obtain⟨b,ws,z1,z2,z3,z4⟩:=h3 j _ e;rw[q] at z1;cases z1;rw[z3] at hu;cases hu;have:=hw _ rfl;subst this;have ha:=h.2 _ (List.mem_of_getElem? e);rw[apL,Bool.or_eq_true] at ha;rcases ha with ha | ha
    ·have:=of_decide_eq_true ha
     rw[rr.length,z4.length] at this;exact this rfl
    ·cases rr with
     | nil=>cases ha
     | cons i1 _=>
      cases z4 with
      | cons i2 _=>
       cases i1<;>first |(cases ha;done) | skip
       cases i2<;>cases ha
   ·rename_i e
    have ha:=h.2 _ (List.mem_of_getElem? e);cases ha
   ·rename_i o e
    obtain⟨b,w,z1,z2,z3,z4⟩:=h3 j _ e;rw[q] at z1;cases z1;rw[z3] at hu;cases hu;rcases hm with⟨ws,e1⟩ |⟨ob,ws,e1⟩
    ·subst e1;cases o<;>exact z4
    ·subst e1;cases o<;>exact z4
   ·cases hj
  refine .lst ?_ (aJi ho h.1 rr);rcases hh with (hh |⟨ob,hh⟩) | hh
  ·exact .inl (.inl (Off.of hh (no _ hh (.inl ⟨_,rfl⟩) fun ws e=>by cases e;rfl)))
  ·exact .inl (.inr ⟨ob,Off.of hh (no _ hh (.inr ⟨_,_,rfl⟩) fun ws e=>by cases e)⟩)
  ·exact .inr hh
 | _=>cases h
def bB2 (f:Rho->M D)(G:D->Rho->Option Rho)(F:Rho->Option Out):Rho->Option Out:=fun ρ=>lft (f ρ) ρ fun d=>match itD d with
 | some (.ok ds)=>if ap d ρ=true then loop G F ds ρ else none
 | _=>none
section
variable {X:Cx}{B:Hp}{e:Expr}{fa:Rho->M D}{pos pos':Pos}{i:Nat}{x:Str}
variable {tg iter elt:Expr}{G:D->Rho->Option Rho}{F:Rho->Option Out}{body:List Stmt}
theorem bGw (hp:PassesOwn (model X.prog X.w) X.A X.env X.xe)(hc:X.calm=true)(he:PD X B iter fa)(hg: ∀B,PDG X B tg G)(hb: ∀B,PDB X B body F)(hs: ∀y,foldedSetIterable iter X.env y=pure y:=by intro _;rfl):PDS X B (.For tg iter body [] pos) (bB2 fa G F):=by
 refine aNe hp hc (bQ7 he) hg hb (fun E σ H R h k=> ?_) hs;obtain⟨ρ,r,h⟩:=h;refine⟨ρ,r,(aCe r h).imp fun d h1 v H1 e1 i1=> ?_⟩;split at h1
 ·rename_i ds hds
  split at h1
  ·rename_i hq
   obtain⟨O,o1,o2,o3,o4,o5,o6⟩:=(r.mono e1).apart i1 hq;obtain⟨a,vs,rfl,il,hz⟩:=aO1 o6 hds;have k1:Rel X.K (Off H1 O) ρ σ H1:=⟨O,o1,o2,Same.refl _,o4,o5⟩;rcases hz with k4 | k4
   ·exact .inl ⟨a,rfl,⟨_,k1.kept.seq k4⟩,k _ H1 ds _ ⟨_,aNi k4 il,k1,o3⟩ h1⟩
   ·exact .inr ⟨a,rfl,⟨_,SqT.mono k1.kept k4⟩,k _ H1 ds _ ⟨_,aSw k4 il,k1,o3⟩ h1⟩
  ·exact False.elim h1
 ·exact False.elim h1
variable {scope:Scope}{cl:List (Str×Addr)}{N':List Str}{m:Nat}{ifs:List Expr}{ks:List Nat}{Gc:D->Option (List D)}{ft:Rho->M Bool}{fe:Rho->M D}{it:Rho->M (List D)}
end
def ItS (lo:Int)(n:Nat):It:=⟨fun i _=>i<n,fun i H x H'=>H'=H/\x= .int (lo+i*2),fun i _=>n<=i⟩
theorem aV6 {P:Program}{w:World}{K:PySem.W.Frag}{tg:Expr}(it:Addr)(lo:Int)(n:Nat):Turn P w K tg (ItS lo n) [it] it (fun i h=>IsRangeIter h it (lo+(i:Nat)*2) ((n:Int)-(i:Nat)) 2) where
 mem:=by simp
 obj:=fun i h st b hb=>by
  have e:b=it:=by simpa using hb
  subst e;exact⟨_,st,fun v z=>by
   have z':Data.fields _=Data.cell v:=z;cases z'⟩
 keep:=fun i h h' st k=>k it (by simp) _ st
 item:=by
  intro X hP hw hK hc i pins s σ H E I hf st hg;subst hP hw hK;obtain⟨f0,f1,f2,f3,f4,f5⟩:=hf it (by simp);have W:=Walks.range (prog:=X.prog) (w:=X.w) (I.ok.hd hc) it lo 2 n;refine W.item i s _ _ hg st fun v h' tk hv st' kk=> ?_
  obtain⟨t,rfl⟩:=hv;have I1:Inv X pins σ H {s with heap:=h',toks:=tk}:=I.turned (fun b o hb e=>kk b o (by simpa using hb) e) f0 f1 f3 f4 f5;exact⟨_,rfl,bHw (s:={s with heap:=h',toks:=tk}) (n:="range_iterator") st' rfl rfl (by decide) ⟨.int (lo+i*2),H,I1,⟨t,rfl⟩,⟨rfl,rfl⟩,st',fun b hb=>(hf b hb).1⟩⟩
 done:=by
  intro X hP hw hK hc i pins s σ H E I hf st hg;subst hP hw hK;obtain⟨f0,f1,f2,f3,f4,f5⟩:=hf it (by simp);exact wpAny_pyNext_range_end (I.ok.hd hc) st (by have:n<=i:=hg;omega) fun h' eb=>⟨rfl,I.turned (t':=s.toks) (fun b o hb e=>eb b o hb e) f0 f1 f3 f4 f5⟩
 self:=fun _ _ _ _ _ st h=>wpAny_pyIter_rangeiter st h
def aXl (lo:Int)(n:Nat):List D:=(List.range n).map fun (j:Nat)=>D.int (lo+(j:Int)*2)
theorem bDr {K:PySem.W.Frag}(lo:Int)(n:Nat)(B:Hp):ItD K (ItS lo n) (aXl lo n) B where
 go:=fun j H e q=>by unfold aXl at q;rw[List.length_map,List.length_range] at q;exact q
 yld:=fun j H x H' e y q=>by
  unfold aXl at q;rw[List.length_map,List.length_range] at q;obtain⟨y1,y2⟩:=y;subst y2;subst y1;refine⟨Same.refl _,.int (lo+j*2),?_,.int _⟩;unfold aXl;rw[List.getElem?_map,List.getElem?_range q];rfl
 stop:=fun j H e q=>by unfold aXl at q;rw[List.length_map,List.length_range] at q;exact q
theorem aRx (a b:Int):Builtin.Range.rangeSize a b 2=if a<b then (b-a-1)/2+1 else 0:=by
 unfold Builtin.Range.rangeSize;simp only[show (2:Int)>0 by decide,if_true]
theorem bBp {a b:Int}(ha:0<=a)(ha':a<2^61)(hb: -(2^61)<=b)(hb':b<2^61):Builtin.Range.small a b 2=true:=by
 unfold Builtin.Range.small;rw[aRx];simp only[Builtin.Range.rangeFitsLong,Bool.and_eq_true,Bool.or_eq_true,decide_eq_true_eq,beq_iff_eq,show (2:Int)>0 by decide,if_true];split<;>omega
section
variable {X:Cx}{B:Hp}{tg:Expr}{a b c e:Expr}{fa fb fc:Rho->M D}{pos pos' p:Pos}
theorem bCc {pins:List (Addr×Obj)}{σ:St}{H:Hp}{s:Shared}{R:It->Hp->Prop}{E:Value->Shared->Prop}{lo hi:Int}{t u v:Tok}{tk:Nat}(I:Inv X pins σ H s)(h1:0<=lo)(h2:lo<2^61)(h3: -(2^61)<=hi)(h4:hi<2^61)
  (q:R (ItS lo (Builtin.Range.rangeSize lo hi 2).toNat) H):wpAny (model X.prog X.w) X.A (pyIter (.ref s.heap.objs.size)) (PIE X pins σ tg R) E {s with heap:=s.heap.push {cls:= .type "range",data:= .fields #[.int lo t,.int hi u,.int 2 v]},toks:=tk}:=by
 refine wpAny_pyIter_range (IsRange.new ..) (bBp h1 h2 h3 h4) ?_;have I1:Inv X pins σ H {s with heap:=s.heap.push {cls:= .type "range",data:= .fields #[.int lo t,.int hi u,.int 2 v]},toks:=tk}:=I.kept fun b o e=>Heap.get?_push_of_some _ e
 refine⟨(s.heap.push {cls:= .type "range",data:= .fields #[.int lo t,.int hi u,.int 2 v]}).objs.size,[(s.heap.push {cls:= .type "range",data:= .fields #[.int lo t,.int hi u,.int 2 v]}).objs.size],_,_,H,rfl,
  I1.kept (t':=tk) fun b o e=>Heap.get?_push_of_some _ e,aV6 _ lo (Builtin.Range.rangeSize lo hi 2).toNat,?_,fun b hb=> ?_,q⟩
 ·have e1:lo+((0:Nat):Int)*2=lo:=by simp
  have e2:(((Builtin.Range.rangeSize lo hi 2).toNat:Nat):Int)-((0:Nat):Int)=Builtin.Range.rangeSize lo hi 2:=by rw[aRx];split<;>omega
  show IsRangeIter _ _ (lo+((0:Nat):Int)*2) ((((Builtin.Range.rangeSize lo hi 2).toNat:Nat):Int)-((0:Nat):Int)) 2;rw[e1,e2];exact Heap.get?_push_size _ rfl
 ·have e:b=(s.heap.push {cls:= .type "range",data:= .fields #[.int lo t,.int hi u,.int 2 v]}).objs.size:=by simpa using hb
  subst e;exact I1.bNc (Nat.le_refl _) (I1.hok.fresh (Nat.le_refl _))
def bL4 (fa fb fc:Rho->M D):Rho->M (List D):=fun ρ=>bnd (aAe fa (aAe fb (aAe fc aA3)) ρ) fun ds=>match ds with
 | [.int i,.int j,.int k]=>if k=2/\0<=i/\i<2^61/\ -(2^61)<=j/\j<2^61 then ok (aXl i (if i<j then (j-i-1)/2+1 else 0).toNat) else none
 | _=>none
theorem bOp (hg:Gl X "range")(hm:X.mg "range"=none)(ha:PD X B a fa)(hb:PD X B b fb)(hc:PD X B c fc)(hs:aD4 a=true:=by rfl)(hs2:aD4 b=true:=by rfl)(hs3:aD4 c=true:=by rfl):PIt X B tg (.Call (.Name "range" p) [a,b,c] [] pos) (bL4 fa fb fc):=by
 intro pins s σ H R ρ I r q;have st1:starEach [a,b,c] X.env=[(false,eval a X.env),(false,eval b X.env),(false,eval c X.env)]:=by rw[aA5 hs,aA5 hs2,aIl hs3]
 refine Call_ (aQ4 I hg hm boot_range (PyProof.Rows.callWith_type1 (thn (aAc ha (aAc hb (aAc hc aAk (aA5 hs3)) (aA5 hs2)) (aA5 hs) pos pins s σ H (fun vs H1=> ∃i j:Int,vs=[.int i,.int j,.int 2]/\(0<=i/\i<2^61/\ -(2^61)<=j/\j<2^61)/\R (ItS i (Builtin.Range.rangeSize i j 2).toNat) H1) I ⟨ρ,r,(Res.bind q).imp fun ds q1 vs H1 e1 i1=> ?_⟩) fun us s1 ⟨vs,H1,I1,r1,q1⟩=> ?_) (by rw[st1];rw[aA5 hs2,aIl hs3]) (by rw[aA5 hs2,aIl hs3];rfl)))
 ·split at q1
  ·rename_i i j k
   split at q1
   ·rename_i hk
    obtain⟨rfl,h1,h2,h3,h4⟩:=hk;cases i1 with
    | cons x1 r1=>
     cases r1 with
     | cons x2 r2=>
      cases r2 with
      | cons x3 r3=>
       cases r3;cases x1;cases x2;cases x3;refine⟨i,j,rfl,⟨h1,h2,h3,h4⟩,?_⟩;rw[aRx];exact q1 _ _ e1 (bDr i _ H1)
   ·exact False.elim q1
  ·exact False.elim q1
 ·obtain⟨i,j,e,⟨q2,q3,q4,q5⟩,q⟩:=q1
  subst e;cases r1 with
  | cons x1 r1=>
   cases r1 with
   | cons x2 r2=>
    cases r2 with
    | cons x3 r3=>
     cases r3;obtain⟨t,rfl⟩:=x1;obtain⟨t',rfl⟩:=x2;obtain⟨t2,rfl⟩:=x3;exact call_range_3 (by decide) (bCc I1 q2 q3 q4 q5 q) (Or.inl (PyProof.noPylong_small (by decide)))
theorem bPe {ns:List Int}{its:List Value}(r:Vals (ns.map V.int) its){i:Nat}{v:Value}(h:its.toArray[i]? =some v): ∃t,v= .int (ns.getD i 0) t:=by
 rw[List.getElem?_toArray] at h
 induction ns generalizing its i with
 | nil=>cases r;simp at h
 | cons n ns ih=>
  cases r with
  | cons r1 r2=>
   cases i with
   | zero=>simp at h;subst h;obtain⟨t,rfl⟩:=r1;exact⟨t,rfl⟩
   | succ i=>exact ih r2 (by simpa using h)
theorem bAa (ns:List Int):PySem.preSum (fun i=>ns.getD i 0) ns.length=ns.sum:=by
 have g: ∀(ns ms:List Int),PySem.preSum (fun i=>(ms++ns).getD i 0) (ms.length+ns.length)=PySem.preSum (fun i=>(ms++ns).getD i 0) ms.length+ns.sum:=by
  intro ns
  induction ns with
  | nil=>intro ms;simp
  | cons n ns ih=>
   intro ms;have:=ih (ms++ [n]);rw[List.append_assoc,List.length_append,List.length_singleton] at this;rw[List.length_cons,show ms.length+(ns.length+1)=ms.length+1+ns.length by omega];show PySem.preSum (fun i=>(ms++([n]++ns)).getD i 0) (ms.length+1+ns.length)=_;rw[this,PySem.preSum];have e:(ms++([n]++ns)).getD ms.length 0=n:=by rw[List.getD_eq_getElem?_getD,List.getElem?_append_right (Nat.le_refl _),Nat.sub_self];rfl
   rw[e,List.sum_cons];show _+n+ns.sum=PySem.preSum (fun i=>(ms++n::ns).getD i 0) ms.length+_;rw[Int.add_assoc];rfl
 have:=g ns [];rw[List.nil_append,List.length_nil,Nat.zero_add] at this;rw[this];show (0:Int)+ns.sum=_;rw[Int.zero_add]
theorem bEy (hc:X.calm=true):aJe X (.builtin "sum") (fun xs H Q=> ∃(p:Addr) (ns:List Int),xs=[.ref p]/\SqL X.K H p (ns.map V.int)/\Q (.int ns.sum) H):=by
 intro pins s σ H xs us Q I r h;obtain⟨p,ns,rfl,hq,q⟩:=h;obtain⟨u,rfl,rx⟩:=vals1 r;cases rx;obtain⟨its,r',pl,hz⟩:=I.list hq;have hlen:its.toArray.size=ns.length:=by rw[List.size_toArray,<-r'.length,List.length_map]
 have hlt:p<s.heap.objs.size:=by obtain⟨o,_,e,_⟩:=pl;exact Heap.lt_size e
 refine call_sum_walkAnyS (wpAny_pyIter_list pl.isList ?_);have W:=(Walks.list (prog:=X.prog) (w:=X.w) (A:=X.A.in1) (by simpa using I.ok.hd hc) s.heap.objs.size p (Nat.ne_of_lt hlt) its.toArray).toS;refine⟨s.heap.objs.size,_,_,_,_,_,_,fun i=>ns.getD i 0,rfl,W,⟨⟨_,Heap.get?_push_size _ rfl,rfl,rfl⟩,pl.isList.push _⟩,fun b hb=> ?_,fun i v hP=>bPe r' hP,fun s' t' mv=> ?_⟩
 ·rw[Heap.size_push]
  simp only[List.mem_cons,List.not_mem_nil,or_false] at hb;rcases hb with rfl | rfl
  ·exact Nat.lt_succ_self _
  ·exact Nat.lt_succ_of_lt hlt
 ·rw[hlen,bAa]
  have es:s'={s with heap:=s'.heap,toks:=s'.toks}:=by
   have g1:=mv.gens;have g2:=mv.drawn;have g3:=mv.os;cases s';cases s;simp only at g1 g2 g3⊢;subst g1 g2 g3;rfl
  rw[es];exact⟨.int _,H,I.kept (t':=s'.toks) fun b ob e=>mv.heap b ob (by simp;exact Nat.ne_of_lt (Heap.lt_size e)) (Heap.get?_push_of_some _ e),⟨t',rfl⟩,q⟩
theorem aYx {K:PySem.W.Frag}{H:Hp}: ∀{ns:List Int} {vs:List V},IsL K H (ns.map D.int) vs->vs=ns.map V.int
 | [],_,.nil=>rfl
 | n::ns,_,.cons h r=>by cases h;rw[aYx r];rfl
theorem boot_sum2:bootBuiltins "sum"=some (.builtin "sum"):=by decide+kernel
def bJ8:D->M D
 | .lst ds=>match bLo ds with | some ns=>ok (.int ns.sum) | none=>none
 | _=>none
theorem bI0 (hc:X.calm=true)(hg:Gl X "sum")(hm:X.mg "sum"=none)(ha:PD X B e fa)(hs:aD4 e=true:=by rfl):PD X B (.Call (.Name "sum" p) [e] [] pos) (f1 bJ8 fa):=by
 refine PE.of (aEu (bEy hc) hg hm boot_sum2 (aBq ha aEi (aA5 hs)) (he:=aA5 hs) (hpl:=by rfl)) fun σ H Q h=> ?_
 obtain⟨ρ,r1,h⟩:=h;refine⟨ρ,r1,(Res.bind h).imp fun d q1 v H1 e1 i1=> ?_⟩;cases i1 with
 | lst hh rr=>
  dsimp only[bJ8] at q1
  split at q1
  ·rename_i ns hb
   have ed:=bLn _ hb;subst ed;exact⟨_,ns,rfl,by rw[<-aYx rr];exact hh,q1 _ H1 e1 (.int _)⟩
  ·exact False.elim q1
 | _=>exact False.elim q1
end
theorem Rel.bO5 {K:PySem.W.Frag}{H₀ H H':Hp}{ρ:Rho}{σ:St}{i:Nat}{a:Addr}{ds:List D}{vs:List V}(r:Rel K H₀ ρ σ H)(hs:Same H H')(hf:H a=none)(hv:H' a=some (.lst vs))(im:aIm ds=true)(iv:IsL K H' ds vs):Rel K H₀ (ρ.set i (some (.own ds))) (σ.set i (some (.ref a))) H':=by
 obtain⟨O,h1,ho,h2,hl,h3⟩:=r;have na: ∀j b,O j=some b->b≠a:=fun j b q e=>by
  subst e;obtain⟨u,w,m⟩:=ho j b q;rw[w] at hf;cases hf
 let O':Nat->Option Addr:=fun j=>if j=i then some a else O j
 have Oi:O' i=some a:=if_pos rfl;have On: ∀j,j≠i->O' j=O j:=fun j e=>if_neg e
 have hO':aRh H' O':=fun j b q=>by
  by_cases e:j=i
  ·subst e
   rw[Oi] at q;cases q;exact⟨_,hv,rfl⟩
  ·rw[On j e] at q
   obtain⟨u,w,m⟩:=ho j b q;exact⟨u,hs _ _ w,m⟩
 have sm:Same (Off H O) (Off H' O'):=fun b o q=>by
  have qh:=Off.same H O b o q;have nb:b≠a:=fun e=>by subst e;rw[hf] at qh;cases qh
  refine Off.of (hs _ _ qh) fun j z=> ?_
  by_cases e:j=i
  ·subst e
   rw[Oi] at z;cases z;exact nb rfl
  ·rw[On j e] at z
   exact Off.not q j z
 refine⟨O',fun j k b q1 q2=> ?_,hO',h2.trans sm,by rw[List.length_set,List.length_set,hl],fun j sv q=> ?_⟩
 ·by_cases e1:j=i
  ·by_cases e2:k=i
   ·rw[e1,e2]
   ·subst e1
    rw[Oi] at q1;cases q1;rw[On k e2] at q2;exact absurd rfl (na k _ q2)
  ·by_cases e2:k=i
   ·subst e2
    rw[Oi] at q2;cases q2;rw[On j e1] at q1;exact absurd rfl (na j _ q1)
   ·rw[On j e1] at q1
    rw[On k e2] at q2;exact h1 j k b q1 q2
 ·by_cases e:j=i
  ·subst e
   have hj:j<ρ.length:=by
    have:=(List.getElem?_eq_some_iff.mp q).1
    rwa [List.length_set] at this
   rw[List.getElem?_set_self hj] at q;have q':=Option.some.inj (Option.some.inj q);subst q';exact⟨a,vs,Oi,List.getElem?_set_self (by rw[<-hl];exact hj),hv,aJi hO' im iv⟩
  ·rw[List.getElem?_set_ne (Ne.symm e)] at q
   have z:=h3 j sv q;cases sv with
   | sh d'=>obtain⟨v',e1,e2⟩:=z;exact⟨v',by rw[List.getElem?_set_ne (Ne.symm e)];exact e1,e2.mono sm⟩
   | own ds'=>
    obtain⟨b,ws,e1,e2,e3,e4⟩:=z;exact⟨b,ws,by rw[On j e];exact e1,by rw[List.getElem?_set_ne (Ne.symm e)];exact e2,hs _ _ e3,e4.mono sm⟩
   | oin b C dx fs=>
    obtain⟨e1,e2,e3,ws,e4,e5⟩:=z;exact⟨by rw[On j e];exact e1,by rw[List.getElem?_set_ne (Ne.symm e)];exact e2,e3,ws,hs _ _ e4,e5.mono sm⟩
   | ow o'=>
    obtain⟨b,u,e1,e2,e3,e4⟩:=z;exact⟨b,u,by rw[On j e];exact e1,by rw[List.getElem?_set_ne (Ne.symm e)];exact e2,hs _ _ e3,e4.mono sm⟩
   | tk ks=>obtain⟨b,e1,e2⟩:=z;exact⟨b,by rw[List.getElem?_set_ne (Ne.symm e)];exact e1,sm _ _ e2⟩
def bBz (i:Nat)(f:Rho->M D):Rho->Option Out:=fun ρ=>lft (f ρ) ρ fun d=>match d with
 | .lst rs=>some (.nx (ρ.set i (some (.own rs))))
 | _=>none
section
variable {X:Cx}{B:Hp}{e a b:Expr}{fa fb fk:Rho->M D}{pos pos' p pos2 apos cpos:Pos}{i:Nat}{x:Str}{tg iter elt:Expr}
variable {scope:Scope}{cl:List (Str×Addr)}{N':List Str}{m:Nat}{ifs:List Expr}{ks:List Nat}{Gc:D->Option (List D)}{ft:Rho->M Bool}{fe:Rho->M D}{it:Rho->M (List D)}
theorem bCn {spos:Pos}(hN:X.N.Nodup)(hi0:X.N[i]? =some x)(hx:Loc X.env.scope x)(hclos:closureFor scope X.env=pure cl)(hcell:scope.names.all (fun y=>y.2 != .cell)=true)(hkind:scope.kind= .function)(hnames:scope.names.all (fun y=>y.2 != .local || scope.names.lookup y.1==some .local)=true)(hcl:aOs cl X.env=true)
  (hnm:aW7 X.N N' (relabel scope X.env)=true) (hf:aU6 cl (relabel scope X.env)=true) (hl:N'.length=X.N.length+m) (hks:ks.all (fun k=>decide (X.N.length<=k))=true) (hcm:X.calm=true) (hi:PIt X B tg iter it)
  (hg: ∀C s₀ H₀ ex,PDH (cxC X scope cl N' C s₀ H₀ ex) tg ks Gc) (ht: ∀C s₀ H₀ ex B,PIf (cxC X scope cl N' C s₀ H₀ ex) B ifs ft) (he: ∀C s₀ H₀ ex B,PD (cxC X scope cl N' C s₀ H₀ ex) B elt fe)
  (hsw:swapsWith (.ListComp elt [⟨tg,iter,ifs,0⟩] scope pos) (some (.Name x pos')) spos.line X.env=pure true:=by rfl) (hs: ∀x,foldedSetIterable iter X.env x=pure x:=by intro _;rfl)
  (hfn:X.fn x=true\/X.env.scope.names.lookup x=some .local:=by first | exact .inl rfl | exact .inr rfl | assumption):
  PDS X B (.Assign [.Name x pos'] (.ListComp elt [⟨tg,iter,ifs,0⟩] scope pos) spos) (bBz i (cmp m it ks Gc ft fe)):=by
 intro pins s σ H E I h;obtain⟨ρ,r,h⟩:=h;rw[exec_Assign_Name_used _ _ _ _ hsw];refine wpAny_bind (wpAny_standAt (wpAny_bind (wpAny_bind (aPg (use:=some _) (Kp:=fun rs=>aM8 X B E (some (.nx (ρ.set i (some (.own rs)))))) hclos (fun y hy=>by have:=List.all_eq_true.mp hcell y hy;simpa using this) hkind
  (fun y hy z=>by have:=List.all_eq_true.mp hnames y hy;rw[z] at this;simpa using this) hcl hnm hf hl
  (fun k hk=>of_decide_eq_true (List.all_eq_true.mp hks k hk)) hcm hi hg ht he hs I r ?_ ?_))))
 ·exact (aCe r h).imp fun d q rs e=>by subst e;exact q
 ·intro Dd Cc s3 Hj rs IX ⟨mm,hmm⟩ oc nC sm hn im ⟨vs,is1,is2⟩ hQ
  have I3:Inv X pins σ Hj s3:=IX s3.heap (Heap.SameBut.refl Cc s3.heap);refine wpAny_assign_Name (aNt I3 hN hi0 hx (v:= .ref Dd) rfl (fun s4 I4 ⟨a,sb,ha⟩=>⟨mm,hmm.sameBut sb ?_,fun h' hsb=> ?_⟩) hfn)
  ·rcases ha with ha | ha
   ·rw[ha];exact oc.2.1
   ·exact Ne.symm (oc.2.2.1 x a ha)
  ·exact wpAny_pure (wpAny_pure ⟨_,Hj,Inv.offC I4 oc nC hsb,hQ _ Hj (r.bO5 sm hn is1 im is2)⟩)
def aWk (i:Nat)(fk:Rho->M D):Rho->Option Out:=fun ρ=>match ρ[i]? with
 | some (some (.ow (.k kvs)))=>lft (fk ρ) ρ fun kd=>(match keyOf kd with
  | some key=>if (aMt kvs key).isSome=true then some (.nx (ρ.set i (some (.ow (.k (aTa kvs key)))))) else none
  | none=>none)
 | _=>none
theorem aS0 {K:PySem.W.Frag}{H:Hp}{k:Key}: ∀{kvs:List (Key×D)} {vs:List (Key×V)},IsK K H kvs vs->IsK K H (aTa kvs k) (aVa vs k)
 | _,_,.nil=> .nil
 | _,_,.cons (x:=x) i r=>by
  unfold aTa aVa;rw[List.filter_cons,List.filter_cons];by_cases e:x=k
  ·rw[if_neg (by simp[e]),if_neg (by simp[e])]
   exact aS0 r
  ·rw[if_pos (by simp[e]),if_pos (by simp[e])]
   exact .cons i (aS0 r)
theorem bGu (hN:X.N[i]? =some x)(hv:Vis X.env.scope x)(hk:PD X B b fk)(hs:aD4 b=true:=by rfl)(hline:(apos.endLine==cpos.line)=true:=by rfl)
  (hsw:swapsWith (.Call (.Attribute (.Name x p) "pop" apos) [b] [] cpos) none pos.line X.env=pure false:=by rfl)
  (hd:(x==("__debug__":Str))=false:=by decide) (hcd:(x==("__classdict__":Str))=false:=by decide):
  PDS X B (.Expr (.Call (.Attribute (.Name x p) "pop" apos) [b] [] cpos) pos) (aWk i fk):=by
 refine PS.of (aR5 (bGp (aGd hN hv hd hcd) hk ⟨rfl,by rw[aIl hs];rfl,hline,by rw[aIl hs];rfl⟩) hsw) fun E σ H h=> ?_
 obtain⟨ρ,r,h⟩:=h;unfold aWk at h;split at h
 ·rename_i kvs qi
  obtain⟨O,a,vs,g1,go,g2,gl,g3,z1,z2,z3,z4⟩:=r.bQ8 qi;refine⟨.ref a,z2,a,rfl,.inl ⟨_,.inl z3⟩,ρ,r,(aCe r h).imp fun kd h1 u H1 s1 i1=> ?_⟩;split at h1
  ·rename_i key hkey
   split at h1
   ·rename_i hv'
    clear g1 go g2 gl g3 z1 z3 z4;obtain⟨O2,a',vs2,g1,go,g2,gl,g3,z1,z2',z3,z4⟩:=(r.mono s1).bQ8 qi;have ea:a=a':=by rw[z2] at z2';cases z2';rfl
    rw[ea];have eu:=aSv i1 hkey;rw[eu];rcases aSz (k:=key) z4 with⟨y1,y2⟩ |⟨d',v',y1,y2,i'⟩
    ·rw[y1] at hv';cases hv'
    ·exact⟨vs2,key,v',z3,rfl,y2,h1 _ _ (Rel.bCu O2 g1 go g2 gl g3 qi z1 z2' (o':= .k (aTa kvs key)) (w':= .dK (aVa vs2 key)) (aS0 z4))⟩
   ·exact False.elim h1
  ·exact False.elim h1
 ·exact False.elim h
def bMc:List (Key×D)->Bool
 | []=>true
 |(_,d)::l=>d.imm&&bMc l
theorem bDy {K:PySem.W.Frag}{H:Hp}{O:Nat->Option Addr}(ho:aRh H O): ∀{l:List (Key×D)} {kvs:List (Key×V)},bMc l=true->IsK K H l kvs->IsK K (Off H O) l kvs
 | _,_,_,.nil=> .nil
 | _,_,q,.cons i r=>by
  rw[bMc,Bool.and_eq_true] at q;exact .cons (aKb ho q.1 i) (bDy ho q.2 r)
def aT5 (i:Nat)(f:Rho->M D):Rho->Option Out:=fun ρ=>lft (f ρ) ρ fun d=>match d with
 | .dk kvs=>if bMc kvs=true then some (.nx (ρ.set i (some (.ow (.k kvs))))) else none
 | _=>none
theorem bA4:aJe X (.type "dict") (fun xs H Q=> ∃p kvs,xs=[.ref p]/\H p=some (.dK kvs)/\∀l,H l=none->Q (.ref l) (upd H l (.dK kvs))):=by
 intro pins s σ H xs us Q I r h;obtain⟨p,kvs,rfl,hp,q⟩:=h;obtain⟨u,rfl,rx⟩:=vals1 r;cases rx;exact bH8 I (.inl hp) fun l s' hl I'=>⟨.ref l,_,I',rfl,q l hl⟩
theorem bCm (hg:Gl X "dict")(hm:X.mg "dict"=none)(hN:X.N.Nodup)(hi:X.N[i]? =some x)(hx:Loc X.env.scope x)(he:PD X B e fa)(hst:aD4 e=true:=by rfl)(hs:swapsWith (.Call (.Name "dict" p) [e] [] pos2) (some (.Name x pos')) pos.line X.env=pure false:=by rfl)(hf:X.fn x=true\/X.env.scope.names.lookup x=some .local:=by first | exact .inl rfl | exact .inr rfl | assumption):
  PDS X B (.Assign [.Name x pos'] (.Call (.Name "dict" p) [e] [] pos2) pos) (aT5 i fa):=by
 refine PS.of (aQs hN hi hx (aIv bA4 hg hm boot_dict (aBq he aEi (aA5 hst)) (he:=aA5 hst) (hpl:=by rfl)) hs hf) fun E σ H h=> ?_
 obtain⟨ρ,r,h⟩:=h;refine⟨ρ,r,(aCe r h).imp fun d h1 v H1 e1 i1=> ?_⟩;cases i1 with
 | dk hh rr=>
  dsimp only at h1
  split at h1
  ·rename_i im
   refine⟨_,_,rfl,hh,fun l hl=>h1 _ _ ((r.mono e1).aYl (o:= .k _) hl (fun H' sm=>IsK.mono sm rr) fun O ho=>bDy ho im (IsK.mono (aA4 hl _) rr))⟩
  ·exact False.elim h1
 | _=>exact False.elim h1
def bC7:List (Key×D)->Option (List (Key×Int))
 | []=>some []
 |(k,.int n)::l=>match bC7 l with | some r=>some ((k,n)::r) | none=>none
 | _::_=>none
theorem aSn: ∀(l:List (Key×D)) {r:List (Key×Int)},bC7 l=some r->l=r.map fun p=>(p.1,D.int p.2)
 | [],r,h=>by cases h;rfl
 |(k,d)::l,r,h=>by
  cases d<;>first |(cases h;done) | skip
  unfold bC7 at h;split at h
  ·rename_i r' hr
   cases h;rw[aSn l hr];rfl
  ·cases h
theorem aSy {K:PySem.W.Frag}{H:Hp}: ∀{r:List (Key×Int)} {vs:List (Key×V)},IsK K H (r.map fun p=>(p.1,D.int p.2)) vs->vs=r.map fun p=>(p.1,V.int p.2)
 | [],_,.nil=>rfl
 | p::r,_,.cons h t=>by cases h;rw[aSy t];rfl
def numAt (l:List (Key×Int))(k:Key):Option Int:=(l.find? fun p=>decide (p.1=k)).map (·.2)
def bRf (a b:List (Key×Int)):Bool:=a.length==b.length&&a.all fun p=>decide (numAt b p.1=some p.2)
end
theorem bJ4 {b:List (Key×Int)}{vs:List (Key×Value)}(r:KV (b.map fun p=>(p.1,V.int p.2)) vs)(k:Key):match numAt b k with | none=>valueAt vs k=none | some n=> ∃t,valueAt vs k=some (.int n t):=by
 induction b generalizing vs with
 | nil=>cases r;rfl
 | cons p b ih=>
  cases r with
  | cons h t=>
   rename_i q vs;obtain⟨e1,e2⟩:=h;obtain⟨tt,e2⟩:=e2;by_cases e:p.1=k
   ·have a1:numAt (p::b) k=some p.2:=by simp[numAt,List.find?_cons,e]
    have a2:valueAt (q::vs) k=some q.2:=by
     have:q.1=k:=by rw[<-e1];exact e
     simp[valueAt,List.find?_cons,this]
    rw[a1,a2];exact⟨tt,by rw[e2]⟩
   ·have a1:numAt (p::b) k=numAt b k:=by simp[numAt,List.find?_cons,e]
    have a2:valueAt (q::vs) k=valueAt vs k:=by
     have:¬q.1=k:=by rw[<-e1];exact e
     simp[valueAt,List.find?_cons,this]
    rw[a1,a2];exact ih t
theorem aYv {A:Around}{s:Shared}{b:List (Key×Int)}{kb:List (Key×Value)}(rb:KV (b.map fun p=>(p.1,V.int p.2)) kb): ∀{a:List (Key×Int)} {ka:List (Key×Value)},KV (a.map fun p=>(p.1,V.int p.2)) ka->PySem.W.KeqHits A s kb ka (a.all fun p=>decide (numAt b p.1=some p.2))
 | [],_,.nil=> .nil
 | p::a,_,.cons (b:=q) h t=>by
  obtain⟨e1,tt,e2⟩:=h;obtain⟨k,v⟩:=q
  replace e1:p.1=k:=e1
  replace e2:v=Value.int p.2 tt:=e2
  subst e1;subst e2;rw[List.all_cons];have z:=bJ4 rb p.1;cases hn:numAt b p.1 with
  | none=>
   rw[hn] at z;rw[decide_eq_false (by simp),Bool.false_and];exact .miss z
  | some n=>
   rw[hn] at z;obtain⟨t',z⟩:=z;have e:decide (some n=some p.2)=decide (p.2=n):=by rw[decide_eq_decide];constructor<;>intro q<;>simp_all
   rw[e];exact .hit z (SeqAt.EqAt.int_int p.2 tt n t') (aYv rb t)
section
variable {X:Cx}{B:Hp}{a b:Expr}{fa fb:Rho->M D}{pos:Pos}
def bSr:D->M D
 | .int i=>ok (.int (-i))
 | _=>none
theorem bO0 (ha:PD X B a fa):PD X B (.UnaryOp .USub a pos) (f1 bSr fa):=by
 refine PE.of (bR9 bNg ha) fun σ H Q h=> ?_
 obtain⟨ρ,r1,h⟩:=h;refine⟨ρ,r1,(Res.bind h).imp fun d q1 v H1 e1 i1=> ?_⟩;cases i1 with
 | int i=>exact⟨i,rfl,q1 _ H1 e1 (.int _)⟩
 | _=>exact False.elim q1
def bTq:R2:=fun x y H Q=> ∃(p q:Addr) (l r:List (Key×Int)),x= .ref p/\y= .ref q/\H p=some (.dK (l.map fun z=>(z.1,V.int z.2)))/\H q=some (.dK (r.map fun z=>(z.1,V.int z.2)))/\Q (.bl (bRf l r)) H
theorem bPa {k:Nat}(hr:aDm k X.A):OpR X (compareOp .Eq) bTq:=by
 intro pins s σ H x y v u Q I rx ry h;obtain⟨p,q,l,r,rfl,rfl,hp,hq,qq⟩:=h;cases rx;cases ry;obtain⟨_,hs1,vs1,k1,d1⟩:=bH5 I.hok hp;obtain⟨_,hs2,vs2,k2,d2⟩:=bH5 I.hok hq;have hu:X.A.units<cLine:=by
  have:=hr.un;omega
 refine PySem.W.keq_eq hs1 hs2 d1 d2 hu (fun _=>aYv k2 k1) ?_;have e1:l.length=vs1.length:=by have:=k1.length;rwa [List.length_map] at this
 have e2:r.length=vs2.length:=by have:=k2.length;rwa [List.length_map] at this
 rw[<-e1,<-e2];exact⟨.bl _,H,I,rfl,qq⟩
def bJj:D->D->M D
 | .dk l,.dk r=>match bC7 l,bC7 r with | some l,some r=>ok (.bl (bRf l r)) | _,_=>none
 | _,_=>none
theorem bSt:aJt bJj:=by
 intro x y c h;unfold bJj at h
 (repeat' split at h)<;>cases h
theorem bR2:aTo X bTq bJj:=by
 intro H x y dx dy d Q ix iy e q;unfold bJj at e;split at e
 ·split at e
  ·rename_i l' r' h1 h2
   cases e;have e1:=aSn _ h1;have e2:=aSn _ h2;subst e1 e2;cases ix with
   | dk hx rx=>
    cases iy with
    | dk hy ry=>
     rw[aSy rx] at hx;rw[aSy ry] at hy;exact⟨_,_,l',r',rfl,rfl,hx,hy,q _ H (Same.refl H) (.bl _)⟩
  ·cases e
 ·cases e
theorem bO1 {k:Nat}(hr:aDm k X.A)(ha:PD X B a fa)(hb:PD X B b fb):PD X B (.Compare a [.Eq] [b] pos) (b2 bJj fa fb):=aUf (bPa hr) bR2 bSt ha hb (aK4 _)
end
end L2.PU
namespace K11
open PySem PySem.Spec PyProof.Rows L2 L2.PU
abbrev St:=L2.St
def top (i:Nat):Stmt:=PySem.Challenge.pw_whence_k11_worth.main.body.getD i (.Pass ⟨0,0,0,0⟩)
abbrev aHf:Stmt:=top 6
abbrev aHa:Stmt:=top 7
abbrev aDp:Stmt:=inClass (top 9) 0
abbrev aGc:Stmt:=inClass (top 9) 1
abbrev aFf:Stmt:=inClass (top 9) 2
abbrev aT3:Stmt:=top 10
abbrev aFd:Stmt:=top 11
abbrev aN1:Stmt:=top 12
abbrev aEo:Stmt:=top 13
abbrev aDo:Stmt:=top 14
abbrev aHb:Stmt:=top 15
abbrev aCj:Stmt:=inClass (top 17) 0
abbrev aEp:Stmt:=inClass (top 17) 1
abbrev aD1:Stmt:=inClass (top 17) 2
abbrev aCl:Stmt:=inClass (top 18) 0
abbrev aEr:Stmt:=inClass (top 18) 1
abbrev aD3:Stmt:=inClass (top 18) 2
abbrev aCk:Stmt:=inClass (top 19) 0
abbrev aEq:Stmt:=inClass (top 19) 1
abbrev aD2:Stmt:=inClass (top 19) 2
abbrev aC8:Stmt:=inClass (top 20) 0
abbrev aFg:Stmt:=inClass (top 20) 1
abbrev aEs:Stmt:=inClass (top 20) 2
abbrev aKt:Stmt:=top 22
abbrev aHc:Stmt:=top 23
abbrev aFe:Stmt:=top 24
abbrev aIs:Stmt:=top 25
abbrev aHd:Stmt:=top 26
abbrev aHe:Stmt:=top 27
abbrev aIr:Stmt:=top 28
abbrev aGb:Stmt:=top 29
abbrev aC7:Stmt:=top 30
abbrev aEn:Stmt:=top 31
abbrev aGa:Stmt:=top 32
abbrev aWj:Stmt:=top 33
set_option genInjectivity false in
structure Adr where
 aBr:Addr
 aAw:Addr
 aAm:Addr
 aAq:Addr
 aAz:Addr
 aBe:Addr
 aD0:Addr
 aAu:Addr
 aHp:Addr
 aHk:Addr
 aDr:Addr
 aGk:Addr
 aFk:Addr
 aU8:Addr
 aFi:Addr
 aPa:Addr
 aEw:Addr
 aDq:Addr
 aHl:Addr
 aCo:Addr
 aEx:Addr
 aD5:Addr
 aCq:Addr
 aEz:Addr
 aD7:Addr
 aCp:Addr
 aEy:Addr
 aD6:Addr
 aDa:Addr
 aFl:Addr
 aE0:Addr
 aLd:Addr
 aHm:Addr
 aFj:Addr
 aI7:Addr
 aHn:Addr
 aHo:Addr
 aI6:Addr
 aGj:Addr
 aC9:Addr
 aEv:Addr
 aGi:Addr
 aS7:Addr
def cs (t:Adr)(C:Addr):Bool:=decide (C=t.aBr) || decide (C=t.aAw) || decide (C=t.aAm) || decide (C=t.aAq) || decide (C=t.aAz)
structure Txt (K:PySem.W.Frag)(mg:Str->Option Value)(t:Adr):Prop where
 bJh:mg "Sums"=some (.ref t.aBr)
 aXt:Cls K t.aBr
 bDa:Mk K t.aBr t.aDr
 aMj:Meth K t.aBr "plus" t.aGk
 aK7:Meth K t.aBr "times" t.aFk
 aY8:mg "Truths"=some (.ref t.aAw)
 aPh:Cls K t.aAw
 aUp:Mk K t.aAw t.aCo
 aJx:Meth K t.aAw "plus" t.aEx
 aI0:Meth K t.aAw "times" t.aD5
 aZa:mg "Counts"=some (.ref t.aAm)
 aPj:Cls K t.aAm
 aUr:Mk K t.aAm t.aCq
 aJz:Meth K t.aAm "plus" t.aEz
 aI2:Meth K t.aAm "times" t.aD7
 aY9:mg "Rounds"=some (.ref t.aAq)
 aPi:Cls K t.aAq
 aUq:Mk K t.aAq t.aCp
 aJy:Meth K t.aAq "plus" t.aEy
 aI1:Meth K t.aAq "times" t.aD6
 bEd:mg "Costs"=some (.ref t.aAz)
 aTf:Cls K t.aAz
 aYq:Mk K t.aAz t.aDa
 aK8:Meth K t.aAz "plus" t.aFl
 aJ0:Meth K t.aAz "times" t.aE0
 aLb:mg "WhenceError"=some (.ref t.aBe)
 aPx:PySem.W.excIn K t.aBe [.type "ValueError",.type "Exception",.type "BaseException",.type "object"] "ValueError.__new__"=true
 bEc:mg "NoWay"=some (.ref t.aD0)
 aX1:PySem.W.excIn K t.aD0 [.type "ValueError",.type "Exception",.type "BaseException",.type "object"] "ValueError.__new__"=true
 aS2:mg "NoName"=some (.ref t.aAu)
 aTp:PySem.W.excIn K t.aAu [.type "ValueError",.type "Exception",.type "BaseException",.type "object"] "ValueError.__new__"=true
 aFw:PySem.W.kitOne K (.ref t.aAu) (.type "ValueError")=some true
 aFb:PySem.W.kitOne K (.ref t.aAu) (.ref t.aBe)=some true
 aF8:PySem.W.kitOne K (.ref t.aD0) (.type "ValueError")=some true
 aFv:PySem.W.kitOne K (.ref t.aD0) (.ref t.aBe)=some true
 aIf:PySem.W.exmOne K (.ref t.aAu) (.ref t.aAu)=some true
 aNl:PySem.W.exmOne K (.ref t.aAu) (.ref t.aD0)=some false
 aIo:PySem.W.exmOne K (.ref t.aD0) (.ref t.aAu)=some false
 aPw:PySem.W.exmOne K (.ref t.aD0) (.ref t.aD0)=some true
 aIn:PySem.W.exmOne K (.ref t.aBe) (.ref t.aAu)=some false
 aJp:PySem.W.exmOne K (.ref t.aBe) (.ref t.aD0)=some false
 aGt:PySem.W.exmOne K (.ref t.aBe) (.ref t.aBe)=some true
 aJs:t.aD0≠t.aBe
 aIz:t.aAu≠t.aBe
 aOk:t.aAu≠t.aD0
 aSq: ∀C,cs t C=true->Cls K C/\aGm K C "many"
 aFh: ∀C,cs t C=true->Cls K C/\aGm K C "nought"
 aMi: ∀C,cs t C=true->Cls K C/\aGm K C "one"
 aDj: ∃fd,Fun K "is_whole" "is_whole" aHf t.aHp fd/\Binds K fd ["thing","least"] []
 aRc:mg "is_whole"=some (.ref t.aHp)
 aDf: ∃fd,Fun K "plus_all" "plus_all" aHa t.aHk fd/\Binds K fd ["way","marks"] []
 aQ8:mg "plus_all"=some (.ref t.aHk)
 aJd: ∃fd,Fun K "__init__" "Sums.__init__" aDp t.aDr fd/\Binds K fd ["self"] []
 aPs: ∃fd,Fun K "plus" "Sums.plus" aGc t.aGk fd/\Binds K fd ["self","a","b"] []
 aMr: ∃fd,Fun K "times" "Sums.times" aFf t.aFk fd/\Binds K fd ["self","a","b"] []
 aJ4: ∃fd,Fun K "bare" "bare" aT3 t.aU8 fd/\Binds K fd ["name"] []
 bJg:mg "bare"=some (.ref t.aU8)
 aAl: ∃fd,Fun K "times_over" "times_over" aFd t.aFi fd/\Binds K fd ["way","many","mark"] []
 aMk:mg "times_over"=some (.ref t.aFi)
 aCg: ∃fd,Fun K "worth" "worth" aN1 t.aPa fd/\Binds K fd ["some","way","marks"] []
 bEb:mg "worth"=some (.ref t.aPa)
 aBo: ∃fd,Fun K "check_names" "check_names" aEo t.aEw fd/\Binds K fd ["some","marks"] []
 aLa:mg "check_names"=some (.ref t.aEw)
 aBb: ∃fd,Fun K "product_worth" "product_worth" aDo t.aDq fd/\Binds K fd ["product","way","marks"] []
 aI3:mg "product_worth"=some (.ref t.aDq)
 aDg: ∃fd,Fun K "names_in" "names_in" aHb t.aHl fd/\Binds K fd ["some"] []
 aQ9:mg "names_in"=some (.ref t.aHl)
 aHw: ∃fd,Fun K "__init__" "Truths.__init__" aCj t.aCo fd/\Binds K fd ["self"] []
 aLg: ∃fd,Fun K "plus" "Truths.plus" aEp t.aEx fd/\Binds K fd ["self","a","b"] []
 aJ5: ∃fd,Fun K "times" "Truths.times" aD1 t.aD5 fd/\Binds K fd ["self","a","b"] []
 aHy: ∃fd,Fun K "__init__" "Counts.__init__" aCl t.aCq fd/\Binds K fd ["self"] []
 aLi: ∃fd,Fun K "plus" "Counts.plus" aEr t.aEz fd/\Binds K fd ["self","a","b"] []
 aJ7: ∃fd,Fun K "times" "Counts.times" aD3 t.aD7 fd/\Binds K fd ["self","a","b"] []
 aHx: ∃fd,Fun K "__init__" "Rounds.__init__" aCk t.aCp fd/\Binds K fd ["self","many"] []
 aLh: ∃fd,Fun K "plus" "Rounds.plus" aEq t.aEy fd/\Binds K fd ["self","a","b"] []
 aJ6: ∃fd,Fun K "times" "Rounds.times" aD2 t.aD6 fd/\Binds K fd ["self","a","b"] []
 aIk: ∃fd,Fun K "__init__" "Costs.__init__" aC8 t.aDa fd/\Binds K fd ["self"] []
 aMs: ∃fd,Fun K "plus" "Costs.plus" aFg t.aFl fd/\Binds K fd ["self","a","b"] []
 aLj: ∃fd,Fun K "times" "Costs.times" aEs t.aE0 fd/\Binds K fd ["self","a","b"] []
 aC6: ∃fd,Fun K "_law_at" "_law_at" aKt t.aLd fd/\Binds K fd ["_law_script","_law_k"] []
 aY7:mg "_law_at"=some (.ref t.aLd)
 aAo: ∃fd,Fun K "_law_same" "_law_same" aHc t.aHm fd/\Binds K fd ["_law_found","_law_due"] []
 aL3:mg "_law_same"=some (.ref t.aHm)
 aAv: ∃fd,Fun K "_law_number" "_law_number" aFe t.aFj fd/\Binds K fd ["_law_cell"] []
 aMl:mg "_law_number"=some (.ref t.aFj)
 aD9: ∃fd,Fun K "_law_mix" "_law_mix" aIs t.aI7 fd/\Binds K fd ["_law_cell"] []
 aU3:mg "_law_mix"=some (.ref t.aI7)
 aDh: ∃fd,Fun K "_law_name" "_law_name" aHd t.aHn fd/\Binds K fd ["_law_style","_law_k"] []
 aRa:mg "_law_name"=some (.ref t.aHn)
 aDi: ∃fd,Fun K "_law_cost" "_law_cost" aHe t.aHo fd/\Binds K fd ["_law_cell"] []
 aRb:mg "_law_cost"=some (.ref t.aHo)
 aD8: ∃fd,Fun K "_law_sum" "_law_sum" aIr t.aI6 fd/\Binds K fd ["_law_names","_law_cell"] []
 aU2:mg "_law_sum"=some (.ref t.aI6)
 aBv: ∃fd,Fun K "_law_count" "_law_count" aGb t.aGj fd/\Binds K fd ["_law_some","_law_marks"] []
 aO9:mg "_law_count"=some (.ref t.aGj)
 aA8: ∃fd,Fun K "_law_least_cost" "_law_least_cost" aC7 t.aC9 fd/\Binds K fd ["_law_some","_law_costs"] []
 aIi:mg "_law_least_cost"=some (.ref t.aC9)
 aBn: ∃fd,Fun K "_law_refused" "_law_refused" aEn t.aEv fd/\Binds K fd ["_law_some","_law_marks"] []
 aK9:mg "_law_refused"=some (.ref t.aEv)
 aCh: ∃fd,Fun K "_law_times" "_law_times" aGa t.aGi fd/\Binds K fd ["_law_many","_law_count_here","_law_cost_here","_law_name_here"] []
 aO8:mg "_law_times"=some (.ref t.aGi)
 bQ5: ∃fd,Fun K "law" "law" aWj t.aS7 fd/\Binds K fd ["_law_script"] []
 bQb:mg "law"=some (.ref t.aS7)
 aMq:mg "ValueError"=none
 bQy:mg "any"=none
 aZl:mg "bool"=none
 bFe:mg "dict"=none
 bIc:mg "int"=none
 aA7:mg "isinstance"=none
 aM7:mg "len"=none
 aVu:mg "list"=none
 bQx:mg "min"=none
 aKi:mg "range"=none
 bQw:mg "set"=none
 aH9:mg "sorted"=none
 bM0:mg "str"=none
 bMz:mg "sum"=none
 aH8:mg "tuple"=none
 aG6:t.aBr≠t.aAw
 aG8:t.aBr≠t.aAm
 aG7:t.aBr≠t.aAq
 aH3:t.aBr≠t.aAz
 aQf:t.aAw≠t.aBr
 aM3:t.aAw≠t.aAm
 aM2:t.aAw≠t.aAq
 aOl:t.aAw≠t.aAz
 aQh:t.aAm≠t.aBr
 aFt:t.aAm≠t.aAw
 aM4:t.aAm≠t.aAq
 aOn:t.aAm≠t.aAz
 aQg:t.aAq≠t.aBr
 aFr:t.aAq≠t.aAw
 aFs:t.aAq≠t.aAm
 aOm:t.aAq≠t.aAz
 aSr:t.aAz≠t.aBr
 aGe:t.aAz≠t.aAw
 aGg:t.aAz≠t.aAm
 aGf:t.aAz≠t.aAq
section
variable {P:Program}{w:World}{K:PySem.W.Frag}{mg:Str->Option Value}{base:Heap}{t:Adr}
def aBw (t:Adr)(C:Addr):Bool:=decide (C=t.aAu) || decide (C=t.aD0)
theorem aQi (T:Txt K mg t): ∀C,aBw t C=true->PySem.W.kitOne K (.ref C) (.type "ValueError")=some true:=fun C hC=>by
 unfold aBw at hC;simp only[Bool.or_eq_true,decide_eq_true_eq] at hC;rcases hC with rfl | rfl
 ·exact T.aFw
 ·exact T.aF8
def aBm (t:Adr)(C:Addr):Bool:=decide (C=t.aAu) || decide (C=t.aD0)
theorem aOx (T:Txt K mg t): ∀C,aBm t C=true->PySem.W.kitOne K (.ref C) (.ref t.aBe)=some true:=fun C hC=>by
 unfold aBm at hC;simp only[Bool.or_eq_true,decide_eq_true_eq] at hC;rcases hC with rfl | rfl
 ·exact T.aFb
 ·exact T.aFv
def aGh (t:Adr)(C:Addr):Option Bool:=if C=t.aAu then some true else if C=t.aD0 then some false else none
theorem bAv (T:Txt K mg t): ∀C b,aGh t C=some b->PySem.W.exmOne K (.ref C) (.ref t.aAu)=some b:=fun C b hC=>by
 unfold aGh at hC;split at hC
 ·rename_i z;subst z;cases hC;exact T.aIf
 split at hC
 ·rename_i z;subst z;cases hC;exact T.aIo
 cases hC
def aHv:List Str:=["thing","least"]
theorem aWh:aA0 aHv ["thing","least"] (aAd aHf):=⟨rfl,rfl,rfl,by decide+kernel,rfl,by decide+kernel,by decide+kernel⟩
def aGz (t:Adr):Rho->Option Out:=
  (aAi (aB7 (aV0 (isi "int" (look 0)) (aV0 (bSq (isi "bool" (look 0))) (b2 gGe (look 0) (look 1)))))
  aAp)
theorem aWd (T:Txt K mg t){k:Nat}{cdv:Value}{A:Around}{outer:List Env}{s:Shared}{H:Hp}{E:XK}(hr:aDm k (A.deeper (envOfC "is_whole" (aAd aHf) s.heap.objs.size t.aHp cdv)))(B:Hp):
  PDB (cxN P w K mg base aHv "is_whole" (aAd aHf) t.aHp cdv A outer s H E) B (aAt aHf) (aGz t):=
 by
 refine aAa ?_ ?_;(refine aAr ?_;(refine aQ1 ?_ ?_;(refine aIh (T:="int") rfl T.aA7 rfl T.bIc (by decide+kernel) (by decide) ?_;(exact aAb 0));(refine aQ1 ?_ ?_;(refine bOz ?_;(refine aIh (T:="bool") rfl T.aA7 rfl T.aZl (by decide+kernel) (by decide) ?_;(exact aAb 0)));(refine aQz ?_;(refine bSi ?_ ?_;(exact aAb 0);(exact aAb 1))))));(exact aAh)
theorem aW4 (T:Txt K mg t){k:Nat}{F:List D->M D}(hL: ∀ds r,F ds=some r->ds.length=2)(hq: ∀ds r,F ds=some r->∃d,r= .ok d/\aAn (aGz t (aBg aHv ds))=ok d):Def P w K mg base (k+1) "is_whole" F:=by
 obtain⟨fd,Fu,bi⟩:=T.aDj;exact⟨_,_,_,T.aRc,Fu.kp,bi,hL,aLl Fu aWh hL fun cdv A outer s H E hr=>⟨_,fun B=>aWd T hr B,hq⟩⟩
def aHs:List Str:=["way","marks","left","fewer"]
def aLf:List Str:=["way","?1","left","?3","k"]
theorem aSs:aLf.Nodup:=by decide+kernel
theorem aH1:aA0 aHs ["way","marks"] (aAd aHa):=⟨rfl,rfl,rfl,by decide+kernel,rfl,by decide+kernel,by decide+kernel⟩
def aGx (t:Adr)(aFz:Addr->Option (List D->M D)):Rho->Option Out:=
  (aAi (aDy 2 (f1 toL (look 1)))
  (aAi (sIf (aA2 (b2 gEq (f1 aF7 (look 2)) (con (.int 0)))) (aAi (aB7 (fld (cs t) "nought" (look 0)))
  aAp) aAp)
  (aAi (aIt (aA2 (b2 gGt (f1 aF7 (look 2)) (con (.int 1)))) (aAi (bBz 3 (cmp 1 (bL4 (con (.int 0)) (b2 aXh (f1 aF7 (look 2)) (con (.int 1))) (con (.int 2))) [4] h1 (fun _=>ok true) (aTn "plus" aFz (look 0) (aAe (b2 gIx (look 2) (look 4)) (aAe (b2 gIx (look 2) (b2 aBd (look 4) (con (.int 1)))) aA3)))))
  (aAi (sIf (aA2 (b2 gEq (b2 aC1 (f1 aF7 (look 2)) (con (.int 2))) (con (.int 1)))) (aAi (aYf aYu 3 (aAe (b2 gIx (look 2) (f1 bSr (con (.int 1)))) aA3))
  aAp) aAp)
  (aAi (aDy 2 (look 3))
  aAp))))
  (aAi (aB7 (b2 gIx (look 2) (con (.int 0))))
  aAp))))
theorem aV8 (T:Txt K mg t){k:Nat}{aFz:Addr->Option (List D->M D)}(aJc: ∀C F,aFz C=some F->Mth P w K mg base k C "plus" F){cdv:Value}{A:Around}{outer:List Env}{s:Shared}{H:Hp}{E:XK}(hr:aDm k (A.deeper (envOfC "plus_all" (aAd aHa) s.heap.objs.size t.aHk cdv)))(B:Hp):
  PDB (cxN P w K mg base aHs "plus_all" (aAd aHa) t.aHk cdv A outer s H E) B (aAt aHa) (aGx t aFz):=
 by
 refine aAa ?_ ?_;(refine aA9 (i:=2) (aH1).nd rfl (Or.inr rfl) ?_;(refine bK4 rfl T.aVu ?_;(exact aAb 1)));(refine aAa ?_ ?_;(refine aCa ?_ ?_ ?_;(refine aKw ?_ ?_;(refine aJv rfl T.aM7 ?_;(exact aAb 2));(exact aAj));(refine aAa ?_ ?_;(refine aAr ?_;(refine aQ0 (f:="nought") (T.aFh) ?_;(exact aAb 0)));(exact aAh));(exact aAh));(refine aAa ?_ ?_;(refine aUd PassesOwn.never ?_ ?_;(refine bIz ?_ ?_;(refine aJv rfl T.aM7 ?_;(exact aAb 2));(exact aAj));(refine aAa ?_ ?_;(refine bCn (i:=3) (aH1).nd rfl (Or.inl rfl) (N':=aLf) (m:=1) (ks:=[4]) rfl rfl rfl rfl (by repeat (first | exact aUt | refine aOr rfl (by first | exact Or.inl rfl | exact Or.inr rfl) ?_)) rfl rfl rfl rfl rfl ?_ (fun C s₀ H₀ ex=> ?_) (fun C s₀ H₀ ex B=> ?_) (fun C s₀ H₀ ex B=> ?_);(refine bOp rfl T.aKi ?_ ?_ ?_;(exact aAj);(refine bCp ?_ ?_;(refine aJv rfl T.aM7 ?_;(exact aAb 2));(exact aAj));(exact aAj));(exact bG0 aSs rfl (Or.inl rfl));(exact aKv);(refine aOa aJc hr ?_ ?_;(exact aAb 0);(refine aAc ?_ ?_;(refine aFq ?_ ?_ (fun _ _=>rfl);(exact aAb 2);(exact aAb 4));(refine aAc ?_ ?_;(refine aFq ?_ ?_ (fun _ _=>rfl);(exact aAb 2);(refine aB3 ?_ ?_;(exact aAb 4);(exact aAj)));(exact aAk)))));(refine aAa ?_ ?_;(refine aCa ?_ ?_ ?_;(refine aKw ?_ ?_;(refine aCm ?_ ?_;(refine aJv rfl T.aM7 ?_;(exact aAb 2));(exact aAj));(exact aAj));(refine aAa ?_ ?_;(refine aJg (i:=3) rfl (Or.inl rfl) ?_;(refine aFq ?_ ?_ (fun _ _=>rfl);(exact aAb 2);(refine bO0 ?_;(exact aAj))));(exact aAh));(exact aAh));(refine aAa ?_ ?_;(refine aA9 (i:=2) (aH1).nd rfl (Or.inr rfl) ?_;(exact aAb 3));(exact aAh)))));(refine aAa ?_ ?_;(refine aAr ?_;(refine aFq ?_ ?_ (fun _ _=>rfl);(exact aAb 2);(exact aAj)));(exact aAh))))
theorem aWz (T:Txt K mg t){k:Nat}{aFz:Addr->Option (List D->M D)}(aJc: ∀C F,aFz C=some F->Mth P w K mg base k C "plus" F){F:List D->M D}(hL: ∀ds r,F ds=some r->ds.length=2)(hq: ∀ds r,F ds=some r->∃d,r= .ok d/\aAn (aGx t aFz (aBg aHs ds))=ok d):Def P w K mg base (k+1) "plus_all" F:=by
 obtain⟨fd,Fu,bi⟩:=T.aDf;exact⟨_,_,_,T.aQ8,Fu.kp,bi,hL,aLl Fu aH1 hL fun cdv A outer s H E hr=>⟨_,fun B=>aV8 T aJc hr B,hq⟩⟩
def aDt:List Str:=["self"]
theorem aMx:aA0 aDt ["self"] (aAd aDp):=⟨rfl,rfl,rfl,by decide+kernel,rfl,by decide+kernel,by decide+kernel⟩
def aDx (t:Adr):Rho->Option Out:=
  (aAi (aJq (cs t) 0 "nought" (mkT aA3))
  (aAi (aJq (cs t) 0 "one" (mkT (aAe (mkT (aAe (mkT aA3) (aAe (con (.int 1)) aA3))) aA3)))
  aAp))
theorem aMw (T:Txt K mg t){k:Nat}{cdv:Value}{A:Around}{outer:List Env}{s:Shared}{H:Hp}{E:XK}(hr:aDm k (A.deeper (envOfC "Sums.__init__" (aAd aDp) s.heap.objs.size t.aDr cdv)))(B:Hp):
  PDB (cxN P w K mg base aDt "Sums.__init__" (aAd aDp) t.aDr cdv A outer s H E) B (aAt aDp) (aDx t):=
 by
 refine aAa ?_ ?_;(refine aE7 (f:="nought") (i:=0) (T.aFh) rfl (Or.inl rfl) ?_;(refine aIx ?_;(exact aAk)));(refine aAa ?_ ?_;(refine aE7 (f:="one") (i:=0) (T.aMi) rfl (Or.inl rfl) ?_;(refine aIx ?_;(refine aAc ?_ ?_;(refine aIx ?_;(refine aAc ?_ ?_;(refine aIx ?_;(exact aAk));(refine aAc ?_ ?_;(exact aAj);(exact aAk))));(exact aAk))));(exact aAh))
theorem aM0 (T:Txt K mg t){k:Nat}{F:List D->M (List (Str×D))}(hL: ∀ds r,F ds=some r->ds.length+1=1)(hq: ∀ds r a dx,F ds=some r->∃fs,r= .ok fs/\aE5 a t.aBr dx (aDx t (aNc aDt a t.aBr dx ds))=ok fs):Ctor P w K mg base (k+1) "Sums" t.aBr F:=by
 obtain⟨fd,Fu,bi⟩:=T.aJd;exact⟨_,_,_,T.bJh,T.bDa,bi,hL,aY4 Fu aMx hL fun cdv A outer s H E hr=>⟨_,fun B=>aMw T hr B,hq⟩⟩
def aGq:List Str:=["self","a","b","numbers","product","many"]
theorem aIq:aA0 aGq ["self","a","b"] (aAd aGc):=⟨rfl,rfl,rfl,by decide+kernel,rfl,by decide+kernel,by decide+kernel⟩
def aF6 (t:Adr):Rho->Option Out:=
  (aAi (bGb 3 (look 1))
  (aAi (aF0 2 (gN2 4 5) (aAi (aN4 3 4 (b2 aBd (aPd 3 4 (con (.int 0))) (look 5)))
  aAp))
  (aAi (aB7 (f1 toT (aXq 3)))
  aAp)))
theorem aTw (T:Txt K mg t){k:Nat}{cdv:Value}{A:Around}{outer:List Env}{s:Shared}{H:Hp}{E:XK}(hr:aDm k (A.deeper (envOfC "Sums.plus" (aAd aGc) s.heap.objs.size t.aGk cdv)))(B:Hp):
  PDB (cxN P w K mg base aGq "Sums.plus" (aAd aGc) t.aGk cdv A outer s H E) B (aAt aGc) (aF6 t):=
 by
 refine aAa ?_ ?_;(refine bGv (i:=3) hr rfl T.bFe (aIq).nd rfl (Or.inl rfl) ?_;(exact aAb 1));(refine aAa ?_ ?_;(refine aGv 2 rfl (Or.inl rfl) PassesOwn.never rfl (fun B=> ?_) (fun B=> ?_);(exact aNf (i:=4) (j:=5) rfl (aIq).nd rfl (Or.inl rfl) rfl (Or.inl rfl));(refine aAa ?_ ?_;(refine aR7 hr 3 4 ?_;(refine aB3 ?_ ?_;(refine aSa hr 3 4 ?_;(exact aAj));(exact aAb 5)));(exact aAh)));(refine aAa ?_ ?_;(refine aAr ?_;(refine aKz rfl T.aH8 ?_;(exact aLt hr (by rfl) (by rfl) T.aH9 3)));(exact aAh)))
theorem aUj (T:Txt K mg t){k:Nat}{F:List D->M D}(hL: ∀ds r,F ds=some r->ds.length=3)(hq: ∀ds r,F ds=some r->∃d,r= .ok d/\aAn (aF6 t (aBg aGq ds))=ok d):Mth P w K mg base (k+1) t.aBr "plus" F:=by
 obtain⟨fd,Fu,bi⟩:=T.aPs;exact⟨_,_,_,T.aXt,T.aMj,bi,hL,aLl Fu aIq hL fun cdv A outer s H E hr=>⟨_,fun B=>aTw T hr B,hq⟩⟩
def aFp:List Str:=["self","a","b","numbers","product","many","other","more","both"]
theorem aEm:aA0 aFp ["self","a","b"] (aAd aFf):=⟨rfl,rfl,rfl,by decide+kernel,rfl,by decide+kernel,by decide+kernel⟩
def aFa (t:Adr):Rho->Option Out:=
  (aAi (bBy 3)
  (aAi (aF0 1 (gN2 4 5) (aAi (aF0 2 (gN2 6 7) (aAi (aDy 8 (f1 toT (f1 bBo (b2 aBd (look 4) (look 6)))))
  (aAi (aN4 3 8 (b2 aBd (aPd 3 8 (con (.int 0))) (b2 aCn (look 5) (look 7))))
  aAp)))
  aAp))
  (aAi (aB7 (f1 toT (aXq 3)))
  aAp)))
theorem aRs (T:Txt K mg t){k:Nat}{cdv:Value}{A:Around}{outer:List Env}{s:Shared}{H:Hp}{E:XK}(hr:aDm k (A.deeper (envOfC "Sums.times" (aAd aFf) s.heap.objs.size t.aFk cdv)))(B:Hp):
  PDB (cxN P w K mg base aFp "Sums.times" (aAd aFf) t.aFk cdv A outer s H E) B (aAt aFf) (aFa t):=
 by
 refine aAa ?_ ?_;(exact aYi (i:=3) (aEm).nd rfl (Or.inl rfl));(refine aAa ?_ ?_;(refine aGv 1 rfl (Or.inl rfl) PassesOwn.never rfl (fun B=> ?_) (fun B=> ?_);(exact aNf (i:=4) (j:=5) rfl (aEm).nd rfl (Or.inl rfl) rfl (Or.inl rfl));(refine aAa ?_ ?_;(refine aGv 2 rfl (Or.inl rfl) PassesOwn.never rfl (fun B=> ?_) (fun B=> ?_);(exact aNf (i:=6) (j:=7) rfl (aEm).nd rfl (Or.inl rfl) rfl (Or.inl rfl));(refine aAa ?_ ?_;(refine aA9 (i:=8) (aEm).nd rfl (Or.inl rfl) ?_;(refine aKz rfl T.aH8 ?_;(refine aQx rfl rfl T.aH9 ?_;(refine aB3 ?_ ?_;(exact aAb 4);(exact aAb 6)))));(refine aAa ?_ ?_;(refine aR7 hr 3 8 ?_;(refine aB3 ?_ ?_;(refine aSa hr 3 8 ?_;(exact aAj));(refine aF2 ?_ ?_;(exact aAb 5);(exact aAb 7))));(exact aAh))));(exact aAh)));(refine aAa ?_ ?_;(refine aAr ?_;(refine aKz rfl T.aH8 ?_;(exact aLt hr (by rfl) (by rfl) T.aH9 3)));(exact aAh)))
theorem aSj (T:Txt K mg t){k:Nat}{F:List D->M D}(hL: ∀ds r,F ds=some r->ds.length=3)(hq: ∀ds r,F ds=some r->∃d,r= .ok d/\aAn (aFa t (aBg aFp ds))=ok d):Mth P w K mg base (k+1) t.aBr "times" F:=by
 obtain⟨fd,Fu,bi⟩:=T.aMr;exact⟨_,_,_,T.aXt,T.aK7,bi,hL,aLl Fu aEm hL fun cdv A outer s H E hr=>⟨_,fun B=>aRs T hr B,hq⟩⟩
def aZv:List Str:=["name"]
theorem bKh:aA0 aZv ["name"] (aAd aT3):=⟨rfl,rfl,rfl,by decide+kernel,rfl,by decide+kernel,by decide+kernel⟩
def aTc (t:Adr):Rho->Option Out:=
  (aAi (aB7 (mkT (aAe (mkT (aAe (mkT (aAe (look 0) aA3)) (aAe (con (.int 1)) aA3))) aA3)))
  aAp)
theorem bJ5 (T:Txt K mg t){k:Nat}{cdv:Value}{A:Around}{outer:List Env}{s:Shared}{H:Hp}{E:XK}(hr:aDm k (A.deeper (envOfC "bare" (aAd aT3) s.heap.objs.size t.aU8 cdv)))(B:Hp):
  PDB (cxN P w K mg base aZv "bare" (aAd aT3) t.aU8 cdv A outer s H E) B (aAt aT3) (aTc t):=
 by
 refine aAa ?_ ?_;(refine aAr ?_;(refine aIx ?_;(refine aAc ?_ ?_;(refine aIx ?_;(refine aAc ?_ ?_;(refine aIx ?_;(refine aAc ?_ ?_;(exact aAb 0);(exact aAk)));(refine aAc ?_ ?_;(exact aAj);(exact aAk))));(exact aAk))));(exact aAh)
theorem bLl (T:Txt K mg t){k:Nat}{F:List D->M D}(hL: ∀ds r,F ds=some r->ds.length=1)(hq: ∀ds r,F ds=some r->∃d,r= .ok d/\aAn (aTc t (aBg aZv ds))=ok d):Def P w K mg base (k+1) "bare" F:=by
 obtain⟨fd,Fu,bi⟩:=T.aJ4;exact⟨_,_,_,T.bJg,Fu.kp,bi,hL,aLl Fu bKh hL fun cdv A outer s H E hr=>⟨_,fun B=>bJ5 T hr B,hq⟩⟩
def aFo:List Str:=["way","many","mark","ones","double","left"]
theorem aC0:aA0 aFo ["way","many","mark"] (aAd aFd):=⟨rfl,rfl,rfl,by decide+kernel,rfl,by decide+kernel,by decide+kernel⟩
def aE9 (t:Adr)(aFz:Addr->Option (List D->M D))(aEf:Addr->Option (List D->M D)):Rho->Option Out:=
  (aAi (aDy 3 (fld (cs t) "nought" (look 0)))
  (aAi (aDy 4 (fld (cs t) "one" (look 0)))
  (aAi (aDy 5 (look 1))
  (aAi (aIt (aA2 (b2 gGt (look 5) (con (.int 0)))) (aAi (sIf (aA2 (b2 gEq (b2 aC1 (look 5) (con (.int 2))) (con (.int 1)))) (aAi (aDy 3 (aTn "plus" aFz (look 0) (aAe (look 3) (aAe (look 4) aA3))))
  aAp) aAp)
  (aAi (aDy 4 (aTn "plus" aFz (look 0) (aAe (look 4) (aAe (look 4) aA3))))
  (aAi (aDy 5 (b2 aB9 (look 5) (con (.int 2))))
  aAp))))
  (aAi (aB7 (aTn "times" aEf (look 0) (aAe (look 3) (aAe (look 2) aA3))))
  aAp)))))
theorem aRq (T:Txt K mg t){k:Nat}{aFz:Addr->Option (List D->M D)}(aJc: ∀C F,aFz C=some F->Mth P w K mg base k C "plus" F){aEf:Addr->Option (List D->M D)}(aIc: ∀C F,aEf C=some F->Mth P w K mg base k C "times" F){cdv:Value}{A:Around}{outer:List Env}{s:Shared}{H:Hp}{E:XK}(hr:aDm k (A.deeper (envOfC "times_over" (aAd aFd) s.heap.objs.size t.aFi cdv)))(B:Hp):
  PDB (cxN P w K mg base aFo "times_over" (aAd aFd) t.aFi cdv A outer s H E) B (aAt aFd) (aE9 t aFz aEf):=
 by
 refine aAa ?_ ?_;(refine aA9 (i:=3) (aC0).nd rfl (Or.inl rfl) ?_;(refine aQ0 (f:="nought") (T.aFh) ?_;(exact aAb 0)));(refine aAa ?_ ?_;(refine aA9 (i:=4) (aC0).nd rfl (Or.inl rfl) ?_;(refine aQ0 (f:="one") (T.aMi) ?_;(exact aAb 0)));(refine aAa ?_ ?_;(refine aA9 (i:=5) (aC0).nd rfl (Or.inl rfl) ?_;(exact aAb 1));(refine aAa ?_ ?_;(refine aUd PassesOwn.never ?_ ?_;(refine bIz ?_ ?_;(exact aAb 5);(exact aAj));(refine aAa ?_ ?_;(refine aCa ?_ ?_ ?_;(refine aKw ?_ ?_;(refine aCm ?_ ?_;(exact aAb 5);(exact aAj));(exact aAj));(refine aAa ?_ ?_;(refine aA9 (i:=3) (aC0).nd rfl (Or.inl rfl) ?_;(refine aOa aJc hr ?_ ?_;(exact aAb 0);(refine aAc ?_ ?_;(exact aAb 3);(refine aAc ?_ ?_;(exact aAb 4);(exact aAk)))));(exact aAh));(exact aAh));(refine aAa ?_ ?_;(refine aA9 (i:=4) (aC0).nd rfl (Or.inl rfl) ?_;(refine aOa aJc hr ?_ ?_;(exact aAb 0);(refine aAc ?_ ?_;(exact aAb 4);(refine aAc ?_ ?_;(exact aAb 4);(exact aAk)))));(refine aAa ?_ ?_;(refine aA9 (i:=5) (aC0).nd rfl (Or.inl rfl) ?_;(refine aEd ?_ ?_;(exact aAb 5);(exact aAj)));(exact aAh)))));(refine aAa ?_ ?_;(refine aAr ?_;(refine aOa aIc hr ?_ ?_;(exact aAb 0);(refine aAc ?_ ?_;(exact aAb 3);(refine aAc ?_ ?_;(exact aAb 2);(exact aAk)))));(exact aAh)))))
theorem aSf (T:Txt K mg t){k:Nat}{aFz:Addr->Option (List D->M D)}(aJc: ∀C F,aFz C=some F->Mth P w K mg base k C "plus" F){aEf:Addr->Option (List D->M D)}(aIc: ∀C F,aEf C=some F->Mth P w K mg base k C "times" F){F:List D->M D}(hL: ∀ds r,F ds=some r->ds.length=3)(hq: ∀ds r,F ds=some r->∃d,r= .ok d/\aAn (aE9 t aFz aEf (aBg aFo ds))=ok d):Def P w K mg base (k+1) "times_over" F:=by
 obtain⟨fd,Fu,bi⟩:=T.aAl;exact⟨_,_,_,T.aMk,Fu.kp,bi,hL,aLl Fu aC0 hL fun cdv A outer s H E hr=>⟨_,fun B=>aRq T aJc aIc hr B,hq⟩⟩
def aL7:List Str:=["some","way","marks"]
def aRi:List Str:=["?0","way","marks","product","many"]
theorem bAj:aRi.Nodup:=by decide+kernel
theorem bF9:aA0 aL7 ["some","way","marks"] (aAd aN1):=⟨rfl,rfl,rfl,by decide+kernel,rfl,by decide+kernel,by decide+kernel⟩
def aI8 (t:Adr)(aBo:List D->M D)(aDf:List D->M D)(aBb:List D->M D)(aAl:List D->M D):Rho->Option Out:=
  (aAi (aP8 (app aBo (aAe (look 0) (aAe (look 2) aA3))))
  (aAi (aB7 (app aDf (aAe (look 1) (aAe (cmp 2 (itE (look 0)) [3,4] h2 (fun _=>ok true) (app aAl (aAe (look 1) (aAe (look 4) (aAe (app aBb (aAe (look 3) (aAe (look 1) (aAe (look 2) aA3)))) aA3))))) aA3))))
  aAp))
theorem bFz (T:Txt K mg t){k:Nat}{aBo:List D->M D}(aIb:Def P w K mg base k "check_names" aBo){aDf:List D->M D}(aL8:Def P w K mg base k "plus_all" aDf){aBb:List D->M D}(aGr:Def P w K mg base k "product_worth" aBb){aAl:List D->M D}(aBa:Def P w K mg base k "times_over" aAl){cdv:Value}{A:Around}{outer:List Env}{s:Shared}{H:Hp}{E:XK}(hr:aDm k (A.deeper (envOfC "worth" (aAd aN1) s.heap.objs.size t.aPa cdv)))(B:Hp):
  PDB (cxX P w K mg base aL7 "worth" (aAd aN1) t.aPa cdv A outer s H E) B (aAt aN1) (aI8 t aBo aDf aBb aAl):=
 by
 refine aAa ?_ ?_;(refine aYj ?_;(refine aAx aIb hr rfl ?_;(refine aAc ?_ ?_;(exact aAb 0);(refine aAc ?_ ?_;(exact aAb 2);(exact aAk)))));(refine aAa ?_ ?_;(refine aAr ?_;(refine aAx aL8 hr rfl ?_;(refine aAc ?_ ?_;(exact aAb 1);(refine aAc ?_ ?_;(refine aSb (N':=aRi) (m:=2) (ks:=[3,4]) rfl rfl rfl rfl (by repeat (first | exact aUt | refine aOr rfl (by first | exact Or.inl rfl | exact Or.inr rfl) ?_)) rfl rfl rfl rfl rfl ?_ (fun C s₀ H₀ ex=> ?_) (fun C s₀ H₀ ex B=> ?_) (fun C s₀ H₀ ex B=> ?_);(refine bKv ?_;(exact aAb 0));(exact bSe rfl bAj rfl (Or.inl rfl) rfl (Or.inl rfl));(exact aKv);(refine aAx aBa hr rfl ?_;(refine aAc ?_ ?_;(exact aAb 1);(refine aAc ?_ ?_;(exact aAb 4);(refine aAc ?_ ?_;(refine aAx aGr hr rfl ?_;(refine aAc ?_ ?_;(exact aAb 3);(refine aAc ?_ ?_;(exact aAb 1);(refine aAc ?_ ?_;(exact aAb 2);(exact aAk)))));(exact aAk))))));(exact aAk)))));(exact aAh))
theorem bG9 (T:Txt K mg t){k:Nat}{aBo:List D->M D}(aIb:Def P w K mg base k "check_names" aBo){aDf:List D->M D}(aL8:Def P w K mg base k "plus_all" aDf){aBb:List D->M D}(aGr:Def P w K mg base k "product_worth" aBb){aAl:List D->M D}(aBa:Def P w K mg base k "times_over" aAl){F:List D->M D}(hL: ∀ds r,F ds=some r->ds.length=3)(hq: ∀ds r,F ds=some r->aAn (aI8 t aBo aDf aBb aAl (aBg aL7 ds))=some r):Def P w K mg base (k+1) "worth" F:=by
 obtain⟨fd,Fu,bi⟩:=T.aCg;exact⟨_,_,_,T.bEb,Fu.kp,bi,hL,bT3 Fu bF9 hL fun cdv A outer s H E hr=>⟨_,fun B=>bFz T aIb aL8 aGr aBa hr B,hq⟩⟩
def aE4:List Str:=["some","marks","name"]
theorem aJu:aA0 aE4 ["some","marks"] (aAd aEo):=⟨rfl,rfl,rfl,by decide+kernel,rfl,by decide+kernel,by decide+kernel⟩
def aE2 (t:Adr)(aDg:List D->M D):Rho->Option Out:=
  (aAi (bB4 (app aDg (aAe (look 0) aA3)) (gN 2) (aAi (sIf (aA2 (b2 (bJk true) (look 2) (look 1))) (aAi (aN3 t.aAu (aAe (jnd (bNa "no mark is told for " (bP2 (look 2) bM9))) aA3))
  aAp) aAp)
  aAp))
  aAp)
theorem aPz (T:Txt K mg t){k:Nat}{aDg:List D->M D}(aL9:Def P w K mg base k "names_in" aDg){cdv:Value}{A:Around}{outer:List Env}{s:Shared}{H:Hp}{E:XK}(hr:aDm k (A.deeper (envOfC "check_names" (aAd aEo) s.heap.objs.size t.aEw cdv)))(B:Hp):
  PDB (cxX P w K mg base aE4 "check_names" (aAd aEo) t.aEw cdv A outer s H E) B (aAt aEo) (aE2 t aDg):=
 by
 refine aAa ?_ ?_;(refine bGx PassesOwn.leaving rfl ?_ (fun B=> ?_) (fun B=> ?_);(refine aAx aL9 hr rfl ?_;(refine aAc ?_ ?_;(exact aAb 0);(exact aAk)));(exact aE8 (i:=2) (aJu).nd rfl (Or.inl rfl));(refine aAa ?_ ?_;(refine aCa ?_ ?_ ?_;(refine bAd hr ?_ ?_;(exact aAb 2);(exact aAb 1));(refine aAa ?_ ?_;(refine aUe PySem.F.excBase_ValueError T.aTp T.aS2 rfl rfl ?_;(refine aAc ?_ ?_;(refine bCs ?_;(refine bOo ?_;(refine bOm ?_ ?_;(exact aAb 2);(exact bOn))));(exact aAk)));(exact aAh));(exact aAh));(exact aAh)));(exact aAh)
theorem aQa (T:Txt K mg t){k:Nat}{aDg:List D->M D}(aL9:Def P w K mg base k "names_in" aDg){F:List D->M D}(hL: ∀ds r,F ds=some r->ds.length=2)(hq: ∀ds r,F ds=some r->aAn (aE2 t aDg (aBg aE4 ds))=some r):Def P w K mg base (k+1) "check_names" F:=by
 obtain⟨fd,Fu,bi⟩:=T.aBo;exact⟨_,_,_,T.aLa,Fu.kp,bi,hL,bT3 Fu aJu hL fun cdv A outer s H E hr=>⟨_,fun B=>aPz T aL9 hr B,hq⟩⟩
def aDs:List Str:=["product","way","marks","mark","name"]
theorem aEb:aA0 aDs ["product","way","marks"] (aAd aDo):=⟨rfl,rfl,rfl,by decide+kernel,rfl,by decide+kernel,by decide+kernel⟩
def aDw (t:Adr)(aEf:Addr->Option (List D->M D)):Rho->Option Out:=
  (aAi (aDy 3 (fld (cs t) "one" (look 1)))
  (aAi (aF0 0 (gN 4) (aAi (aDy 3 (aTn "times" aEf (look 1) (aAe (look 3) (aAe (b2 aU4 (look 2) (look 4)) aA3))))
  aAp))
  (aAi (aB7 (look 3))
  aAp)))
theorem aMv (T:Txt K mg t){k:Nat}{aEf:Addr->Option (List D->M D)}(aIc: ∀C F,aEf C=some F->Mth P w K mg base k C "times" F){cdv:Value}{A:Around}{outer:List Env}{s:Shared}{H:Hp}{E:XK}(hr:aDm k (A.deeper (envOfC "product_worth" (aAd aDo) s.heap.objs.size t.aDq cdv)))(B:Hp):
  PDB (cxN P w K mg base aDs "product_worth" (aAd aDo) t.aDq cdv A outer s H E) B (aAt aDo) (aDw t aEf):=
 by
 refine aAa ?_ ?_;(refine aA9 (i:=3) (aEb).nd rfl (Or.inl rfl) ?_;(refine aQ0 (f:="one") (T.aMi) ?_;(exact aAb 1)));(refine aAa ?_ ?_;(refine aGv 0 rfl (Or.inl rfl) PassesOwn.never rfl (fun B=> ?_) (fun B=> ?_);(exact aE8 (i:=4) (aEb).nd rfl (Or.inl rfl));(refine aAa ?_ ?_;(refine aA9 (i:=3) (aEb).nd rfl (Or.inl rfl) ?_;(refine aOa aIc hr ?_ ?_;(exact aAb 1);(refine aAc ?_ ?_;(exact aAb 3);(refine aAc ?_ ?_;(refine aOb hr ?_ ?_;(exact aAb 2);(exact aAb 4));(exact aAk)))));(exact aAh)));(refine aAa ?_ ?_;(refine aAr ?_;(exact aAb 3));(exact aAh)))
theorem aMz (T:Txt K mg t){k:Nat}{aEf:Addr->Option (List D->M D)}(aIc: ∀C F,aEf C=some F->Mth P w K mg base k C "times" F){F:List D->M D}(hL: ∀ds r,F ds=some r->ds.length=3)(hq: ∀ds r,F ds=some r->∃d,r= .ok d/\aAn (aDw t aEf (aBg aDs ds))=ok d):Def P w K mg base (k+1) "product_worth" F:=by
 obtain⟨fd,Fu,bi⟩:=T.aBb;exact⟨_,_,_,T.aI3,Fu.kp,bi,hL,aLl Fu aEb hL fun cdv A outer s H E hr=>⟨_,fun B=>aMv T aIc hr B,hq⟩⟩
def aHt:List Str:=["some","names","entry"]
theorem aJ8:aA0 aHt ["some"] (aAd aHb):=⟨rfl,rfl,rfl,by decide+kernel,rfl,by decide+kernel,by decide+kernel⟩
def aGy (t:Adr):Rho->Option Out:=
  (aAi (sNew 1 aA3)
  (aAi (aF0 0 (gN 2) (aAi (aZ7 1 (aAe (b2 gIx (look 2) (con (.int 0))) aA3))
  aAp))
  (aAi (aB7 (f1 bNs (f1 toS (look 1))))
  aAp)))
theorem aV9 (T:Txt K mg t){k:Nat}{cdv:Value}{A:Around}{outer:List Env}{s:Shared}{H:Hp}{E:XK}(hr:aDm k (A.deeper (envOfC "names_in" (aAd aHb) s.heap.objs.size t.aHl cdv)))(B:Hp):
  PDB (cxN P w K mg base aHt "names_in" (aAd aHb) t.aHl cdv A outer s H E) B (aAt aHb) (aGy t):=
 by
 refine aAa ?_ ?_;(refine aWr (i:=1) (aJ8).nd rfl (Or.inl rfl) ?_;(exact aAk));(refine aAa ?_ ?_;(refine aGv 0 rfl (Or.inl rfl) PassesOwn.never rfl (fun B=> ?_) (fun B=> ?_);(exact aE8 (i:=2) (aJ8).nd rfl (Or.inl rfl));(refine aAa ?_ ?_;(refine aWs (i:=1) rfl (Or.inl rfl) ?_;(refine aFq ?_ ?_ (fun _ _=>rfl);(exact aAb 2);(exact aAj)));(exact aAh)));(refine aAa ?_ ?_;(refine aAr ?_;(refine bCq rfl rfl T.aH9 ?_;(refine bOy rfl rfl T.bQw ?_;(exact aAb 1))));(exact aAh)))
theorem aW0 (T:Txt K mg t){k:Nat}{F:List D->M D}(hL: ∀ds r,F ds=some r->ds.length=1)(hq: ∀ds r,F ds=some r->∃d,r= .ok d/\aAn (aGy t (aBg aHt ds))=ok d):Def P w K mg base (k+1) "names_in" F:=by
 obtain⟨fd,Fu,bi⟩:=T.aDg;exact⟨_,_,_,T.aQ9,Fu.kp,bi,hL,aLl Fu aJ8 hL fun cdv A outer s H E hr=>⟨_,fun B=>aV9 T hr B,hq⟩⟩
def aCt:List Str:=["self"]
theorem aKq:aA0 aCt ["self"] (aAd aCj):=⟨rfl,rfl,rfl,by decide+kernel,rfl,by decide+kernel,by decide+kernel⟩
def aC2 (t:Adr):Rho->Option Out:=
  (aAi (aJq (cs t) 0 "nought" (con (.bl false)))
  (aAi (aJq (cs t) 0 "one" (con (.bl true)))
  aAp))
theorem aKm (T:Txt K mg t){k:Nat}{cdv:Value}{A:Around}{outer:List Env}{s:Shared}{H:Hp}{E:XK}(hr:aDm k (A.deeper (envOfC "Truths.__init__" (aAd aCj) s.heap.objs.size t.aCo cdv)))(B:Hp):
  PDB (cxN P w K mg base aCt "Truths.__init__" (aAd aCj) t.aCo cdv A outer s H E) B (aAt aCj) (aC2 t):=
 by
 refine aAa ?_ ?_;(refine aE7 (f:="nought") (i:=0) (T.aFh) rfl (Or.inl rfl) ?_;(exact aIy));(refine aAa ?_ ?_;(refine aE7 (f:="one") (i:=0) (T.aMi) rfl (Or.inl rfl) ?_;(exact aIy));(exact aAh))
theorem aK1 (T:Txt K mg t){k:Nat}{F:List D->M (List (Str×D))}(hL: ∀ds r,F ds=some r->ds.length+1=1)(hq: ∀ds r a dx,F ds=some r->∃fs,r= .ok fs/\aE5 a t.aAw dx (aC2 t (aNc aCt a t.aAw dx ds))=ok fs):Ctor P w K mg base (k+1) "Truths" t.aAw F:=by
 obtain⟨fd,Fu,bi⟩:=T.aHw;exact⟨_,_,_,T.aY8,T.aUp,bi,hL,aY4 Fu aKq hL fun cdv A outer s H E hr=>⟨_,fun B=>aKm T hr B,hq⟩⟩
def aCb:List Str:=["self","a","b"]
theorem aP4:aA0 aCb ["self","a","b"] (aAd aEp):=⟨rfl,rfl,rfl,by decide+kernel,rfl,by decide+kernel,by decide+kernel⟩
def aB5 (t:Adr):Rho->Option Out:=
  (aAi (aB7 (orV (look 1) (look 2)))
  aAp)
theorem aP0 (T:Txt K mg t){k:Nat}{cdv:Value}{A:Around}{outer:List Env}{s:Shared}{H:Hp}{E:XK}(hr:aDm k (A.deeper (envOfC "Truths.plus" (aAd aEp) s.heap.objs.size t.aEx cdv)))(B:Hp):
  PDB (cxN P w K mg base aCb "Truths.plus" (aAd aEp) t.aEx cdv A outer s H E) B (aAt aEp) (aB5 t):=
 by
 refine aAa ?_ ?_;(refine aAr ?_;(refine bSf ?_ ?_;(exact aAb 1);(refine aQz ?_;(exact aAb 2))));(exact aAh)
theorem aQb (T:Txt K mg t){k:Nat}{F:List D->M D}(hL: ∀ds r,F ds=some r->ds.length=3)(hq: ∀ds r,F ds=some r->∃d,r= .ok d/\aAn (aB5 t (aBg aCb ds))=ok d):Mth P w K mg base (k+1) t.aAw "plus" F:=by
 obtain⟨fd,Fu,bi⟩:=T.aLg;exact⟨_,_,_,T.aPh,T.aJx,bi,hL,aLl Fu aP4 hL fun cdv A outer s H E hr=>⟨_,fun B=>aP0 T hr B,hq⟩⟩
def aBz:List Str:=["self","a","b"]
theorem aNy:aA0 aBz ["self","a","b"] (aAd aD1):=⟨rfl,rfl,rfl,by decide+kernel,rfl,by decide+kernel,by decide+kernel⟩
def aBs (t:Adr):Rho->Option Out:=
  (aAi (aB7 (aV0 (look 1) (look 2)))
  aAp)
theorem aNo (T:Txt K mg t){k:Nat}{cdv:Value}{A:Around}{outer:List Env}{s:Shared}{H:Hp}{E:XK}(hr:aDm k (A.deeper (envOfC "Truths.times" (aAd aD1) s.heap.objs.size t.aD5 cdv)))(B:Hp):
  PDB (cxN P w K mg base aBz "Truths.times" (aAd aD1) t.aD5 cdv A outer s H E) B (aAt aD1) (aBs t):=
 by
 refine aAa ?_ ?_;(refine aAr ?_;(refine aQ1 ?_ ?_;(exact aAb 1);(refine aQz ?_;(exact aAb 2))));(exact aAh)
theorem aOg (T:Txt K mg t){k:Nat}{F:List D->M D}(hL: ∀ds r,F ds=some r->ds.length=3)(hq: ∀ds r,F ds=some r->∃d,r= .ok d/\aAn (aBs t (aBg aBz ds))=ok d):Mth P w K mg base (k+1) t.aAw "times" F:=by
 obtain⟨fd,Fu,bi⟩:=T.aJ5;exact⟨_,_,_,T.aPh,T.aI0,bi,hL,aLl Fu aNy hL fun cdv A outer s H E hr=>⟨_,fun B=>aNo T hr B,hq⟩⟩
def aCv:List Str:=["self"]
theorem aKs:aA0 aCv ["self"] (aAd aCl):=⟨rfl,rfl,rfl,by decide+kernel,rfl,by decide+kernel,by decide+kernel⟩
def aC4 (t:Adr):Rho->Option Out:=
  (aAi (aJq (cs t) 0 "nought" (con (.int 0)))
  (aAi (aJq (cs t) 0 "one" (con (.int 1)))
  aAp))
theorem aKo (T:Txt K mg t){k:Nat}{cdv:Value}{A:Around}{outer:List Env}{s:Shared}{H:Hp}{E:XK}(hr:aDm k (A.deeper (envOfC "Counts.__init__" (aAd aCl) s.heap.objs.size t.aCq cdv)))(B:Hp):
  PDB (cxN P w K mg base aCv "Counts.__init__" (aAd aCl) t.aCq cdv A outer s H E) B (aAt aCl) (aC4 t):=
 by
 refine aAa ?_ ?_;(refine aE7 (f:="nought") (i:=0) (T.aFh) rfl (Or.inl rfl) ?_;(exact aAj));(refine aAa ?_ ?_;(refine aE7 (f:="one") (i:=0) (T.aMi) rfl (Or.inl rfl) ?_;(exact aAj));(exact aAh))
theorem aK3 (T:Txt K mg t){k:Nat}{F:List D->M (List (Str×D))}(hL: ∀ds r,F ds=some r->ds.length+1=1)(hq: ∀ds r a dx,F ds=some r->∃fs,r= .ok fs/\aE5 a t.aAm dx (aC4 t (aNc aCv a t.aAm dx ds))=ok fs):Ctor P w K mg base (k+1) "Counts" t.aAm F:=by
 obtain⟨fd,Fu,bi⟩:=T.aHy;exact⟨_,_,_,T.aZa,T.aUr,bi,hL,aY4 Fu aKs hL fun cdv A outer s H E hr=>⟨_,fun B=>aKo T hr B,hq⟩⟩
def aC5:List Str:=["self","a","b"]
theorem aP6:aA0 aC5 ["self","a","b"] (aAd aEr):=⟨rfl,rfl,rfl,by decide+kernel,rfl,by decide+kernel,by decide+kernel⟩
def aCr (t:Adr):Rho->Option Out:=
  (aAi (aB7 (b2 aBd (look 1) (look 2)))
  aAp)
theorem aP2 (T:Txt K mg t){k:Nat}{cdv:Value}{A:Around}{outer:List Env}{s:Shared}{H:Hp}{E:XK}(hr:aDm k (A.deeper (envOfC "Counts.plus" (aAd aEr) s.heap.objs.size t.aEz cdv)))(B:Hp):
  PDB (cxN P w K mg base aC5 "Counts.plus" (aAd aEr) t.aEz cdv A outer s H E) B (aAt aEr) (aCr t):=
 by
 refine aAa ?_ ?_;(refine aAr ?_;(refine aB3 ?_ ?_;(exact aAb 1);(exact aAb 2)));(exact aAh)
theorem aQd (T:Txt K mg t){k:Nat}{F:List D->M D}(hL: ∀ds r,F ds=some r->ds.length=3)(hq: ∀ds r,F ds=some r->∃d,r= .ok d/\aAn (aCr t (aBg aC5 ds))=ok d):Mth P w K mg base (k+1) t.aAm "plus" F:=by
 obtain⟨fd,Fu,bi⟩:=T.aLi;exact⟨_,_,_,T.aPj,T.aJz,bi,hL,aLl Fu aP6 hL fun cdv A outer s H E hr=>⟨_,fun B=>aP2 T hr B,hq⟩⟩
def aB1:List Str:=["self","a","b"]
theorem aN0:aA0 aB1 ["self","a","b"] (aAd aD3):=⟨rfl,rfl,rfl,by decide+kernel,rfl,by decide+kernel,by decide+kernel⟩
def aBu (t:Adr):Rho->Option Out:=
  (aAi (aB7 (b2 aCn (look 1) (look 2)))
  aAp)
theorem aNq (T:Txt K mg t){k:Nat}{cdv:Value}{A:Around}{outer:List Env}{s:Shared}{H:Hp}{E:XK}(hr:aDm k (A.deeper (envOfC "Counts.times" (aAd aD3) s.heap.objs.size t.aD7 cdv)))(B:Hp):
  PDB (cxN P w K mg base aB1 "Counts.times" (aAd aD3) t.aD7 cdv A outer s H E) B (aAt aD3) (aBu t):=
 by
 refine aAa ?_ ?_;(refine aAr ?_;(refine aF2 ?_ ?_;(exact aAb 1);(exact aAb 2)));(exact aAh)
theorem aOi (T:Txt K mg t){k:Nat}{F:List D->M D}(hL: ∀ds r,F ds=some r->ds.length=3)(hq: ∀ds r,F ds=some r->∃d,r= .ok d/\aAn (aBu t (aBg aB1 ds))=ok d):Mth P w K mg base (k+1) t.aAm "times" F:=by
 obtain⟨fd,Fu,bi⟩:=T.aJ7;exact⟨_,_,_,T.aPj,T.aI2,bi,hL,aLl Fu aN0 hL fun cdv A outer s H E hr=>⟨_,fun B=>aNq T hr B,hq⟩⟩
def aCu:List Str:=["self","many"]
theorem aKr:aA0 aCu ["self","many"] (aAd aCk):=⟨rfl,rfl,rfl,by decide+kernel,rfl,by decide+kernel,by decide+kernel⟩
def aC3 (t:Adr)(aDj:List D->M D):Rho->Option Out:=
  (aAi (sIf (aM1 (test (app aDj (aAe (look 1) (aAe (con (.int 2)) aA3))))) (aAi (aN3 t.aD0 (aAe (con (.str "rounds go by a whole number from 2 on")) aA3))
  aAp) aAp)
  (aAi (bB5 (cs t) 0 "many" 1)
  (aAi (aJq (cs t) 0 "nought" (con (.int 0)))
  (aAi (aJq (cs t) 0 "one" (con (.int 1)))
  aAp))))
theorem aKn (T:Txt K mg t){k:Nat}{aDj:List D->M D}(aMc:Def P w K mg base k "is_whole" aDj){cdv:Value}{A:Around}{outer:List Env}{s:Shared}{H:Hp}{E:XK}(hr:aDm k (A.deeper (envOfC "Rounds.__init__" (aAd aCk) s.heap.objs.size t.aCp cdv)))(B:Hp):
  PDB (cxX P w K mg base aCu "Rounds.__init__" (aAd aCk) t.aCp cdv A outer s H E) B (aAt aCk) (aC3 t aDj):=
 by
 refine aAa ?_ ?_;(refine aCa ?_ ?_ ?_;(refine aIw ?_;(refine aG4 ?_;(refine aAx aMc hr rfl ?_;(refine aAc ?_ ?_;(exact aAb 1);(refine aAc ?_ ?_;(exact aAj);(exact aAk))))));(refine aAa ?_ ?_;(refine aUe PySem.F.excBase_ValueError T.aX1 T.bEc rfl rfl ?_;(refine aAc ?_ ?_;(exact aQw);(exact aAk)));(exact aAh));(exact aAh));(refine aAa ?_ ?_;(exact bGy (f:="many") (i:=0) (j:=1) (T.aSq) rfl (Or.inl rfl) rfl (Or.inl rfl));(refine aAa ?_ ?_;(refine aE7 (f:="nought") (i:=0) (T.aFh) rfl (Or.inl rfl) ?_;(exact aAj));(refine aAa ?_ ?_;(refine aE7 (f:="one") (i:=0) (T.aMi) rfl (Or.inl rfl) ?_;(exact aAj));(exact aAh))))
theorem aK2 (T:Txt K mg t){k:Nat}{aDj:List D->M D}(aMc:Def P w K mg base k "is_whole" aDj){F:List D->M (List (Str×D))}(hL: ∀ds r,F ds=some r->ds.length+1=2)(hq: ∀ds r a dx,F ds=some r->aS1 a t.aAq dx (aC3 t aDj (aNc aCu a t.aAq dx ds))=some r):Ctor P w K mg base (k+1) "Rounds" t.aAq F:=by
 obtain⟨fd,Fu,bi⟩:=T.aHx;exact⟨_,_,_,T.aY9,T.aUq,bi,hL,bP5 Fu aKr hL fun cdv A outer s H E hr=>⟨_,fun B=>aKn T aMc hr B,hq⟩⟩
def aCc:List Str:=["self","a","b"]
theorem aP5:aA0 aCc ["self","a","b"] (aAd aEq):=⟨rfl,rfl,rfl,by decide+kernel,rfl,by decide+kernel,by decide+kernel⟩
def aB6 (t:Adr):Rho->Option Out:=
  (aAi (aB7 (b2 aC1 (b2 aBd (look 1) (look 2)) (fld (cs t) "many" (look 0))))
  aAp)
theorem aP1 (T:Txt K mg t){k:Nat}{cdv:Value}{A:Around}{outer:List Env}{s:Shared}{H:Hp}{E:XK}(hr:aDm k (A.deeper (envOfC "Rounds.plus" (aAd aEq) s.heap.objs.size t.aEy cdv)))(B:Hp):
  PDB (cxN P w K mg base aCc "Rounds.plus" (aAd aEq) t.aEy cdv A outer s H E) B (aAt aEq) (aB6 t):=
 by
 refine aAa ?_ ?_;(refine aAr ?_;(refine aCm ?_ ?_;(refine aB3 ?_ ?_;(exact aAb 1);(exact aAb 2));(refine aQ0 (f:="many") (T.aSq) ?_;(exact aAb 0))));(exact aAh)
theorem aQc (T:Txt K mg t){k:Nat}{F:List D->M D}(hL: ∀ds r,F ds=some r->ds.length=3)(hq: ∀ds r,F ds=some r->∃d,r= .ok d/\aAn (aB6 t (aBg aCc ds))=ok d):Mth P w K mg base (k+1) t.aAq "plus" F:=by
 obtain⟨fd,Fu,bi⟩:=T.aLh;exact⟨_,_,_,T.aPi,T.aJy,bi,hL,aLl Fu aP5 hL fun cdv A outer s H E hr=>⟨_,fun B=>aP1 T hr B,hq⟩⟩
def aB0:List Str:=["self","a","b"]
theorem aNz:aA0 aB0 ["self","a","b"] (aAd aD2):=⟨rfl,rfl,rfl,by decide+kernel,rfl,by decide+kernel,by decide+kernel⟩
def aBt (t:Adr):Rho->Option Out:=
  (aAi (aB7 (b2 aC1 (b2 aCn (look 1) (look 2)) (fld (cs t) "many" (look 0))))
  aAp)
theorem aNp (T:Txt K mg t){k:Nat}{cdv:Value}{A:Around}{outer:List Env}{s:Shared}{H:Hp}{E:XK}(hr:aDm k (A.deeper (envOfC "Rounds.times" (aAd aD2) s.heap.objs.size t.aD6 cdv)))(B:Hp):
  PDB (cxN P w K mg base aB0 "Rounds.times" (aAd aD2) t.aD6 cdv A outer s H E) B (aAt aD2) (aBt t):=
 by
 refine aAa ?_ ?_;(refine aAr ?_;(refine aCm ?_ ?_;(refine aF2 ?_ ?_;(exact aAb 1);(exact aAb 2));(refine aQ0 (f:="many") (T.aSq) ?_;(exact aAb 0))));(exact aAh)
theorem aOh (T:Txt K mg t){k:Nat}{F:List D->M D}(hL: ∀ds r,F ds=some r->ds.length=3)(hq: ∀ds r,F ds=some r->∃d,r= .ok d/\aAn (aBt t (aBg aB0 ds))=ok d):Mth P w K mg base (k+1) t.aAq "times" F:=by
 obtain⟨fd,Fu,bi⟩:=T.aJ6;exact⟨_,_,_,T.aPi,T.aI1,bi,hL,aLl Fu aNz hL fun cdv A outer s H E hr=>⟨_,fun B=>aNp T hr B,hq⟩⟩
def aDd:List Str:=["self"]
theorem aLp:aA0 aDd ["self"] (aAd aC8):=⟨rfl,rfl,rfl,by decide+kernel,rfl,by decide+kernel,by decide+kernel⟩
def aDl (t:Adr):Rho->Option Out:=
  (aAi (aJq (cs t) 0 "nought" (con .non))
  (aAi (aJq (cs t) 0 "one" (con (.int 0)))
  aAp))
theorem aLn (T:Txt K mg t){k:Nat}{cdv:Value}{A:Around}{outer:List Env}{s:Shared}{H:Hp}{E:XK}(hr:aDm k (A.deeper (envOfC "Costs.__init__" (aAd aC8) s.heap.objs.size t.aDa cdv)))(B:Hp):
  PDB (cxN P w K mg base aDd "Costs.__init__" (aAd aC8) t.aDa cdv A outer s H E) B (aAt aC8) (aDl t):=
 by
 refine aAa ?_ ?_;(refine aE7 (f:="nought") (i:=0) (T.aFh) rfl (Or.inl rfl) ?_;(exact aHh));(refine aAa ?_ ?_;(refine aE7 (f:="one") (i:=0) (T.aMi) rfl (Or.inl rfl) ?_;(exact aAj));(exact aAh))
theorem aLw (T:Txt K mg t){k:Nat}{F:List D->M (List (Str×D))}(hL: ∀ds r,F ds=some r->ds.length+1=1)(hq: ∀ds r a dx,F ds=some r->∃fs,r= .ok fs/\aE5 a t.aAz dx (aDl t (aNc aDd a t.aAz dx ds))=ok fs):Ctor P w K mg base (k+1) "Costs" t.aAz F:=by
 obtain⟨fd,Fu,bi⟩:=T.aIk;exact⟨_,_,_,T.bEd,T.aYq,bi,hL,aY4 Fu aLp hL fun cdv A outer s H E hr=>⟨_,fun B=>aLn T hr B,hq⟩⟩
def aCy:List Str:=["self","a","b"]
theorem aR0:aA0 aCy ["self","a","b"] (aAd aFg):=⟨rfl,rfl,rfl,by decide+kernel,rfl,by decide+kernel,by decide+kernel⟩
def aDe (t:Adr):Rho->Option Out:=
  (aAi (sIf (aA2 (b2 gIs (look 1) (con .non))) (aAi (aB7 (look 2))
  aAp) aAp)
  (aAi (sIf (aA2 (b2 gIs (look 2) (con .non))) (aAi (aB7 (look 1))
  aAp) aAp)
  (aAi (aB7 (b2 bT1 (look 1) (look 2)))
  aAp)))
theorem aRt (T:Txt K mg t){k:Nat}{cdv:Value}{A:Around}{outer:List Env}{s:Shared}{H:Hp}{E:XK}(hr:aDm k (A.deeper (envOfC "Costs.plus" (aAd aFg) s.heap.objs.size t.aFl cdv)))(B:Hp):
  PDB (cxN P w K mg base aCy "Costs.plus" (aAd aFg) t.aFl cdv A outer s H E) B (aAt aFg) (aDe t):=
 by
 refine aAa ?_ ?_;(refine aCa ?_ ?_ ?_;(refine aQv ?_ ?_;(exact aAb 1);(exact aHh));(refine aAa ?_ ?_;(refine aAr ?_;(exact aAb 2));(exact aAh));(exact aAh));(refine aAa ?_ ?_;(refine aCa ?_ ?_ ?_;(refine aQv ?_ ?_;(exact aAb 2);(exact aHh));(refine aAa ?_ ?_;(refine aAr ?_;(exact aAb 1));(exact aAh));(exact aAh));(refine aAa ?_ ?_;(refine aAr ?_;(refine bK3 rfl rfl T.bQx ?_ ?_;(exact aAb 1);(exact aAb 2)));(exact aAh)))
theorem aSk (T:Txt K mg t){k:Nat}{F:List D->M D}(hL: ∀ds r,F ds=some r->ds.length=3)(hq: ∀ds r,F ds=some r->∃d,r= .ok d/\aAn (aDe t (aBg aCy ds))=ok d):Mth P w K mg base (k+1) t.aAz "plus" F:=by
 obtain⟨fd,Fu,bi⟩:=T.aMs;exact⟨_,_,_,T.aTf,T.aK8,bi,hL,aLl Fu aR0 hL fun cdv A outer s H E hr=>⟨_,fun B=>aRt T hr B,hq⟩⟩
def aCd:List Str:=["self","a","b"]
theorem aP7:aA0 aCd ["self","a","b"] (aAd aEs):=⟨rfl,rfl,rfl,by decide+kernel,rfl,by decide+kernel,by decide+kernel⟩
def aCs (t:Adr):Rho->Option Out:=
  (aAi (sIf (orB (aA2 (b2 gIs (look 1) (con .non))) (aA2 (b2 gIs (look 2) (con .non)))) (aAi (aB7 (con .non))
  aAp) aAp)
  (aAi (aB7 (b2 aBd (look 1) (look 2)))
  aAp))
theorem aP3 (T:Txt K mg t){k:Nat}{cdv:Value}{A:Around}{outer:List Env}{s:Shared}{H:Hp}{E:XK}(hr:aDm k (A.deeper (envOfC "Costs.times" (aAd aEs) s.heap.objs.size t.aE0 cdv)))(B:Hp):
  PDB (cxN P w K mg base aCd "Costs.times" (aAd aEs) t.aE0 cdv A outer s H E) B (aAt aEs) (aCs t):=
 by
 refine aAa ?_ ?_;(refine aCa ?_ ?_ ?_;(refine PDW.pdt ?_;(refine aUc ?_ ?_;(refine aQv ?_ ?_;(exact aAb 1);(exact aHh));(refine aN9 ?_;(refine aQv ?_ ?_;(exact aAb 2);(exact aHh)))));(refine aAa ?_ ?_;(refine aAr ?_;(exact aHh));(exact aAh));(exact aAh));(refine aAa ?_ ?_;(refine aAr ?_;(refine aB3 ?_ ?_;(exact aAb 1);(exact aAb 2)));(exact aAh))
theorem aQe (T:Txt K mg t){k:Nat}{F:List D->M D}(hL: ∀ds r,F ds=some r->ds.length=3)(hq: ∀ds r,F ds=some r->∃d,r= .ok d/\aAn (aCs t (aBg aCd ds))=ok d):Mth P w K mg base (k+1) t.aAz "times" F:=by
 obtain⟨fd,Fu,bi⟩:=T.aLj;exact⟨_,_,_,T.aTf,T.aJ0,bi,hL,aLl Fu aP7 hL fun cdv A outer s H E hr=>⟨_,fun B=>aP3 T hr B,hq⟩⟩
def aNj:List Str:=["_law_script","_law_k"]
theorem bBv:aA0 aNj ["_law_script","_law_k"] (aAd aKt):=⟨rfl,rfl,rfl,by decide+kernel,rfl,by decide+kernel,by decide+kernel⟩
def aRf (t:Adr):Rho->Option Out:=
  (aAi (sIf (aA2 (b2 gLt (look 1) (f1 aF7 (look 0)))) (aAi (aB7 (b2 gIx (look 0) (look 1)))
  aAp) aAp)
  (aAi (aB7 (con (.int 0)))
  aAp))
theorem bBg (T:Txt K mg t){k:Nat}{cdv:Value}{A:Around}{outer:List Env}{s:Shared}{H:Hp}{E:XK}(hr:aDm k (A.deeper (envOfC "_law_at" (aAd aKt) s.heap.objs.size t.aLd cdv)))(B:Hp):
  PDB (cxN P w K mg base aNj "_law_at" (aAd aKt) t.aLd cdv A outer s H E) B (aAt aKt) (aRf t):=
 by
 refine aAa ?_ ?_;(refine aCa ?_ ?_ ?_;(refine bIy ?_ ?_;(exact aAb 1);(refine aJv rfl T.aM7 ?_;(exact aAb 0)));(refine aAa ?_ ?_;(refine aAr ?_;(refine aFq ?_ ?_ (fun _ _=>rfl);(exact aAb 0);(exact aAb 1)));(exact aAh));(exact aAh));(refine aAa ?_ ?_;(refine aAr ?_;(exact aAj));(exact aAh))
theorem bC3 (T:Txt K mg t){k:Nat}{F:List D->M D}(hL: ∀ds r,F ds=some r->ds.length=2)(hq: ∀ds r,F ds=some r->∃d,r= .ok d/\aAn (aRf t (aBg aNj ds))=ok d):Def P w K mg base (k+1) "_law_at" F:=by
 obtain⟨fd,Fu,bi⟩:=T.aC6;exact⟨_,_,_,T.aY7,Fu.kp,bi,hL,aLl Fu bBv hL fun cdv A outer s H E hr=>⟨_,fun B=>bBg T hr B,hq⟩⟩
def aJn:List Str:=["_law_found","_law_due","_law_k"]
theorem aNw:aA0 aJn ["_law_found","_law_due"] (aAd aHc):=⟨rfl,rfl,rfl,by decide+kernel,rfl,by decide+kernel,by decide+kernel⟩
def aMn (t:Adr)(aAo:List D->M D):Rho->Option Out:=
  (aAi (sIf (orB (aA2 (b2 gNe (isi "tuple" (look 1)) (isi "tuple" (look 0)))) (aA2 (b2 gNe (isi "list" (look 1)) (isi "list" (look 0))))) (aAi (aB7 (con (.bl false)))
  aAp) aAp)
  (aAi (sIf (test (bL5 ["tuple","list"] (look 1))) (aAi (sIf (aA2 (b2 gNe (f1 aF7 (look 0)) (f1 aF7 (look 1)))) (aAi (aB7 (con (.bl false)))
  aAp) aAp)
  (aAi (aEt (f1 aF7 (look 1)) (gN 2) (aAi (sIf (aM1 (test (app aAo (aAe (b2 gIx (look 0) (look 2)) (aAe (b2 gIx (look 1) (look 2)) aA3))))) (aAi (aB7 (con (.bl false)))
  aAp) aAp)
  aAp))
  (aAi (aB7 (con (.bl true)))
  aAp))) aAp)
  (aAi (sIf (aA2 (b2 gIs (look 1) (con .non))) (aAi (aB7 (b2 gIs (look 0) (con .non)))
  aAp) aAp)
  (aAi (sIf (orB (aA2 (b2 gNe (isi "bool" (look 1)) (isi "bool" (look 0)))) (aA2 (b2 gNe (isi "str" (look 1)) (isi "str" (look 0))))) (aAi (aB7 (con (.bl false)))
  aAp) aAp)
  (aAi (aB7 (aV0 (b2 gEq (isi "int" (look 1)) (isi "int" (look 0))) (b2 gEq (look 0) (look 1))))
  aAp)))))
theorem aWa (T:Txt K mg t){k:Nat}{aAo:List D->M D}(aBl:Def P w K mg base k "_law_same" aAo){cdv:Value}{A:Around}{outer:List Env}{s:Shared}{H:Hp}{E:XK}(hr:aDm k (A.deeper (envOfC "_law_same" (aAd aHc) s.heap.objs.size t.aHm cdv)))(B:Hp):
  PDB (cxN P w K mg base aJn "_law_same" (aAd aHc) t.aHm cdv A outer s H E) B (aAt aHc) (aMn t aAo):=
 by
 refine aAa ?_ ?_;(refine aCa ?_ ?_ ?_;(refine PDW.pdt ?_;(refine aUc ?_ ?_;(refine aQu ?_ ?_;(refine aIh (T:="tuple") rfl T.aA7 rfl T.aH8 (by decide+kernel) (by decide) ?_;(exact aAb 1));(refine aIh (T:="tuple") rfl T.aA7 rfl T.aH8 (by decide+kernel) (by decide) ?_;(exact aAb 0)));(refine aN9 ?_;(refine aQu ?_ ?_;(refine aIh (T:="list") rfl T.aA7 rfl T.aVu (by decide+kernel) (by decide) ?_;(exact aAb 1));(refine aIh (T:="list") rfl T.aA7 rfl T.aVu (by decide+kernel) (by decide) ?_;(exact aAb 0))))));(refine aAa ?_ ?_;(refine aAr ?_;(exact aIy));(exact aAh));(exact aAh));(refine aAa ?_ ?_;(refine aCa ?_ ?_ ?_;(refine aG4 ?_;(refine bK6 (T:="tuple") (U:="list") rfl T.aA7 rfl T.aH8 (by decide+kernel) (by decide) rfl T.aVu (by decide+kernel) (by decide) ?_;(exact aAb 1)));(refine aAa ?_ ?_;(refine aCa ?_ ?_ ?_;(refine aQu ?_ ?_;(refine aJv rfl T.aM7 ?_;(exact aAb 0));(refine aJv rfl T.aM7 ?_;(exact aAb 1)));(refine aAa ?_ ?_;(refine aAr ?_;(exact aIy));(exact aAh));(exact aAh));(refine aAa ?_ ?_;(refine aKx rfl T.aKi PassesOwn.never rfl ?_ (fun B=> ?_) (fun B=> ?_);(refine aJv rfl T.aM7 ?_;(exact aAb 1));(exact aE8 (i:=2) (aNw).nd rfl (Or.inl rfl));(refine aAa ?_ ?_;(refine aCa ?_ ?_ ?_;(refine aIw ?_;(refine aG4 ?_;(refine aAx aBl hr rfl ?_;(refine aAc ?_ ?_;(refine aFq ?_ ?_ (fun _ _=>rfl);(exact aAb 0);(exact aAb 2));(refine aAc ?_ ?_;(refine aFq ?_ ?_ (fun _ _=>rfl);(exact aAb 1);(exact aAb 2));(exact aAk))))));(refine aAa ?_ ?_;(refine aAr ?_;(exact aIy));(exact aAh));(exact aAh));(exact aAh)));(refine aAa ?_ ?_;(refine aAr ?_;(exact aIy));(exact aAh))));(exact aAh));(refine aAa ?_ ?_;(refine aCa ?_ ?_ ?_;(refine aQv ?_ ?_;(exact aAb 1);(exact aHh));(refine aAa ?_ ?_;(refine aAr ?_;(refine bSg ?_ ?_;(exact aAb 0);(exact aHh)));(exact aAh));(exact aAh));(refine aAa ?_ ?_;(refine aCa ?_ ?_ ?_;(refine PDW.pdt ?_;(refine aUc ?_ ?_;(refine aQu ?_ ?_;(refine aIh (T:="bool") rfl T.aA7 rfl T.aZl (by decide+kernel) (by decide) ?_;(exact aAb 1));(refine aIh (T:="bool") rfl T.aA7 rfl T.aZl (by decide+kernel) (by decide) ?_;(exact aAb 0)));(refine aN9 ?_;(refine aQu ?_ ?_;(refine aIh (T:="str") rfl T.aA7 rfl T.bM0 (by decide+kernel) (by decide) ?_;(exact aAb 1));(refine aIh (T:="str") rfl T.aA7 rfl T.bM0 (by decide+kernel) (by decide) ?_;(exact aAb 0))))));(refine aAa ?_ ?_;(refine aAr ?_;(exact aIy));(exact aAh));(exact aAh));(refine aAa ?_ ?_;(refine aAr ?_;(refine aQ1 ?_ ?_;(refine bK9 ?_ ?_;(refine aIh (T:="int") rfl T.aA7 rfl T.bIc (by decide+kernel) (by decide) ?_;(exact aAb 1));(refine aIh (T:="int") rfl T.aA7 rfl T.bIc (by decide+kernel) (by decide) ?_;(exact aAb 0)));(refine aQz ?_;(refine bK9 ?_ ?_;(exact aAb 0);(exact aAb 1)))));(exact aAh)))))
theorem aW1 (T:Txt K mg t){k:Nat}{aAo:List D->M D}(aBl:Def P w K mg base k "_law_same" aAo){F:List D->M D}(hL: ∀ds r,F ds=some r->ds.length=2)(hq: ∀ds r,F ds=some r->∃d,r= .ok d/\aAn (aMn t aAo (aBg aJn ds))=ok d):Def P w K mg base (k+1) "_law_same" F:=by
 obtain⟨fd,Fu,bi⟩:=T.aAo;exact⟨_,_,_,T.aL3,Fu.kp,bi,hL,aLl Fu aNw hL fun cdv A outer s H E hr=>⟨_,fun B=>aWa T aBl hr B,hq⟩⟩
def aG1:List Str:=["_law_cell"]
theorem aRz:aA0 aG1 ["_law_cell"] (aAd aFe):=⟨rfl,rfl,rfl,by decide+kernel,rfl,by decide+kernel,by decide+kernel⟩
def aJ3 (t:Adr):Rho->Option Out:=
  (aAi (sIf (aA2 (b2 gEq (b2 aC1 (look 0) (con (.int 3))) (con (.int 0)))) (aAi (aB7 (b2 aC1 (b2 aB9 (look 0) (con (.int 3))) (con (.int 4))))
  aAp) aAp)
  (aAi (sIf (aA2 (b2 gEq (b2 aC1 (look 0) (con (.int 3))) (con (.int 1)))) (aAi (aB7 (b2 aBd (b2 aCn (b2 aC1 (b2 aB9 (look 0) (con (.int 3))) (b2 aM6 (con (.int 10)) (con (.int 20)))) (b2 aM6 (con (.int 10)) (con (.int 39)))) (b2 aC1 (look 0) (con (.int 7)))))
  aAp) aAp)
  (aAi (aB7 (b2 aC1 (b2 aB9 (look 0) (con (.int 3))) (b2 aM6 (con (.int 10)) (con (.int 60)))))
  aAp)))
theorem aRr (T:Txt K mg t){k:Nat}{cdv:Value}{A:Around}{outer:List Env}{s:Shared}{H:Hp}{E:XK}(hr:aDm k (A.deeper (envOfC "_law_number" (aAd aFe) s.heap.objs.size t.aFj cdv)))(B:Hp):
  PDB (cxN P w K mg base aG1 "_law_number" (aAd aFe) t.aFj cdv A outer s H E) B (aAt aFe) (aJ3 t):=
 by
 refine aAa ?_ ?_;(refine aCa ?_ ?_ ?_;(refine aKw ?_ ?_;(refine aCm ?_ ?_;(exact aAb 0);(exact aAj));(exact aAj));(refine aAa ?_ ?_;(refine aAr ?_;(refine aCm ?_ ?_;(refine aEd ?_ ?_;(exact aAb 0);(exact aAj));(exact aAj)));(exact aAh));(exact aAh));(refine aAa ?_ ?_;(refine aCa ?_ ?_ ?_;(refine aKw ?_ ?_;(refine aCm ?_ ?_;(exact aAb 0);(exact aAj));(exact aAj));(refine aAa ?_ ?_;(refine aAr ?_;(refine aB3 ?_ ?_;(refine aF2 ?_ ?_;(refine aCm ?_ ?_;(refine aEd ?_ ?_;(exact aAb 0);(exact aAj));(refine aQy ?_ ?_;(exact aAj);(exact aAj)));(refine aQy ?_ ?_;(exact aAj);(exact aAj)));(refine aCm ?_ ?_;(exact aAb 0);(exact aAj))));(exact aAh));(exact aAh));(refine aAa ?_ ?_;(refine aAr ?_;(refine aCm ?_ ?_;(refine aEd ?_ ?_;(exact aAb 0);(exact aAj));(refine aQy ?_ ?_;(exact aAj);(exact aAj))));(exact aAh)))
theorem aSh (T:Txt K mg t){k:Nat}{F:List D->M D}(hL: ∀ds r,F ds=some r->ds.length=1)(hq: ∀ds r,F ds=some r->∃d,r= .ok d/\aAn (aJ3 t (aBg aG1 ds))=ok d):Def P w K mg base (k+1) "_law_number" F:=by
 obtain⟨fd,Fu,bi⟩:=T.aAv;exact⟨_,_,_,T.aMl,Fu.kp,bi,hL,aLl Fu aRz hL fun cdv A outer s H E hr=>⟨_,fun B=>aRr T hr B,hq⟩⟩
def aJb:List Str:=["_law_cell"]
theorem aZ6:aA0 aJb ["_law_cell"] (aAd aIs):=⟨rfl,rfl,rfl,by decide+kernel,rfl,by decide+kernel,by decide+kernel⟩
def aH7 (t:Adr):Rho->Option Out:=
  (aAi (aB7 (b2 aC1 (b2 aCn (b2 aBd (b2 aC1 (look 0) (b2 aM6 (con (.int 10)) (con (.int 9)))) (con (.int 1))) (con (.int 2862933555777941757))) (b2 aBd (b2 aM6 (con (.int 10)) (con (.int 24))) (con (.int 7)))))
  aAp)
theorem aZ0 (T:Txt K mg t){k:Nat}{cdv:Value}{A:Around}{outer:List Env}{s:Shared}{H:Hp}{E:XK}(hr:aDm k (A.deeper (envOfC "_law_mix" (aAd aIs) s.heap.objs.size t.aI7 cdv)))(B:Hp):
  PDB (cxN P w K mg base aJb "_law_mix" (aAd aIs) t.aI7 cdv A outer s H E) B (aAt aIs) (aH7 t):=
 by
 refine aAa ?_ ?_;(refine aAr ?_;(refine aCm ?_ ?_;(refine aF2 ?_ ?_;(refine aB3 ?_ ?_;(refine aCm ?_ ?_;(exact aAb 0);(refine aQy ?_ ?_;(exact aAj);(exact aAj)));(exact aAj));(exact aAj));(refine aB3 ?_ ?_;(refine aQy ?_ ?_;(exact aAj);(exact aAj));(exact aAj))));(exact aAh)
theorem bAi (T:Txt K mg t){k:Nat}{F:List D->M D}(hL: ∀ds r,F ds=some r->ds.length=1)(hq: ∀ds r,F ds=some r->∃d,r= .ok d/\aAn (aH7 t (aBg aJb ds))=ok d):Def P w K mg base (k+1) "_law_mix" F:=by
 obtain⟨fd,Fu,bi⟩:=T.aD9;exact⟨_,_,_,T.aU3,Fu.kp,bi,hL,aLl Fu aZ6 hL fun cdv A outer s H E hr=>⟨_,fun B=>aZ0 T hr B,hq⟩⟩
def aJo:List Str:=["_law_style","_law_k","_law_at_here"]
theorem aNx:aA0 aJo ["_law_style","_law_k"] (aAd aHd):=⟨rfl,rfl,rfl,by decide+kernel,rfl,by decide+kernel,by decide+kernel⟩
def aMo (t:Adr):Rho->Option Out:=
  (aAi (aDy 2 (b2 aC1 (b2 aBd (b2 aCn (con (.int 5)) (look 1)) (look 0)) (con (.int 23))))
  (aAi (sIf (aA2 (b2 gEq (b2 aC1 (b2 aB9 (look 0) (con (.int 23))) (con (.int 3))) (con (.int 1)))) (aAi (aB7 (b2 aBd (bBb (con (.str "zz")) aSm (aKc (b2 aC1 (look 0) (con (.int 3))))) (b2 aCn (con (.str "a")) (look 2))))
  aAp) aAp)
  (aAi (aB7 (b2 aBd (b2 aBd (bBb (con (.str "zyzy")) aSm (aKc (b2 aC1 (b2 aB9 (look 0) (con (.int 69))) (con (.int 4))))) (b2 gIx (con (.str "aXq 0~zB-c!_dEf.gH1i(jK")) (look 2))) (bBb (con (.str "yzzy")) aSm (aKc (b2 aC1 (b2 aB9 (look 0) (con (.int 276))) (con (.int 4)))))))
  aAp)))
theorem aWb (T:Txt K mg t){k:Nat}{cdv:Value}{A:Around}{outer:List Env}{s:Shared}{H:Hp}{E:XK}(hr:aDm k (A.deeper (envOfC "_law_name" (aAd aHd) s.heap.objs.size t.aHn cdv)))(B:Hp):
  PDB (cxN P w K mg base aJo "_law_name" (aAd aHd) t.aHn cdv A outer s H E) B (aAt aHd) (aMo t):=
 by
 refine aAa ?_ ?_;(refine aA9 (i:=2) (aNx).nd rfl (Or.inl rfl) ?_;(refine aCm ?_ ?_;(refine aB3 ?_ ?_;(refine aF2 ?_ ?_;(exact aAj);(exact aAb 1));(exact aAb 0));(exact aAj)));(refine aAa ?_ ?_;(refine aCa ?_ ?_ ?_;(refine aKw ?_ ?_;(refine aCm ?_ ?_;(refine aEd ?_ ?_;(exact aAb 0);(exact aAj));(exact aAj));(exact aAj));(refine aAa ?_ ?_;(refine aAr ?_;(refine aB3 ?_ ?_;(refine aNg ?_ ?_ ?_;(exact aQw);(exact aR9);(refine aKy ?_;(refine aCm ?_ ?_;(exact aAb 0);(exact aAj))));(refine aF2 ?_ ?_;(exact aQw);(exact aAb 2))));(exact aAh));(exact aAh));(refine aAa ?_ ?_;(refine aAr ?_;(refine aB3 ?_ ?_;(refine aB3 ?_ ?_;(refine aNg ?_ ?_ ?_;(exact aQw);(exact aR9);(refine aKy ?_;(refine aCm ?_ ?_;(refine aEd ?_ ?_;(exact aAb 0);(exact aAj));(exact aAj))));(refine aFq ?_ ?_ (fun _ _=>rfl);(exact aQw);(exact aAb 2)));(refine aNg ?_ ?_ ?_;(exact aQw);(exact aR9);(refine aKy ?_;(refine aCm ?_ ?_;(refine aEd ?_ ?_;(exact aAb 0);(exact aAj));(exact aAj))))));(exact aAh)))
theorem aW2 (T:Txt K mg t){k:Nat}{F:List D->M D}(hL: ∀ds r,F ds=some r->ds.length=2)(hq: ∀ds r,F ds=some r->∃d,r= .ok d/\aAn (aMo t (aBg aJo ds))=ok d):Def P w K mg base (k+1) "_law_name" F:=by
 obtain⟨fd,Fu,bi⟩:=T.aDh;exact⟨_,_,_,T.aRa,Fu.kp,bi,hL,aLl Fu aNx hL fun cdv A outer s H E hr=>⟨_,fun B=>aWb T hr B,hq⟩⟩
def aHu:List Str:=["_law_cell"]
theorem aWg:aA0 aHu ["_law_cell"] (aAd aHe):=⟨rfl,rfl,rfl,by decide+kernel,rfl,by decide+kernel,by decide+kernel⟩
def aFm (t:Adr)(aAv:List D->M D):Rho->Option Out:=
  (aAi (sIf (aA2 (b2 gEq (b2 aC1 (look 0) (con (.int 4))) (con (.int 0)))) (aAi (aB7 (con .non))
  aAp) aAp)
  (aAi (aB7 (app aAv (aAe (b2 aB9 (look 0) (con (.int 4))) aA3)))
  aAp))
theorem aWc (T:Txt K mg t){k:Nat}{aAv:List D->M D}(aCz:Def P w K mg base k "_law_number" aAv){cdv:Value}{A:Around}{outer:List Env}{s:Shared}{H:Hp}{E:XK}(hr:aDm k (A.deeper (envOfC "_law_cost" (aAd aHe) s.heap.objs.size t.aHo cdv)))(B:Hp):
  PDB (cxN P w K mg base aHu "_law_cost" (aAd aHe) t.aHo cdv A outer s H E) B (aAt aHe) (aFm t aAv):=
 by
 refine aAa ?_ ?_;(refine aCa ?_ ?_ ?_;(refine aKw ?_ ?_;(refine aCm ?_ ?_;(exact aAb 0);(exact aAj));(exact aAj));(refine aAa ?_ ?_;(refine aAr ?_;(exact aHh));(exact aAh));(exact aAh));(refine aAa ?_ ?_;(refine aAr ?_;(refine aAx aCz hr rfl ?_;(refine aAc ?_ ?_;(refine aEd ?_ ?_;(exact aAb 0);(exact aAj));(exact aAk))));(exact aAh))
theorem aW3 (T:Txt K mg t){k:Nat}{aAv:List D->M D}(aCz:Def P w K mg base k "_law_number" aAv){F:List D->M D}(hL: ∀ds r,F ds=some r->ds.length=1)(hq: ∀ds r,F ds=some r->∃d,r= .ok d/\aAn (aFm t aAv (aBg aHu ds))=ok d):Def P w K mg base (k+1) "_law_cost" F:=by
 obtain⟨fd,Fu,bi⟩:=T.aDi;exact⟨_,_,_,T.aRb,Fu.kp,bi,hL,aLl Fu aWg hL fun cdv A outer s H E hr=>⟨_,fun B=>aWc T aCz hr B,hq⟩⟩
def aJa:List Str:=["_law_names","_law_cell","_law_by","_law_counts","_law_many","_law_k","_law_product","_law_size","_law_j","_law_number_here","_law_key"]
theorem aBk:aA0 aJa ["_law_names","_law_cell"] (aAd aIr):=⟨rfl,rfl,rfl,by decide+kernel,rfl,by decide+kernel,by decide+kernel⟩
def aH6 (t:Adr)(aD9:List D->M D):Rho->Option Out:=
  (aAi (aDy 2 (app aD9 (aAe (look 1) aA3)))
  (aAi (bBy 3)
  (aAi (aDy 4 (b2 aC1 (look 2) (con (.int 4))))
  (aAi (aDy 2 (b2 aB9 (look 2) (con (.int 4))))
  (aAi (aEt (look 4) (gN 5) (aAi (sNew 6 aA3)
  (aAi (aDy 7 (b2 aC1 (look 2) (con (.int 4))))
  (aAi (aDy 2 (b2 aB9 (look 2) (con (.int 4))))
  (aAi (aEt (look 7) (gN 8) (aAi (aYf aYu 6 (aAe (b2 gIx (look 0) (b2 aC1 (look 2) (f1 aF7 (look 0)))) aA3))
  (aAi (aDy 2 (b2 aB9 (look 2) (f1 aF7 (look 0))))
  aAp)))
  (aAi (aDy 9 (b2 aBd (con (.int 1)) (b2 aC1 (look 2) (con (.int 5)))))
  (aAi (aDy 2 (b2 aB9 (look 2) (con (.int 5))))
  (aAi (sIf (aA2 (b2 gEq (look 9) (con (.int 5)))) (aAi (aDy 9 (b2 aBd (b2 aM6 (con (.int 10)) (con (.int 40))) (look 5)))
  aAp) aAp)
  (aAi (aDy 10 (f1 toT (f1 bBo (look 6))))
  (aAi (aN4 3 10 (b2 aBd (aPd 3 10 (con (.int 0))) (look 9)))
  aAp))))))))))
  (aAi (aB7 (f1 toT (aXq 3)))
  aAp))))))
theorem aZz (T:Txt K mg t){k:Nat}{aD9:List D->M D}(aPr:Def P w K mg base k "_law_mix" aD9){cdv:Value}{A:Around}{outer:List Env}{s:Shared}{H:Hp}{E:XK}(hr:aDm k (A.deeper (envOfC "_law_sum" (aAd aIr) s.heap.objs.size t.aI6 cdv)))(B:Hp):
  PDB (cxN P w K mg base aJa "_law_sum" (aAd aIr) t.aI6 cdv A outer s H E) B (aAt aIr) (aH6 t aD9):=
 by
 refine aAa ?_ ?_;(refine aA9 (i:=2) (aBk).nd rfl (Or.inl rfl) ?_;(refine aAx aPr hr rfl ?_;(refine aAc ?_ ?_;(exact aAb 1);(exact aAk))));(refine aAa ?_ ?_;(exact aYi (i:=3) (aBk).nd rfl (Or.inl rfl));(refine aAa ?_ ?_;(refine aA9 (i:=4) (aBk).nd rfl (Or.inl rfl) ?_;(refine aCm ?_ ?_;(exact aAb 2);(exact aAj)));(refine aAa ?_ ?_;(refine aA9 (i:=2) (aBk).nd rfl (Or.inl rfl) ?_;(refine aEd ?_ ?_;(exact aAb 2);(exact aAj)));(refine aAa ?_ ?_;(refine aKx rfl T.aKi PassesOwn.never rfl ?_ (fun B=> ?_) (fun B=> ?_);(exact aAb 4);(exact aE8 (i:=5) (aBk).nd rfl (Or.inl rfl));(refine aAa ?_ ?_;(refine aWr (i:=6) (aBk).nd rfl (Or.inl rfl) ?_;(exact aAk));(refine aAa ?_ ?_;(refine aA9 (i:=7) (aBk).nd rfl (Or.inl rfl) ?_;(refine aCm ?_ ?_;(exact aAb 2);(exact aAj)));(refine aAa ?_ ?_;(refine aA9 (i:=2) (aBk).nd rfl (Or.inl rfl) ?_;(refine aEd ?_ ?_;(exact aAb 2);(exact aAj)));(refine aAa ?_ ?_;(refine aKx rfl T.aKi PassesOwn.never rfl ?_ (fun B=> ?_) (fun B=> ?_);(exact aAb 7);(exact aE8 (i:=8) (aBk).nd rfl (Or.inl rfl));(refine aAa ?_ ?_;(refine aJg (i:=6) rfl (Or.inl rfl) ?_;(refine aFq ?_ ?_ (fun _ _=>rfl);(exact aAb 0);(refine aCm ?_ ?_;(exact aAb 2);(refine aJv rfl T.aM7 ?_;(exact aAb 0)))));(refine aAa ?_ ?_;(refine aA9 (i:=2) (aBk).nd rfl (Or.inl rfl) ?_;(refine aEd ?_ ?_;(exact aAb 2);(refine aJv rfl T.aM7 ?_;(exact aAb 0))));(exact aAh))));(refine aAa ?_ ?_;(refine aA9 (i:=9) (aBk).nd rfl (Or.inl rfl) ?_;(refine aB3 ?_ ?_;(exact aAj);(refine aCm ?_ ?_;(exact aAb 2);(exact aAj))));(refine aAa ?_ ?_;(refine aA9 (i:=2) (aBk).nd rfl (Or.inl rfl) ?_;(refine aEd ?_ ?_;(exact aAb 2);(exact aAj)));(refine aAa ?_ ?_;(refine aCa ?_ ?_ ?_;(refine aKw ?_ ?_;(exact aAb 9);(exact aAj));(refine aAa ?_ ?_;(refine aA9 (i:=9) (aBk).nd rfl (Or.inl rfl) ?_;(refine aB3 ?_ ?_;(refine aQy ?_ ?_;(exact aAj);(exact aAj));(exact aAb 5)));(exact aAh));(exact aAh));(refine aAa ?_ ?_;(refine aA9 (i:=10) (aBk).nd rfl (Or.inl rfl) ?_;(refine aKz rfl T.aH8 ?_;(refine aQx rfl rfl T.aH9 ?_;(exact aAb 6))));(refine aAa ?_ ?_;(refine aR7 hr 3 10 ?_;(refine aB3 ?_ ?_;(refine aSa hr 3 10 ?_;(exact aAj));(exact aAb 9)));(exact aAh)))))))))));(refine aAa ?_ ?_;(refine aAr ?_;(refine aKz rfl T.aH8 ?_;(exact aLt hr (by rfl) (by rfl) T.aH9 3)));(exact aAh))))))
theorem bAh (T:Txt K mg t){k:Nat}{aD9:List D->M D}(aPr:Def P w K mg base k "_law_mix" aD9){F:List D->M D}(hL: ∀ds r,F ds=some r->ds.length=2)(hq: ∀ds r,F ds=some r->∃d,r= .ok d/\aAn (aH6 t aD9 (aBg aJa ds))=ok d):Def P w K mg base (k+1) "_law_sum" F:=by
 obtain⟨fd,Fu,bi⟩:=T.aD8;exact⟨_,_,_,T.aU2,Fu.kp,bi,hL,aLl Fu aBk hL fun cdv A outer s H E hr=>⟨_,fun B=>aZz T aPr hr B,hq⟩⟩
def aGp:List Str:=["_law_some","_law_marks","_law_whole","_law_product","_law_many","_law_name_here"]
theorem aEh:aA0 aGp ["_law_some","_law_marks"] (aAd aGb):=⟨rfl,rfl,rfl,by decide+kernel,rfl,by decide+kernel,by decide+kernel⟩
def aF5 (t:Adr):Rho->Option Out:=
  (aAi (aDy 2 (con (.int 0)))
  (aAi (aF0 0 (gN2 3 4) (aAi (aF0 3 (gN 5) (aAi (aDy 4 (b2 aCn (look 4) (b2 aU4 (look 1) (look 5))))
  aAp))
  (aAi (aDy 2 (b2 aBd (look 2) (look 4)))
  aAp)))
  (aAi (aB7 (look 2))
  aAp)))
theorem aTv (T:Txt K mg t){k:Nat}{cdv:Value}{A:Around}{outer:List Env}{s:Shared}{H:Hp}{E:XK}(hr:aDm k (A.deeper (envOfC "_law_count" (aAd aGb) s.heap.objs.size t.aGj cdv)))(B:Hp):
  PDB (cxN P w K mg base aGp "_law_count" (aAd aGb) t.aGj cdv A outer s H E) B (aAt aGb) (aF5 t):=
 by
 refine aAa ?_ ?_;(refine aA9 (i:=2) (aEh).nd rfl (Or.inl rfl) ?_;(exact aAj));(refine aAa ?_ ?_;(refine aGv 0 rfl (Or.inl rfl) PassesOwn.never rfl (fun B=> ?_) (fun B=> ?_);(exact aNf (i:=3) (j:=4) rfl (aEh).nd rfl (Or.inl rfl) rfl (Or.inl rfl));(refine aAa ?_ ?_;(refine aGv 3 rfl (Or.inl rfl) PassesOwn.never rfl (fun B=> ?_) (fun B=> ?_);(exact aE8 (i:=5) (aEh).nd rfl (Or.inl rfl));(refine aAa ?_ ?_;(refine aA9 (i:=4) (aEh).nd rfl (Or.inl rfl) ?_;(refine aF2 ?_ ?_;(exact aAb 4);(refine aOb hr ?_ ?_;(exact aAb 1);(exact aAb 5))));(exact aAh)));(refine aAa ?_ ?_;(refine aA9 (i:=2) (aEh).nd rfl (Or.inl rfl) ?_;(refine aB3 ?_ ?_;(exact aAb 2);(exact aAb 4)));(exact aAh))));(refine aAa ?_ ?_;(refine aAr ?_;(exact aAb 2));(exact aAh)))
theorem aUi (T:Txt K mg t){k:Nat}{F:List D->M D}(hL: ∀ds r,F ds=some r->ds.length=2)(hq: ∀ds r,F ds=some r->∃d,r= .ok d/\aAn (aF5 t (aBg aGp ds))=ok d):Def P w K mg base (k+1) "_law_count" F:=by
 obtain⟨fd,Fu,bi⟩:=T.aBv;exact⟨_,_,_,T.aO9,Fu.kp,bi,hL,aLl Fu aEh hL fun cdv A outer s H E hr=>⟨_,fun B=>aTv T hr B,hq⟩⟩
def aDc:List Str:=["_law_some","_law_costs","_law_least","_law_pair","_law_each"]
def aGn:List Str:=["?0","_law_costs","?2","?3","?4","_law_name_here"]
theorem aKd:aGn.Nodup:=by decide+kernel
theorem aCi:aA0 aDc ["_law_some","_law_costs"] (aAd aC7):=⟨rfl,rfl,rfl,by decide+kernel,rfl,by decide+kernel,by decide+kernel⟩
def aDk (t:Adr):Rho->Option Out:=
  (aAi (aDy 2 (con .non))
  (aAi (aF0 0 (gN 3) (aAi (aDy 4 (cmp 1 (itE (b2 gIx (look 3) (con (.int 0)))) [5] h1 (fun _=>ok true) (b2 aU4 (look 1) (look 5))))
  (aAi (sIf (bM2 (aA2 (b2 (gIn true) (con .non) (look 4))) (orB (aA2 (b2 gIs (look 2) (con .non))) (aA2 (b2 gLt (f1 bJ8 (look 4)) (look 2))))) (aAi (aDy 2 (f1 bJ8 (look 4)))
  aAp) aAp)
  aAp)))
  (aAi (aB7 (look 2))
  aAp)))
theorem aLm (T:Txt K mg t){k:Nat}{cdv:Value}{A:Around}{outer:List Env}{s:Shared}{H:Hp}{E:XK}(hr:aDm k (A.deeper (envOfC "_law_least_cost" (aAd aC7) s.heap.objs.size t.aC9 cdv)))(B:Hp):
  PDB (cxN P w K mg base aDc "_law_least_cost" (aAd aC7) t.aC9 cdv A outer s H E) B (aAt aC7) (aDk t):=
 by
 refine aAa ?_ ?_;(refine aA9 (i:=2) (aCi).nd rfl (Or.inl rfl) ?_;(exact aHh));(refine aAa ?_ ?_;(refine aGv 0 rfl (Or.inl rfl) PassesOwn.never rfl (fun B=> ?_) (fun B=> ?_);(exact aE8 (i:=3) (aCi).nd rfl (Or.inl rfl));(refine aAa ?_ ?_;(refine bCo (i:=4) (aCi).nd rfl (Or.inl rfl) (N':=aGn) (m:=1) (ks:=[5]) rfl rfl rfl rfl (by repeat (first | exact aUt | refine aOr rfl (by first | exact Or.inl rfl | exact Or.inr rfl) ?_)) rfl rfl rfl rfl rfl ?_ (fun C s₀ H₀ ex=> ?_) (fun C s₀ H₀ ex B=> ?_) (fun C s₀ H₀ ex B=> ?_);(refine bKv ?_;(refine aFq ?_ ?_ (fun _ _=>rfl);(exact aAb 3);(exact aAj)));(exact bG0 aKd rfl (Or.inl rfl));(exact aKv);(refine aOb hr ?_ ?_;(exact aAb 1);(exact aAb 5)));(refine aAa ?_ ?_;(refine aCa ?_ ?_ ?_;(refine PDW.pdt ?_;(refine bKz ?_ ?_;(refine bCl ?_ ?_;(exact aHh);(exact aAb 4));(refine bGt ?_;(refine PDW.pdt ?_;(refine aUc ?_ ?_;(refine aQv ?_ ?_;(exact aAb 2);(exact aHh));(refine aN9 ?_;(refine bIy ?_ ?_;(refine bI0 rfl rfl T.bMz ?_;(exact aAb 4));(exact aAb 2))))))));(refine aAa ?_ ?_;(refine aA9 (i:=2) (aCi).nd rfl (Or.inl rfl) ?_;(refine bI0 rfl rfl T.bMz ?_;(exact aAb 4)));(exact aAh));(exact aAh));(exact aAh))));(refine aAa ?_ ?_;(refine aAr ?_;(exact aAb 2));(exact aAh)))
theorem aLv (T:Txt K mg t){k:Nat}{F:List D->M D}(hL: ∀ds r,F ds=some r->ds.length=2)(hq: ∀ds r,F ds=some r->∃d,r= .ok d/\aAn (aDk t (aBg aDc ds))=ok d):Def P w K mg base (k+1) "_law_least_cost" F:=by
 obtain⟨fd,Fu,bi⟩:=T.aA8;exact⟨_,_,_,T.aIi,Fu.kp,bi,hL,aLl Fu aCi hL fun cdv A outer s H E hr=>⟨_,fun B=>aLm T hr B,hq⟩⟩
def aE3:List Str:=["_law_some","_law_marks","_law_fine","e"]
theorem aE6:aA0 aE3 ["_law_some","_law_marks"] (aAd aEn):=⟨rfl,rfl,rfl,by decide+kernel,rfl,by decide+kernel,by decide+kernel⟩
def aE1 (t:Adr)(aCg:List D->M D)(aBh:List D->M (List (Str×D))):Rho->Option Out:=
  (aAi (aDy 2 (con (.bl false)))
  (aAi (bNx (aAi (aP8 (app aCg (aAe (look 0) (aAe (fun _=>mkO t.aAm aBh []) (aAe (look 1) aA3)))))
  aAp) (⟨aGh t,3,(aAi (aDy 2 (aV0 (exs (aBm t) (look 3)) (exs (aBw t) (look 3))))
  aAp)⟩::[]))
  (aAi (aB7 (look 2))
  aAp)))
theorem aPy (T:Txt K mg t){k k':Nat}(hk:k'+1<=k){aCg:List D->M D}(aG9:Def P w K mg base k "worth" aCg){aBh:List D->M (List (Str×D))}(aEc:Ctor P w K mg base k' "Counts" t.aAm aBh){cdv:Value}{A:Around}{outer:List Env}{s:Shared}{H:Hp}{E:XK}(hr:aDm k (A.deeper (envOfC "_law_refused" (aAd aEn) s.heap.objs.size t.aEv cdv)))(B:Hp):
  PDB (cxN P w K mg base aE3 "_law_refused" (aAd aEn) t.aEv cdv A outer s H E) B (aAt aEn) (aE1 t aCg aBh):=
 by
 have hr':=hr.mono hk;refine aAa ?_ ?_;(refine aA9 (i:=2) (aE6).nd rfl (Or.inl rfl) ?_;(exact aIy));(refine aAa ?_ ?_;(refine bK0 rfl rfl (fun pins Q=> ?_) ?_;(refine aAa ?_ ?_;(refine aYj ?_;(refine aAx aG9 hr rfl ?_;(refine aAc ?_ ?_;(exact aAb 0);(refine aAc ?_ ?_;(exact aGw aEc hr' rfl);(refine aAc ?_ ?_;(exact aAb 1);(exact aAk))))));(exact aAh));(refine bG1 (i:=3) rfl T.aS2 (bAv T) (aE6).nd rfl rfl (fun e B=> ?_) ?_;(refine aAa ?_ ?_;(refine aA9 (i:=2) (aE6).nd rfl (Or.inl rfl) ?_;(refine aQ1 ?_ ?_;(refine bK8 rfl T.aA7 rfl T.aLb (aOx T) ?_;(exact aAb 3));(refine aQz ?_;(refine bK7 (T:="ValueError") rfl T.aA7 rfl T.aMq (by decide+kernel) (aQi T) ?_;(exact aAb 3)))));(exact aAh));(exact bK2)));(refine aAa ?_ ?_;(refine aAr ?_;(exact aAb 2));(exact aAh)))
theorem aP9 (T:Txt K mg t){k k':Nat}(hk:k'+1<=k){aCg:List D->M D}(aG9:Def P w K mg base k "worth" aCg){aBh:List D->M (List (Str×D))}(aEc:Ctor P w K mg base k' "Counts" t.aAm aBh){F:List D->M D}(hL: ∀ds r,F ds=some r->ds.length=2)(hq: ∀ds r,F ds=some r->∃d,r= .ok d/\aAn (aE1 t aCg aBh (aBg aE3 ds))=ok d):Def P w K mg base (k+1) "_law_refused" F:=by
 obtain⟨fd,Fu,bi⟩:=T.aBn;exact⟨_,_,_,T.aK9,Fu.kp,bi,hL,aLl Fu aE6 hL fun cdv A outer s H E hr=>⟨_,fun B=>aPy T hk aG9 aEc hr B,hq⟩⟩
def aGo:List Str:=["_law_many","_law_count_here","_law_cost_here","_law_name_here","_law_found"]
theorem aMh:aA0 aGo ["_law_many","_law_count_here","_law_cost_here","_law_name_here"] (aAd aGa):=⟨rfl,rfl,rfl,by decide+kernel,rfl,by decide+kernel,by decide+kernel⟩
def aF4 (t:Adr)(aAo:List D->M D)(aJ4:List D->M D)(aAl:List D->M D)(aEg:List D->M (List (Str×D)))(aBh:List D->M (List (Str×D)))(aPt:List D->M (List (Str×D)))(aIe:List D->M (List (Str×D))):Rho->Option Out:=
  (aAi (sNew 4 (aAe (app aAl (aAe (fun _=>mkO t.aAm aBh []) (aAe (look 0) (aAe (look 1) aA3)))) (aAe (app aAl (aAe (fun _=>mkO t.aAz aEg []) (aAe (look 0) (aAe (look 2) aA3)))) aA3)))
  (aAi (aYf aYu 4 (aAe (app aAl (aAe (fun _=>mkO t.aAw aIe []) (aAe (look 0) (aAe (con (.bl true)) aA3)))) aA3))
  (aAi (aYf aYu 4 (aAe (app aAl (aAe (fun _=>mkO t.aBr aPt []) (aAe (look 0) (aAe (app aJ4 (aAe (look 3) aA3)) aA3)))) aA3))
  (aAi (sIf (aA2 (b2 gEq (look 0) (con (.int 0)))) (aAi (aB7 (app aAo (aAe (look 4) (aAe (mkL (aAe (con (.int 0)) (aAe (con .non) (aAe (con (.bl false)) (aAe (mkT aA3) aA3))))) aA3))))
  aAp) aAp)
  (aAi (aB7 (app aAo (aAe (look 4) (aAe (mkL (aAe (b2 aCn (look 0) (look 1)) (aAe (look 2) (aAe (con (.bl true)) (aAe (mkT (aAe (mkT (aAe (mkT (aAe (look 3) aA3)) (aAe (look 0) aA3))) aA3)) aA3))))) aA3))))
  aAp)))))
theorem aTu (T:Txt K mg t){k k':Nat}(hk:k'+1<=k){aAo:List D->M D}(aBl:Def P w K mg base k "_law_same" aAo){aJ4:List D->M D}(bFr:Def P w K mg base k "bare" aJ4){aAl:List D->M D}(aBa:Def P w K mg base k "times_over" aAl){aEg:List D->M (List (Str×D))}(aKk:Ctor P w K mg base k' "Costs" t.aAz aEg){aBh:List D->M (List (Str×D))}(aEc:Ctor P w K mg base k' "Counts" t.aAm aBh){aPt:List D->M (List (Str×D))}(bFs:Ctor P w K mg base k' "Sums" t.aBr aPt){aIe:List D->M (List (Str×D))}(aTm:Ctor P w K mg base k' "Truths" t.aAw aIe){cdv:Value}{A:Around}{outer:List Env}{s:Shared}{H:Hp}{E:XK}(hr:aDm k (A.deeper (envOfC "_law_times" (aAd aGa) s.heap.objs.size t.aGi cdv)))(B:Hp):
  PDB (cxN P w K mg base aGo "_law_times" (aAd aGa) t.aGi cdv A outer s H E) B (aAt aGa) (aF4 t aAo aJ4 aAl aEg aBh aPt aIe):=
 by
 have hr':=hr.mono hk;refine aAa ?_ ?_;(refine aWr (i:=4) (aMh).nd rfl (Or.inl rfl) ?_;(refine aAc ?_ ?_;(refine aAx aBa hr rfl ?_;(refine aAc ?_ ?_;(exact aGw aEc hr' rfl);(refine aAc ?_ ?_;(exact aAb 0);(refine aAc ?_ ?_;(exact aAb 1);(exact aAk)))));(refine aAc ?_ ?_;(refine aAx aBa hr rfl ?_;(refine aAc ?_ ?_;(exact aGw aKk hr' rfl);(refine aAc ?_ ?_;(exact aAb 0);(refine aAc ?_ ?_;(exact aAb 2);(exact aAk)))));(exact aAk))));(refine aAa ?_ ?_;(refine aJg (i:=4) rfl (Or.inl rfl) ?_;(refine aAx aBa hr rfl ?_;(refine aAc ?_ ?_;(exact aGw aTm hr' rfl);(refine aAc ?_ ?_;(exact aAb 0);(refine aAc ?_ ?_;(exact aIy);(exact aAk))))));(refine aAa ?_ ?_;(refine aJg (i:=4) rfl (Or.inl rfl) ?_;(refine aAx aBa hr rfl ?_;(refine aAc ?_ ?_;(exact aGw bFs hr' rfl);(refine aAc ?_ ?_;(exact aAb 0);(refine aAc ?_ ?_;(refine aAx bFr hr rfl ?_;(refine aAc ?_ ?_;(exact aAb 3);(exact aAk)));(exact aAk))))));(refine aAa ?_ ?_;(refine aCa ?_ ?_ ?_;(refine aKw ?_ ?_;(exact aAb 0);(exact aAj));(refine aAa ?_ ?_;(refine aAr ?_;(refine aAx aBl hr rfl ?_;(refine aAc ?_ ?_;(exact aAb 4);(refine aAc ?_ ?_;(refine bI1 ?_;(refine aAc ?_ ?_;(exact aAj);(refine aAc ?_ ?_;(exact aHh);(refine aAc ?_ ?_;(exact aIy);(refine aAc ?_ ?_;(refine aIx ?_;(exact aAk));(exact aAk))))));(exact aAk)))));(exact aAh));(exact aAh));(refine aAa ?_ ?_;(refine aAr ?_;(refine aAx aBl hr rfl ?_;(refine aAc ?_ ?_;(exact aAb 4);(refine aAc ?_ ?_;(refine bI1 ?_;(refine aAc ?_ ?_;(refine aF2 ?_ ?_;(exact aAb 0);(exact aAb 1));(refine aAc ?_ ?_;(exact aAb 2);(refine aAc ?_ ?_;(exact aIy);(refine aAc ?_ ?_;(refine aIx ?_;(refine aAc ?_ ?_;(refine aIx ?_;(refine aAc ?_ ?_;(refine aIx ?_;(refine aAc ?_ ?_;(exact aAb 3);(exact aAk)));(refine aAc ?_ ?_;(exact aAb 0);(exact aAk))));(exact aAk)));(exact aAk))))));(exact aAk)))));(exact aAh)))))
theorem aUh (T:Txt K mg t){k k':Nat}(hk:k'+1<=k){aAo:List D->M D}(aBl:Def P w K mg base k "_law_same" aAo){aJ4:List D->M D}(bFr:Def P w K mg base k "bare" aJ4){aAl:List D->M D}(aBa:Def P w K mg base k "times_over" aAl){aEg:List D->M (List (Str×D))}(aKk:Ctor P w K mg base k' "Costs" t.aAz aEg){aBh:List D->M (List (Str×D))}(aEc:Ctor P w K mg base k' "Counts" t.aAm aBh){aPt:List D->M (List (Str×D))}(bFs:Ctor P w K mg base k' "Sums" t.aBr aPt){aIe:List D->M (List (Str×D))}(aTm:Ctor P w K mg base k' "Truths" t.aAw aIe){F:List D->M D}(hL: ∀ds r,F ds=some r->ds.length=4)(hq: ∀ds r,F ds=some r->∃d,r= .ok d/\aAn (aF4 t aAo aJ4 aAl aEg aBh aPt aIe (aBg aGo ds))=ok d):Def P w K mg base (k+1) "_law_times" F:=by
 obtain⟨fd,Fu,bi⟩:=T.aCh;exact⟨_,_,_,T.aO8,Fu.kp,bi,hL,aLl Fu aMh hL fun cdv A outer s H E hr=>⟨_,fun B=>aTu T hk aBl bFr aBa aKk aEc bFs aTm hr B,hq⟩⟩
def bFq:List Str:=["_law_script","_law_names","_law_many","_law_marks","_law_left","_law_costs","_law_k","_law_handed","_law_cell","_law_some","_law_whole"]
def aZu:List Str:=["?0","_law_names","?2","?3","?4","?5","?6","?7","?8","?9","?10","_law_pair"]
theorem bHf:aZu.Nodup:=by decide+kernel
def aZt:List Str:=["_law_script","?1","?2","?3","?4","?5","?6","?7","?8","?9","?10","_law_k"]
theorem bHe:aZt.Nodup:=by decide+kernel
theorem aIp:aA0 bFq ["_law_script"] (aAd aWj):=⟨rfl,rfl,rfl,by decide+kernel,rfl,by decide+kernel,by decide+kernel⟩
def aTb (t:Adr)(aC6:List D->M D)(aDi:List D->M D)(aBv:List D->M D)(aA8:List D->M D)(aDh:List D->M D)(aAv:List D->M D)(aBn:List D->M D)(aAo:List D->M D)(aD8:List D->M D)(aCh:List D->M D)(aAl:List D->M D)(aCg:List D->M D)(aEg:List D->M (List (Str×D)))(aBh:List D->M (List (Str×D)))(aG3:List D->M (List (Str×D))):Rho->Option Out:=
  (aAi (aDy 1 (cmp 1 (itR (con (.int 4))) [11] h1 (fun _=>ok true) (app aDh (aAe (b2 aC1 (app aC6 (aAe (look 0) (aAe (con (.int 0)) aA3))) (con (.int 2000))) (aAe (look 11) aA3)))))
  (aAi (aDy 2 (b2 aBd (con (.int 2)) (b2 aC1 (app aC6 (aAe (look 0) (aAe (con (.int 1)) aA3))) (con (.int 60)))))
  (aAi (aT4 3)
  (aAi (aT4 4)
  (aAi (aT4 5)
  (aAi (aEt (con (.int 4)) (gN 6) (aAi (aIu 3 (b2 gIx (look 1) (look 6)) (app aAv (aAe (b2 aB9 (app aC6 (aAe (look 0) (aAe (con (.int 2)) aA3))) (b2 aBd (look 6) (con (.int 1)))) aA3)))
  (aAi (aIu 4 (b2 gIx (look 1) (look 6)) (b2 aC1 (b2 aB9 (app aC6 (aAe (look 0) (aAe (con (.int 2)) aA3))) (b2 aBd (look 6) (con (.int 2)))) (look 2)))
  (aAi (aIu 5 (b2 gIx (look 1) (look 6)) (app aDi (aAe (b2 aB9 (app aC6 (aAe (look 0) (aAe (con (.int 3)) aA3))) (b2 aBd (look 6) (con (.int 1)))) aA3)))
  aAp))))
  (aAi (aT5 7 (look 3))
  (aAi (sIf (aM1 (test (app aCh (aAe (app aAv (aAe (app aC6 (aAe (look 0) (aAe (con (.int 1)) aA3))) aA3)) (aAe (b2 aU4 (look 3) (b2 gIx (look 1) (con (.int 0)))) (aAe (b2 aU4 (look 5) (b2 gIx (look 1) (con (.int 1)))) (aAe (b2 gIx (look 1) (con (.int 2))) aA3))))))) (aAi (aB7 (con (.bl false)))
  aAp) aAp)
  (aAi (bB2 (bBb (look 0) (aKc (con (.int 4))) (aKc (con (.int 28)))) (gN 8) (aAi (aDy 9 (app aD8 (aAe (look 1) (aAe (look 8) aA3))))
  (aAi (aDy 10 (app aBv (aAe (look 9) (aAe (look 3) aA3))))
  (aAi (sIf (aM1 (test (app aAo (aAe (app aCg (aAe (look 9) (aAe (fun _=>mkO t.aAm aBh []) (aAe (look 7) aA3)))) (aAe (look 10) aA3))))) (aAi (aB7 (con (.bl false)))
  aAp) aAp)
  (aAi (sIf (aM1 (test (app aAo (aAe (app aCg (aAe (look 9) (aAe (app (mkO t.aAq aG3) (aAe (look 2) aA3)) (aAe (look 4) aA3)))) (aAe (b2 aC1 (app aBv (aAe (look 9) (aAe (look 4) aA3))) (look 2)) aA3))))) (aAi (aB7 (con (.bl false)))
  aAp) aAp)
  (aAi (sIf (aM1 (test (app aAo (aAe (app aCg (aAe (look 9) (aAe (fun _=>mkO t.aAz aEg []) (aAe (look 5) aA3)))) (aAe (app aA8 (aAe (look 9) (aAe (look 5) aA3))) aA3))))) (aAi (aB7 (con (.bl false)))
  aAp) aAp)
  (aAi (aIu 7 (b2 gIx (look 1) (con (.int 1))) (b2 aC1 (look 8) (con (.int 5))))
  (aAi (sIf (orB (aM1 (test (app aAo (aAe (app aCg (aAe (look 9) (aAe (fun _=>mkO t.aAm aBh []) (aAe (look 7) aA3)))) (aAe (app aBv (aAe (look 9) (aAe (look 7) aA3))) aA3))))) (aA2 (b2 gNe (f1 bRa (look 7)) (con (.int 4))))) (aAi (aB7 (con (.bl false)))
  aAp) aAp)
  (aAi (aIu 7 (b2 gIx (look 1) (con (.int 1))) (b2 aU4 (look 3) (b2 gIx (look 1) (con (.int 1)))))
  (aAi (sIf (test (f1 bNd (cmp 1 (itE (look 9)) [11] h1 (fun _=>ok true) (b2 (gIn false) (b2 gIx (look 1) (con (.int 3))) (b2 gIx (look 11) (con (.int 0))))))) (aAi (aWk 7 (b2 gIx (look 1) (con (.int 3))))
  (aAi (sIf (aM1 (test (app aBn (aAe (look 9) (aAe (look 7) aA3))))) (aAi (aB7 (con (.bl false)))
  aAp) aAp)
  (aAi (aIu 7 (b2 gIx (look 1) (con (.int 3))) (b2 aU4 (look 3) (b2 gIx (look 1) (con (.int 3)))))
  aAp))) aAp)
  aAp))))))))))
  (aAi (aB7 (aV0 (b2 gEq (app aAl (aAe (app (mkO t.aAq aG3) (aAe (look 2) aA3)) (aAe (b2 aBd (look 2) (con (.int 1))) (aAe (b2 aXh (look 2) (con (.int 1))) aA3)))) (b2 aXh (look 2) (con (.int 1)))) (b2 bJj (look 7) (look 3))))
  aAp))))))))))
theorem tm_law (T:Txt K mg t){k k':Nat}(hk:k'+1<=k){aC6:List D->M D}(aG2:Def P w K mg base k "_law_at" aC6){aDi:List D->M D}(aMb:Def P w K mg base k "_law_cost" aDi){aBv:List D->M D}(aGs:Def P w K mg base k "_law_count" aBv){aA8:List D->M D}(aFu:Def P w K mg base k "_law_least_cost" aA8){aDh:List D->M D}(aMa:Def P w K mg base k "_law_name" aDh){aAv:List D->M D}(aCz:Def P w K mg base k "_law_number" aAv){aBn:List D->M D}(aIa:Def P w K mg base k "_law_refused" aBn){aAo:List D->M D}(aBl:Def P w K mg base k "_law_same" aAo){aD8:List D->M D}(aPq:Def P w K mg base k "_law_sum" aD8){aCh:List D->M D}(aKj:Def P w K mg base k "_law_times" aCh){aAl:List D->M D}(aBa:Def P w K mg base k "times_over" aAl){aCg:List D->M D}(aG9:Def P w K mg base k "worth" aCg){aEg:List D->M (List (Str×D))}(aKk:Ctor P w K mg base k' "Costs" t.aAz aEg){aBh:List D->M (List (Str×D))}(aEc:Ctor P w K mg base k' "Counts" t.aAm aBh){aG3:List D->M (List (Str×D))}(aNk:Ctor P w K mg base k' "Rounds" t.aAq aG3){cdv:Value}{A:Around}{outer:List Env}{s:Shared}{H:Hp}{E:XK}(hr:aDm k (A.deeper (envOfC "law" (aAd aWj) s.heap.objs.size t.aS7 cdv)))(B:Hp):
  PDB (cxN P w K mg base bFq "law" (aAd aWj) t.aS7 cdv A outer s H E) B (aAt aWj) (aTb t aC6 aDi aBv aA8 aDh aAv aBn aAo aD8 aCh aAl aCg aEg aBh aG3):=
 by
 have hr':=hr.mono hk;refine aAa ?_ ?_;(refine aA9 (i:=1) (aIp).nd rfl (Or.inr rfl) ?_;(refine aSb (N':=aZt) (m:=1) (ks:=[11]) rfl rfl rfl rfl (by repeat (first | exact aUt | refine aOr rfl (by first | exact Or.inl rfl | exact Or.inr rfl) ?_)) rfl rfl rfl rfl rfl ?_ (fun C s₀ H₀ ex=> ?_) (fun C s₀ H₀ ex B=> ?_) (fun C s₀ H₀ ex B=> ?_);(refine bOq rfl T.aKi ?_;(exact aAj));(exact bG0 bHe rfl (Or.inl rfl));(exact aKv);(refine aAx aMa hr rfl ?_;(refine aAc ?_ ?_;(refine aCm ?_ ?_;(refine aAx aG2 hr rfl ?_;(refine aAc ?_ ?_;(exact aAb 0);(refine aAc ?_ ?_;(exact aAj);(exact aAk))));(exact aAj));(refine aAc ?_ ?_;(exact aAb 11);(exact aAk))))));(refine aAa ?_ ?_;(refine aA9 (i:=2) (aIp).nd rfl (Or.inl rfl) ?_;(refine aB3 ?_ ?_;(exact aAj);(refine aCm ?_ ?_;(refine aAx aG2 hr rfl ?_;(refine aAc ?_ ?_;(exact aAb 0);(refine aAc ?_ ?_;(exact aAj);(exact aAk))));(exact aAj))));(refine aAa ?_ ?_;(exact aR8 (i:=3) (aIp).nd rfl (Or.inl rfl));(refine aAa ?_ ?_;(exact aR8 (i:=4) (aIp).nd rfl (Or.inl rfl));(refine aAa ?_ ?_;(exact aR8 (i:=5) (aIp).nd rfl (Or.inl rfl));(refine aAa ?_ ?_;(refine aKx rfl T.aKi PassesOwn.never rfl ?_ (fun B=> ?_) (fun B=> ?_);(exact aAj);(exact aE8 (i:=6) (aIp).nd rfl (Or.inl rfl));(refine aAa ?_ ?_;(refine aJf hr 3 ?_ ?_;(refine aFq ?_ ?_ (fun _ _=>rfl);(exact aAb 1);(exact aAb 6));(refine aAx aCz hr rfl ?_;(refine aAc ?_ ?_;(refine aEd ?_ ?_;(refine aAx aG2 hr rfl ?_;(refine aAc ?_ ?_;(exact aAb 0);(refine aAc ?_ ?_;(exact aAj);(exact aAk))));(refine aB3 ?_ ?_;(exact aAb 6);(exact aAj)));(exact aAk))));(refine aAa ?_ ?_;(refine aJf hr 4 ?_ ?_;(refine aFq ?_ ?_ (fun _ _=>rfl);(exact aAb 1);(exact aAb 6));(refine aCm ?_ ?_;(refine aEd ?_ ?_;(refine aAx aG2 hr rfl ?_;(refine aAc ?_ ?_;(exact aAb 0);(refine aAc ?_ ?_;(exact aAj);(exact aAk))));(refine aB3 ?_ ?_;(exact aAb 6);(exact aAj)));(exact aAb 2)));(refine aAa ?_ ?_;(refine aJf hr 5 ?_ ?_;(refine aFq ?_ ?_ (fun _ _=>rfl);(exact aAb 1);(exact aAb 6));(refine aAx aMb hr rfl ?_;(refine aAc ?_ ?_;(refine aEd ?_ ?_;(refine aAx aG2 hr rfl ?_;(refine aAc ?_ ?_;(exact aAb 0);(refine aAc ?_ ?_;(exact aAj);(exact aAk))));(refine aB3 ?_ ?_;(exact aAb 6);(exact aAj)));(exact aAk))));(exact aAh)))));(refine aAa ?_ ?_;(refine bCm (i:=7) rfl T.bFe (aIp).nd rfl (Or.inl rfl) ?_;(exact aAb 3));(refine aAa ?_ ?_;(refine aCa ?_ ?_ ?_;(refine aIw ?_;(refine aG4 ?_;(refine aAx aKj hr rfl ?_;(refine aAc ?_ ?_;(refine aAx aCz hr rfl ?_;(refine aAc ?_ ?_;(refine aAx aG2 hr rfl ?_;(refine aAc ?_ ?_;(exact aAb 0);(refine aAc ?_ ?_;(exact aAj);(exact aAk))));(exact aAk)));(refine aAc ?_ ?_;(refine aOb hr ?_ ?_;(exact aAb 3);(refine aFq ?_ ?_ (fun _ _=>rfl);(exact aAb 1);(exact aAj)));(refine aAc ?_ ?_;(refine aOb hr ?_ ?_;(exact aAb 5);(refine aFq ?_ ?_ (fun _ _=>rfl);(exact aAb 1);(exact aAj)));(refine aAc ?_ ?_;(refine aFq ?_ ?_ (fun _ _=>rfl);(exact aAb 1);(exact aAj));(exact aAk))))))));(refine aAa ?_ ?_;(refine aAr ?_;(exact aIy));(exact aAh));(exact aAh));(refine aAa ?_ ?_;(refine bGw PassesOwn.never rfl ?_ (fun B=> ?_) (fun B=> ?_);(refine aNg ?_ ?_ ?_;(exact aAb 0);(refine aKy ?_;(exact aAj));(refine aKy ?_;(exact aAj)));(exact aE8 (i:=8) (aIp).nd rfl (Or.inl rfl));(refine aAa ?_ ?_;(refine aA9 (i:=9) (aIp).nd rfl (Or.inl rfl) ?_;(refine aAx aPq hr rfl ?_;(refine aAc ?_ ?_;(exact aAb 1);(refine aAc ?_ ?_;(exact aAb 8);(exact aAk)))));(refine aAa ?_ ?_;(refine aA9 (i:=10) (aIp).nd rfl (Or.inl rfl) ?_;(refine aAx aGs hr rfl ?_;(refine aAc ?_ ?_;(exact aAb 9);(refine aAc ?_ ?_;(exact aAb 3);(exact aAk)))));(refine aAa ?_ ?_;(refine aCa ?_ ?_ ?_;(refine aIw ?_;(refine aG4 ?_;(refine aAx aBl hr rfl ?_;(refine aAc ?_ ?_;(refine aAx aG9 hr rfl ?_;(refine aAc ?_ ?_;(exact aAb 9);(refine aAc ?_ ?_;(exact aGw aEc hr' rfl);(refine aAc ?_ ?_;(exact aAb 7);(exact aAk)))));(refine aAc ?_ ?_;(exact aAb 10);(exact aAk))))));(refine aAa ?_ ?_;(refine aAr ?_;(exact aIy));(exact aAh));(exact aAh));(refine aAa ?_ ?_;(refine aCa ?_ ?_ ?_;(refine aIw ?_;(refine aG4 ?_;(refine aAx aBl hr rfl ?_;(refine aAc ?_ ?_;(refine aAx aG9 hr rfl ?_;(refine aAc ?_ ?_;(exact aAb 9);(refine aAc ?_ ?_;(refine bCr aNk hr' rfl ?_;(refine aAc ?_ ?_;(exact aAb 2);(exact aAk)));(refine aAc ?_ ?_;(exact aAb 4);(exact aAk)))));(refine aAc ?_ ?_;(refine aCm ?_ ?_;(refine aAx aGs hr rfl ?_;(refine aAc ?_ ?_;(exact aAb 9);(refine aAc ?_ ?_;(exact aAb 4);(exact aAk))));(exact aAb 2));(exact aAk))))));(refine aAa ?_ ?_;(refine aAr ?_;(exact aIy));(exact aAh));(exact aAh));(refine aAa ?_ ?_;(refine aCa ?_ ?_ ?_;(refine aIw ?_;(refine aG4 ?_;(refine aAx aBl hr rfl ?_;(refine aAc ?_ ?_;(refine aAx aG9 hr rfl ?_;(refine aAc ?_ ?_;(exact aAb 9);(refine aAc ?_ ?_;(exact aGw aKk hr' rfl);(refine aAc ?_ ?_;(exact aAb 5);(exact aAk)))));(refine aAc ?_ ?_;(refine aAx aFu hr rfl ?_;(refine aAc ?_ ?_;(exact aAb 9);(refine aAc ?_ ?_;(exact aAb 5);(exact aAk))));(exact aAk))))));(refine aAa ?_ ?_;(refine aAr ?_;(exact aIy));(exact aAh));(exact aAh));(refine aAa ?_ ?_;(refine aJf hr 7 ?_ ?_;(refine aFq ?_ ?_ (fun _ _=>rfl);(exact aAb 1);(exact aAj));(refine aCm ?_ ?_;(exact aAb 8);(exact aAj)));(refine aAa ?_ ?_;(refine aCa ?_ ?_ ?_;(refine PDW.pdt ?_;(refine aUc ?_ ?_;(refine aIw ?_;(refine aG4 ?_;(refine aAx aBl hr rfl ?_;(refine aAc ?_ ?_;(refine aAx aG9 hr rfl ?_;(refine aAc ?_ ?_;(exact aAb 9);(refine aAc ?_ ?_;(exact aGw aEc hr' rfl);(refine aAc ?_ ?_;(exact aAb 7);(exact aAk)))));(refine aAc ?_ ?_;(refine aAx aGs hr rfl ?_;(refine aAc ?_ ?_;(exact aAb 9);(refine aAc ?_ ?_;(exact aAb 7);(exact aAk))));(exact aAk))))));(refine aN9 ?_;(refine aQu ?_ ?_;(refine bK5 rfl T.aM7 ?_;(exact aAb 7));(exact aAj)))));(refine aAa ?_ ?_;(refine aAr ?_;(exact aIy));(exact aAh));(exact aAh));(refine aAa ?_ ?_;(refine aJf hr 7 ?_ ?_;(refine aFq ?_ ?_ (fun _ _=>rfl);(exact aAb 1);(exact aAj));(refine aOb hr ?_ ?_;(exact aAb 3);(refine aFq ?_ ?_ (fun _ _=>rfl);(exact aAb 1);(exact aAj))));(refine aAa ?_ ?_;(refine aCa ?_ ?_ ?_;(refine aG4 ?_;(refine bO2 rfl rfl T.bQy ?_;(refine aSb (N':=aZu) (m:=1) (ks:=[11]) rfl rfl rfl rfl (by repeat (first | exact aUt | refine aOr rfl (by first | exact Or.inl rfl | exact Or.inr rfl) ?_)) rfl rfl rfl rfl rfl ?_ (fun C s₀ H₀ ex=> ?_) (fun C s₀ H₀ ex B=> ?_) (fun C s₀ H₀ ex B=> ?_);(refine bKv ?_;(exact aAb 9));(exact bG0 bHf rfl (Or.inl rfl));(exact aKv);(refine bSh ?_ ?_;(refine aFq ?_ ?_ (fun _ _=>rfl);(exact aAb 1);(exact aAj));(refine aFq ?_ ?_ (fun _ _=>rfl);(exact aAb 11);(exact aAj))))));(refine aAa ?_ ?_;(refine bGu (i:=7) rfl (Or.inl rfl) ?_;(refine aFq ?_ ?_ (fun _ _=>rfl);(exact aAb 1);(exact aAj)));(refine aAa ?_ ?_;(refine aCa ?_ ?_ ?_;(refine aIw ?_;(refine aG4 ?_;(refine aAx aIa hr rfl ?_;(refine aAc ?_ ?_;(exact aAb 9);(refine aAc ?_ ?_;(exact aAb 7);(exact aAk))))));(refine aAa ?_ ?_;(refine aAr ?_;(exact aIy));(exact aAh));(exact aAh));(refine aAa ?_ ?_;(refine aJf hr 7 ?_ ?_;(refine aFq ?_ ?_ (fun _ _=>rfl);(exact aAb 1);(exact aAj));(refine aOb hr ?_ ?_;(exact aAb 3);(refine aFq ?_ ?_ (fun _ _=>rfl);(exact aAb 1);(exact aAj))));(exact aAh))));(exact aAh));(exact aAh)))))))))));(refine aAa ?_ ?_;(refine aAr ?_;(refine aQ1 ?_ ?_;(refine bK9 ?_ ?_;(refine aAx aBa hr rfl ?_;(refine aAc ?_ ?_;(refine bCr aNk hr' rfl ?_;(refine aAc ?_ ?_;(exact aAb 2);(exact aAk)));(refine aAc ?_ ?_;(refine aB3 ?_ ?_;(exact aAb 2);(exact aAj));(refine aAc ?_ ?_;(refine bCp ?_ ?_;(exact aAb 2);(exact aAj));(exact aAk)))));(refine bCp ?_ ?_;(exact aAb 2);(exact aAj)));(refine aQz ?_;(refine bO1 hr ?_ ?_;(exact aAb 7);(exact aAb 3)))));(exact aAh))))))))))
theorem bMj (T:Txt K mg t){fd:FuncData}(Fu:Fun K "law" "law" aWj t.aS7 fd){k k':Nat}(hk:k'+1<=k){aC6:List D->M D}(aG2:Def P w K mg base k "_law_at" aC6){aDi:List D->M D}(aMb:Def P w K mg base k "_law_cost" aDi){aBv:List D->M D}(aGs:Def P w K mg base k "_law_count" aBv){aA8:List D->M D}(aFu:Def P w K mg base k "_law_least_cost" aA8){aDh:List D->M D}(aMa:Def P w K mg base k "_law_name" aDh){aAv:List D->M D}(aCz:Def P w K mg base k "_law_number" aAv){aBn:List D->M D}(aIa:Def P w K mg base k "_law_refused" aBn){aAo:List D->M D}(aBl:Def P w K mg base k "_law_same" aAo){aD8:List D->M D}(aPq:Def P w K mg base k "_law_sum" aD8){aCh:List D->M D}(aKj:Def P w K mg base k "_law_times" aCh){aAl:List D->M D}(aBa:Def P w K mg base k "times_over" aAl){aCg:List D->M D}(aG9:Def P w K mg base k "worth" aCg){aEg:List D->M (List (Str×D))}(aKk:Ctor P w K mg base k' "Costs" t.aAz aEg){aBh:List D->M (List (Str×D))}(aEc:Ctor P w K mg base k' "Counts" t.aAm aBh){aG3:List D->M (List (Str×D))}(aNk:Ctor P w K mg base k' "Rounds" t.aAq aG3){F:List D->M D}(hL: ∀ds r,F ds=some r->ds.length=1)(hq: ∀ds r,F ds=some r->∃d,r= .ok d/\aAn (aTb t aC6 aDi aBv aA8 aDh aAv aBn aAo aD8 aCh aAl aCg aEg aBh aG3 (aBg bFq ds))=ok d):FnD P w K mg base (k+1) t.aS7 fd ["_law_script"] F:=
 aLl Fu aIp hL fun cdv A outer s H E hr=>⟨_,fun B=>tm_law T hk aG2 aMb aGs aFu aMa aCz aIa aBl aPq aKj aBa aG9 aKk aEc aNk hr B,hq⟩
end
def dC:Option Int->D
 | none=> .non
 | some i=> .int i
def lo:Option Int->Option Int->Option Int
 | none,b=>b
 | a,none=>a
 | some x,some y=>some (if y<x then y else x)
def su:Option Int->Option Int->Option Int
 | some x,some y=>some (x+y)
 | _,_=>none
def bJv (c:Int):Option Int:=if c%4=0 then none else some (num (c/4))
theorem aUz (a:Option Int):(dC a).imm=true:=by cases a<;>rfl
theorem bOk (a:Option Int):(dC a).pl=true:=by cases a<;>rfl
theorem bJq (a:Option Int):(dC a).dep=0:=by cases a<;>rfl
def bMm (t:Adr):List D->M D:=aFc 1 fun ds=>aAn (aFm t aGl (aBg aHu ds))
theorem bMs (t:Adr)(c:Int):bMm t [.int c]=ok (dC (bJv c)):=by
 refine aB2 rfl ?_;have e0:aBg aHu [.int c]=[some (.sh (.int c))]:=rfl;rw[e0];by_cases h0:c%4=0
 ·simp[aFm,aAi,sIf,aB7,aA2,b2,look,con,bnd,ok,lft,aC1,gEq,eqF,aVz,aAn,SV.cur,h0,bJv,dC]
 ·simp[aFm,aAi,sIf,aB7,aA2,b2,look,con,bnd,ok,lft,aC1,aB9,gEq,eqF,aVz,aAn,SV.cur,h0,bJv,dC,aAp,app,aAe,aA3,aGl]
def aH2 (t:Adr):D:= .obj t.aAm [("nought",.int 0),("one",.int 1)]
def aOj (t:Adr):D:= .obj t.aAz [("nought",.non),("one",.int 0)]
def aSl (t:Adr):D:= .obj t.aAw [("nought",.bl false),("one",.bl true)]
def aG5 (t:Adr)(m:Int):D:= .obj t.aAq [("many",.int m),("nought",.int 0),("one",.int 1)]
theorem cs1 (t:Adr):cs t t.aAm=true:=by simp[cs]
theorem cs2 (t:Adr):cs t t.aAz=true:=by simp[cs]
theorem cs3 (t:Adr):cs t t.aAw=true:=by simp[cs]
theorem cs4 (t:Adr):cs t t.aAq=true:=by simp[cs]
def aDz:List D->M (List (Str×D))
 | []=>ok [("nought",.int 0),("one",.int 1)]
 | _=>none
def aJ1:List D->M (List (Str×D))
 | []=>ok [("nought",.non),("one",.int 0)]
 | _=>none
def aO7:List D->M (List (Str×D))
 | []=>ok [("nought",.bl false),("one",.bl true)]
 | _=>none
def aKe:List D->M (List (Str×D))
 | [.int m]=>if 2<=m then ok [("many",.int m),("nought",.int 0),("one",.int 1)] else none
 | _=>none
theorem bA1 (t:Adr): ∀ds r a dx,aDz ds=some r->∃fs,r= .ok fs/\aE5 a t.aAm dx (aC4 t (aNc aCv a t.aAm dx ds))=ok fs:=by
 intro ds r a dx h;unfold aDz at h;split at h
 ·cases h
  refine⟨_,rfl,?_⟩;have e0:aNc aCv a t.aAm dx []=[some (.oin a t.aAm dx [])]:=rfl;rw[e0];simp[aC4,aAi,aJq,con,lft,ok,D.imm,L2.PU.putAt,cs1,putD,aAp,aE5]
  try decide+kernel
 ·cases h
theorem bEv (t:Adr): ∀ds r a dx,aJ1 ds=some r->∃fs,r= .ok fs/\aE5 a t.aAz dx (aDl t (aNc aDd a t.aAz dx ds))=ok fs:=by
 intro ds r a dx h;unfold aJ1 at h;split at h
 ·cases h
  refine⟨_,rfl,?_⟩;have e0:aNc aDd a t.aAz dx []=[some (.oin a t.aAz dx [])]:=rfl;rw[e0];simp[aDl,aAi,aJq,con,lft,ok,D.imm,L2.PU.putAt,cs2,putD,aAp,aE5]
  try decide+kernel
 ·cases h
theorem aZy (t:Adr): ∀ds r a dx,aO7 ds=some r->∃fs,r= .ok fs/\aE5 a t.aAw dx (aC2 t (aNc aCt a t.aAw dx ds))=ok fs:=by
 intro ds r a dx h;unfold aO7 at h;split at h
 ·cases h
  refine⟨_,rfl,?_⟩;have e0:aNc aCt a t.aAw dx []=[some (.oin a t.aAw dx [])]:=rfl;rw[e0];simp[aC2,aAi,aJq,con,lft,ok,D.imm,L2.PU.putAt,cs3,putD,aAp,aE5]
  try decide+kernel
 ·cases h
def bEh (t:Adr):List D->M D:=aFc 2 fun ds=>aAn (aGz t (aBg aHv ds))
theorem bFv (t:Adr)(i j:Int):bEh t [.int i,.int j]=ok (.bl (decide (j<=i))):=by
 refine aB2 rfl ?_;have e0:aBg aHv [.int i,.int j]=[some (.sh (.int i)),some (.sh (.int j))]:=rfl;rw[e0];simp[aGz,aAi,aB7,aV0,bSq,isi,tyN,isB,b2,look,SV.cur,bnd,ok,lft,gGe,aVz,aAn]
theorem bCf {fs:List (Str×D)}{f:Str}{d:D}(h:(fs.map Prod.fst).all (fun p=>p !=f)=true):putD f d fs=fs++ [(f,d)]:=by
 induction fs with
 | nil=>rfl
 | cons p fs ih=>
  rw[List.map_cons,List.all_cons,Bool.and_eq_true] at h;obtain⟨x,v⟩:=p;have hx:¬x=f:=by simpa using h.1
  have:=ih h.2;simp[putD,hx,this]
theorem aS5 {t:Adr}{C a dx:Addr}{f:Str}{fa:Rho->M D}{d:D}{fs:List (Str×D)}{rest:Rho}(hc:cs t C=true)(h:fa (some (.oin a C dx fs)::rest)=ok d)(hd:d.imm=true)(xs:List Str)(hx:fs.map Prod.fst=xs)(hf:xs.all (fun p=>p !=f)=true)(hl:xs.length<5):aJq (cs t) 0 f fa (some (.oin a C dx fs)::rest)=some (.nx (some (.oin a C dx (fs++ [(f,d)]))::rest)):=by
 unfold aJq;rw[h];show (if d.imm=true then L2.PU.putAt (cs t) 0 f d (some (.oin a C dx fs)::rest) else none)=_;rw[if_pos hd];have hl':fs.length<5:=by rw[<-hx,List.length_map] at hl;exact hl
 rw[<-hx] at hf;simp[L2.PU.putAt,hc,bCf hf];omega
theorem bMl {t:Adr}{C a dx:Addr}{f:Str}{d:D}{fs:List (Str×D)}{rest:Rho}{j:Nat}(hc:cs t C=true)(h:rest[j]? =some (some (.sh d)))(xs:List Str)(hx:fs.map Prod.fst=xs)(hf:xs.all (fun p=>p !=f)=true)(hl:xs.length<5):bB5 (cs t) 0 f (j+1) (some (.oin a C dx fs)::rest)=some (.nx (some (.oin a C dx (fs++ [(f,d)]))::rest)):=by
 unfold bB5;rw[List.getElem?_cons_succ,h];have hl':fs.length<5:=by rw[<-hx,List.length_map] at hl;exact hl
 rw[<-hx] at hf;simp[L2.PU.putAt,hc,bCf hf];omega
theorem aZ8 (t:Adr): ∀ds r a dx,aKe ds=some r->aS1 a t.aAq dx (aC3 t (bEh t) (aNc aCu a t.aAq dx ds))=some r:=by
 intro ds r a dx h;unfold aKe at h;split at h
 ·rename_i m
  split at h
  ·rename_i hm
   cases h;have e0:aNc aCu a t.aAq dx [.int m]=[some (.oin a t.aAq dx []),some (.sh (.int m))]:=rfl;rw[e0];have w1:app (bEh t) (aAe (look 1) (aAe (con (.int 2)) aA3)) [some (.oin a t.aAq dx []),some (.sh (.int m))]=ok (.bl true):=by
    rw[aBj (aAf (d:= .int m) rfl (aAf (d:= .int 2) rfl aAs)),bFv,decide_eq_true hm]
   unfold aC3;rw[aAg (aJh w1),aAg (bMl (j:=0) (d:= .int m) (cs4 t) rfl [] rfl (by decide+kernel) (by decide)),aAg (aS5 (d:= .int 0) (cs4 t) rfl rfl ["many"] rfl (by decide+kernel) (by decide)),aAg (aS5 (d:= .int 1) (cs4 t) rfl rfl ["many","nought"] rfl (by decide+kernel) (by decide))];simp[aAp,aS1,aE5,ok]
  ·cases h
 ·cases h
theorem cs5 (t:Adr):cs t t.aBr=true:=by simp[cs]
def bC6 (t:Adr):D:= .obj t.aBr [("nought",sD []),("one",sD [([],1)])]
def aU1:List D->M (List (Str×D)):=fun ds=>if ds=[] then (ok [(("nought":Str),sD []),(("one":Str),sD [([],1)])]:M (List (Str×D))) else none
theorem bD4: ∀ds r,aU1 ds=some r->ds.length+1=1:=by
 intro ds r h;unfold aU1 at h;split at h
 ·rename_i e;subst e;rfl
 ·cases h
theorem bF1 (t:Adr): ∀ds r a dx,aU1 ds=some r->∃fs,r= .ok fs/\aE5 a t.aBr dx (aDx t (aNc aDt a t.aBr dx ds))=ok fs:=by
 intro ds r a dx h;unfold aU1 at h;split at h
 ·rename_i hx
  subst hx;cases h;refine⟨_,rfl,?_⟩;have e0:aNc aDt a t.aBr dx []=[some (.oin a t.aBr dx [])]:=rfl;rw[e0];unfold aDx;rw[aAg (aS5 (d:=sD []) (cs5 t) rfl rfl [] rfl (by decide+kernel) (by decide))];rw[aAg (aS5 (d:=sD [([],1)]) (cs5 t) rfl rfl ["nought"] rfl (by decide+kernel) (by decide))];simp[aAp,aE5]
 ·cases h
section
variable (t:Adr)
def bH1:List D->M D:=aFc 3 fun ds=>aAn (aF6 t (aBg aGq ds))
theorem bKu {o:D}{a b:Sm}(na:(kys a).Nodup)(ha:a.length<=1000)(hb:b.length<=1000)(hl:(aPv b a).length<64):bH1 t [o,sD a,sD b]=ok (sD (aWp a b)):=by
 refine aB2 rfl ?_;have e0:aBg aGq [o,sD a,sD b]=[some (.sh o),some (.sh (sD a)),some (.sh (sD b)),none,none,none]:=rfl;rw[e0];unfold aF6;rw[aAg (bLr (i:=3) (f:=look 1) (l:=a) rfl na ha)];show aAn (aAi _ _ [some (.sh o),some (.sh (sD a)),some (.sh (sD b)),some (.ow (.t (a.map kvD))),none,none])=_;obtain⟨ρ',g1,g2,g3,g4⟩:=aT9 (i:=3) (j:=4) (k:=5) (by decide) (by decide) (by decide) b a [some (.sh o),some (.sh (sD a)),some (.sh (sD b)),some (.ow (.t (a.map kvD))),none,none] (by simp) (by simp) (by simp) rfl (by omega);rw[aAg ((aXj (n:=2) (b:=b) rfl).trans g1)];have d3:dictAt ρ' 3=some ((aPv b a).map kvD):=by unfold dictAt;rw[g2]
 rw[aBf (aBp (aLe (g:=toT) (aWe d3 hl) rfl))];rfl
def aZb:List D->M D:=aFc 3 fun ds=>aAn (aFa t (aBg aFp ds))
theorem bF0 {o:D}{a b:Sm}(hl:a.length*b.length<64)(hm: ∀p∈a,∀q∈b,p.1.length+q.1.length<64/\aM5 p.2 q.2=true):aZb t [o,sD a,sD b]=ok (sD (bIl a b)):=by
 refine aB2 rfl ?_;have e0:aBg aFp [o,sD a,sD b]=[some (.sh o),some (.sh (sD a)),some (.sh (sD b)),none,none,none,none,none,none]:=rfl;rw[e0];unfold aFa;rw[aAg (show bBy 3 _=some (.nx [some (.sh o),some (.sh (sD a)),some (.sh (sD b)),some (.ow (.t [])),none,none,none,none,none]) from rfl)];obtain⟨ρ',g1,g2,g3⟩:=aQm (i:=3) (n:=2) (by decide) (b:=b) a [] [some (.sh o),some (.sh (sD a)),some (.sh (sD b)),some (.ow (.t [])),none,none,none,none,none] (by simp) rfl rfl (by simp;omega) hm;rw[aAg ((aXj (n:=1) (b:=a) rfl).trans g1)];have d3:dictAt ρ' 3=some ((aPv (aT8 a b) []).map kvD):=by unfold dictAt;rw[g2]
 rw[aBf (aBp (aLe (g:=toT) (aWe d3 (by simp at g3;omega)) rfl))];rfl
end
theorem bRm (t:Adr)(o:D)(a b:Bool):(aFc 3 fun ds=>aAn (aB5 t (aBg aCb ds))) [o,.bl a,.bl b]=ok (.bl (a || b)):=by
 refine aB2 rfl ?_;have e0:aBg aCb [o,.bl a,.bl b]=[some (.sh o),some (.sh (.bl a)),some (.sh (.bl b))]:=rfl;rw[e0];unfold aB5;rw[aBf (aBp (bO6 (a:=a) (b:=b) rfl rfl))];rfl
theorem bRj (t:Adr)(o:D)(a b:Bool):(aFc 3 fun ds=>aAn (aBs t (aBg aBz ds))) [o,.bl a,.bl b]=ok (.bl (a&&b)):=by
 refine aB2 rfl ?_;have e0:aBg aBz [o,.bl a,.bl b]=[some (.sh o),some (.sh (.bl a)),some (.sh (.bl b))]:=rfl;rw[e0];unfold aBs;rw[aBf (aBp (aXy (a:=a) (b:=b) rfl rfl))];rfl
theorem bQq (t:Adr)(o:D)(a b:Int):(aFc 3 fun ds=>aAn (aCr t (aBg aC5 ds))) [o,.int a,.int b]=ok (.int (a+b)):=aB2 rfl rfl
theorem bQp (t:Adr)(o:D){a b:Int}(h:aM5 a b=true):(aFc 3 fun ds=>aAn (aBu t (aBg aB1 ds))) [o,.int a,.int b]=ok (.int (a*b)):=by
 refine aB2 rfl ?_;have e0:aBg aB1 [o,.int a,.int b]=[some (.sh o),some (.sh (.int a)),some (.sh (.int b))]:=rfl;rw[e0];unfold aBu;rw[aBf (aBp (aQ3 (i:=a) (j:=b) rfl rfl h))];rfl
theorem bN1 (t:Adr){m a b:Int}(hm:2<=m):(aFc 3 fun ds=>aAn (aB6 t (aBg aCc ds))) [aG5 t m,.int a,.int b]=ok (.int ((a+b)%m)):=by
 refine aB2 rfl ?_;have e0:aBg aCc [aG5 t m,.int a,.int b]=[some (.sh (aG5 t m)),some (.sh (.int a)),some (.sh (.int b))]:=rfl;rw[e0];unfold aB6;rw[aBf (aBp (aFy (aIj (i:=a) (j:=b) rfl rfl) (bEf (C:=t.aAq) (d:= .int m) rfl (cs4 t) rfl) (by omega)))];rfl
theorem bN0 (t:Adr){m a b:Int}(hm:2<=m)(h:aM5 a b=true):(aFc 3 fun ds=>aAn (aBt t (aBg aB0 ds))) [aG5 t m,.int a,.int b]=ok (.int (a*b%m)):=by
 refine aB2 rfl ?_;have e0:aBg aB0 [aG5 t m,.int a,.int b]=[some (.sh (aG5 t m)),some (.sh (.int a)),some (.sh (.int b))]:=rfl;rw[e0];unfold aBt;rw[aBf (aBp (aFy (aQ3 (i:=a) (j:=b) rfl rfl h) (bEf (C:=t.aAq) (d:= .int m) rfl (cs4 t) rfl) (by omega)))];rfl
theorem aSd (t:Adr)(o:D)(a b:Option Int):(aFc 3 fun ds=>aAn (aDe t (aBg aCy ds))) [o,dC a,dC b]=ok (dC (lo a b)):=by
 refine aB2 rfl ?_;have e0:aBg aCy [o,dC a,dC b]=[some (.sh o),some (.sh (dC a)),some (.sh (dC b))]:=rfl;rw[e0];cases a<;>cases b<;>rfl
theorem bLd (t:Adr)(o:D)(a b:Option Int):(aFc 3 fun ds=>aAn (aCs t (aBg aCd ds))) [o,dC a,dC b]=ok (dC (su a b)):=by
 refine aB2 rfl ?_;have e0:aBg aCd [o,dC a,dC b]=[some (.sh o),some (.sh (dC a)),some (.sh (dC b))]:=rfl;rw[e0];cases a<;>cases b<;>rfl
section
variable (t:Adr)
theorem q9:(10:Int)^(9:Int).toNat=1000000000:=by decide
theorem q24:(10:Int)^(24:Int).toNat=1000000000000000000000000:=by decide
theorem q40:(10:Int)^(40:Int).toNat=10000000000000000000000000000000000000000:=by decide
def bRe:List D->M D:=aFc 1 fun ds=>aAn (aH7 t (aBg aJb ds))
theorem bI6 (c:Int): ∃b:Int,0<=b/\bRe t [.int c]=ok (.int b):=by
 refine⟨(c%1000000000+1)*2862933555777941757%(1000000000000000000000000+7),by omega,aB2 rfl ?_⟩;have e0:aBg aJb [.int c]=[some (.sh (.int c))]:=rfl;rw[e0];unfold aH7;have pw9:b2 aM6 (con (.int 10)) (con (.int 9)) [some (.sh (.int c))]=ok (.int 1000000000):=by simp[b2,con,bnd,ok,aM6,q9]
 have bUy:b2 aM6 (con (.int 10)) (con (.int 24)) [some (.sh (.int c))]=ok (.int 1000000000000000000000000):=by simp[b2,con,bnd,ok,aM6,q24]
 have m1:=aQ3 (aIj (aFy (f:=look 0) (ρ:=[some (.sh (.int c))]) (i:=c) rfl pw9 (by decide)) (g:=con (.int 1)) (j:=1) rfl) (g:=con (.int 2862933555777941757)) (j:=2862933555777941757) rfl (aK5 (by omega) (by omega) (by decide) (by decide));have m2:=aFy m1 (aIj bUy (g:=con (.int 7)) (j:=7) rfl) (by decide);rw[aBf (aBp m2)];rfl
end
abbrev Rs (P:List Str)(s1 s2 s3 s4 s5 s6 s7 s8 s9 s10:Option SV):Rho:=[some (.sh (.lst (P.map D.str))),s1,s2,s3,s4,s5,s6,s7,s8,s9,s10]
def bE7:Rho->Option Out:=(aAi (aYf aYu 6 (aAe (b2 gIx (look 0) (b2 aC1 (look 2) (f1 aF7 (look 0)))) aA3))
  (aAi (aDy 2 (b2 aB9 (look 2) (f1 aF7 (look 0))))
  aAp))
theorem bPu {P:List Str}{ρ:Rho}(h:look 0 ρ=ok (.lst (P.map D.str))):f1 aF7 (look 0) ρ=ok (.int (P.length:Int)):=by
 refine aLe h ?_;show ok (D.int ((P.map D.str).length:Int))=_;rw[List.length_map]
theorem bQv {P:List Str}(hP:0<P.length)(hP2:P.length<=100){s1 s3 s4 s5 s7 s9 s10:Option SV}{acc:List Str}(hl:acc.length<=1000)(b j:Int): ∃(x:Str) (b':Int),x∈P/\
  bE7 (Rs P s1 (some (.sh (.int b))) s3 s4 s5 (some (.own (acc.map D.str))) s7 (some (.sh (.int j))) s9 s10)=some (.nx (Rs P s1 (some (.sh (.int b'))) s3 s4 s5 (some (.own ((acc++ [x]).map D.str))) s7 (some (.sh (.int j))) s9 s10)):=by
 obtain⟨i,hi⟩: ∃i:Nat,b%(P.length:Int)=(i:Int):=⟨(b%(P.length:Int)).toNat,by have:=Int.emod_nonneg b (b:=(P.length:Int)) (by omega);omega⟩;have hi2:i<P.length:=by have:=Int.emod_lt_of_pos b (b:=(P.length:Int)) (by omega);omega
 refine⟨P[i],b/(P.length:Int),List.getElem_mem hi2,?_⟩;generalize hρ:Rs P s1 (some (.sh (.int b))) s3 s4 s5 (some (.own (acc.map D.str))) s7 (some (.sh (.int j))) s9 s10=ρ;have l0:look 0 ρ=ok (.lst (P.map D.str)):=by rw[<-hρ];rfl
 have l2:look 2 ρ=ok (.int b):=by rw[<-hρ];rfl
 have m:=aFy l2 (bPu l0) (by omega);rw[hi] at m;have ix:b2 gIx (look 0) (b2 aC1 (look 2) (f1 aF7 (look 0))) ρ=ok (.str P[i]):=aGu l0 m (aYw (by rw[List.getElem?_map,List.getElem?_eq_getElem hi2];rfl));have o1:aYf aYu 6 (aAe (b2 gIx (look 0) (b2 aC1 (look 2) (f1 aF7 (look 0)))) aA3) ρ=some (.nx (Rs P s1 (some (.sh (.int b))) s3 s4 s5 (some (.own ((acc++ [P[i]]).map D.str))) s7 (some (.sh (.int j))) s9 s10)):=by
  unfold aYf;have g6:ρ[6]? =some (some (.own (acc.map D.str))):=by rw[<-hρ];rfl
  rw[g6];show lft _ _ _=_;rw[aAf ix aAs];show (if aIm [D.str P[i]]=true/\(acc.map D.str).length<100000 then (match aYu (acc.map D.str) [D.str P[i]] with | some ds'=>some (Out.nx (ρ.set 6 (some (.own ds')))) | none=>none) else none)=_;rw[if_pos ⟨rfl,by rw[List.length_map];omega⟩,List.map_append,<-hρ];rfl
 unfold bE7;rw[aAg o1];have l0':look 0 (Rs P s1 (some (.sh (.int b))) s3 s4 s5 (some (.own ((acc++ [P[i]]).map D.str))) s7 (some (.sh (.int j))) s9 s10)=ok (.lst (P.map D.str)):=rfl;rw[aAg (aA1 (aI5 (f:=look 2) (i:=b) rfl (bPu l0') (by omega) (by omega)) rfl)];rfl
theorem bI8 {P:List Str}(hP:0<P.length)(hP2:P.length<=100){s1 s3 s4 s5 s7 s9 s10:Option SV}: ∀(js:List Nat) (acc:List Str) (b:Int) (o:Option SV),acc.length+js.length<=1000->∃(xs:List Str) (b':Int) (o':Option SV),xs.length=js.length/\(∀x∈xs,x∈P)/\
  loop (gN 8) bE7 (js.map fun (j:Nat)=>D.int (0+(j:Int))) (Rs P s1 (some (.sh (.int b))) s3 s4 s5 (some (.own (acc.map D.str))) s7 o s9 s10)=some (.nx (Rs P s1 (some (.sh (.int b'))) s3 s4 s5 (some (.own ((acc++xs).map D.str))) s7 o' s9 s10))
 | [],acc,b,o,_=>⟨[],b,o,rfl,(fun _ h=>by cases h),by rw[List.append_nil];rfl⟩
 | j::js,acc,b,o,hl=>by
  rw[List.length_cons] at hl;obtain⟨x,b1,hx,e1⟩:=bQv hP hP2 (s1:=s1) (s3:=s3) (s4:=s4) (s5:=s5) (s7:=s7) (s9:=s9) (s10:=s10) (acc:=acc) (by omega) b (0+(j:Int));obtain⟨xs,b2',o',h1,h2,h3⟩:=bI8 hP hP2 (s1:=s1) (s3:=s3) (s4:=s4) (s5:=s5) (s7:=s7) (s9:=s9) (s10:=s10) js (acc++ [x]) b1 (some (.sh (.int (0+(j:Int))))) (by rw[List.length_append,List.length_singleton];omega);refine⟨x::xs,b2',o',by rw[List.length_cons,List.length_cons,h1],fun y hy=> ?_,?_⟩
  ·rcases List.mem_cons.mp hy with rfl | hy
   ·exact hx
   ·exact h2 y hy
  ·rw[List.map_cons,aB4 (ρ1:=Rs P s1 (some (.sh (.int b))) s3 s4 s5 (some (.own (acc.map D.str))) s7 (some (.sh (.int (0+(j:Int))))) s9 s10) rfl e1,h3,List.append_assoc]
   rfl
theorem aS3 {f:Rho->M D}{G:D->Rho->Option Rho}{F:Rho->Option Out}{ρ:Rho}{n:Nat}(h:f ρ=ok (.int (n:Int)))(hn:n<=1000000):aEt f G F ρ=loop G F ((List.range n).map fun (j:Nat)=>D.int (0+(j:Int))) ρ:=by
 unfold aEt;rw[h,aHi]
 dsimp only
 rw[if_pos ⟨by omega,by omega⟩,Int.toNat_natCast];rfl
structure KInv (P:List Str)(n:Nat)(l:Sm):Prop where
 nd:(kys l).Nodup
 le:l.length<=n
 fi: ∀p∈l,aRk P p.1
 po: ∀p∈l,1<=p.2
 hi: ∀p∈l,p.2<=(n:Int)*20000000000000000000000000000000000000000
theorem aRk.pair {P k:List Str}(h:aRk P k):k.Pairwise fun a b=>leS a b=true:=by
 obtain⟨xs,rfl,_⟩:=h;exact aTx xs
theorem aRk.len {P k:List Str}(h:aRk P k):k.length<=3:=by
 obtain⟨xs,rfl,hl,_⟩:=h;rw[(aF9 xs).length_eq];exact hl
theorem KInv.add {P:List Str}{n:Nat}{l:Sm}(h:KInv P n l){k:List Str}(hk:aRk P k){m:Int}(h1:1<=m)(h2:m<=20000000000000000000000000000000000000000):KInv P (n+1) (aPu l (k,m)):=by
 have nd:=bFl h.nd (k,m);have e: ∀p∈aPu l (k,m),(p.1∈kys l\/p.1=k)/\p.2=aNn l p.1+(if k=p.1 then m else 0):=fun p hp=>by
  obtain⟨a,b⟩:=(bLx nd (k:=p.1) (v:=p.2)).mp hp;rw[bIe] at a;rw[bM4] at b;exact⟨a,b.symm⟩
 have v: ∀x:List Str,0<=aNn l x/\aNn l x<=(n:Int)*20000000000000000000000000000000000000000/\(x∈kys l->1<=aNn l x):=fun x=>by
  by_cases hx:x∈kys l
  ·obtain⟨p,hp,ep⟩:=List.mem_map.mp hx
   have q:=aV5 h.nd hp;rw[ep] at q;rw[q];have a:=h.po p hp;have b:=h.hi p hp;exact⟨by omega,b,fun _=>a⟩
  ·rw[bFw hx]
   exact⟨Int.le_refl _,by omega,fun z=>absurd z hx⟩
 refine⟨nd,Nat.le_trans (aTk l (k,m)) (Nat.succ_le_succ h.le),fun p hp=> ?_,fun p hp=> ?_,fun p hp=> ?_⟩
 ·rcases (e p hp).1 with z | z
  ·obtain⟨q,hq,eq⟩:=List.mem_map.mp z
   rw[<-eq];exact h.fi q hq
  ·rw[z];exact hk
 ·obtain⟨z,w⟩:=e p hp
  obtain⟨v1,v2,v3⟩:=v p.1;rw[w];rcases z with z | z
  ·have:=v3 z
   split<;>omega
  ·rw[if_pos z.symm];omega
 ·obtain⟨z,w⟩:=e p hp
  obtain⟨v1,v2,v3⟩:=v p.1;rw[w];split<;>omega
def bE6:Rho->Option Out:=(aAi (sNew 6 aA3)
  (aAi (aDy 7 (b2 aC1 (look 2) (con (.int 4))))
  (aAi (aDy 2 (b2 aB9 (look 2) (con (.int 4))))
  (aAi (aEt (look 7) (gN 8) (aAi (aYf aYu 6 (aAe (b2 gIx (look 0) (b2 aC1 (look 2) (f1 aF7 (look 0)))) aA3))
  (aAi (aDy 2 (b2 aB9 (look 2) (f1 aF7 (look 0))))
  aAp)))
  (aAi (aDy 9 (b2 aBd (con (.int 1)) (b2 aC1 (look 2) (con (.int 5)))))
  (aAi (aDy 2 (b2 aB9 (look 2) (con (.int 5))))
  (aAi (sIf (aA2 (b2 gEq (look 9) (con (.int 5)))) (aAi (aDy 9 (b2 aBd (b2 aM6 (con (.int 10)) (con (.int 40))) (look 5)))
  aAp) aAp)
  (aAi (aDy 10 (f1 toT (f1 bBo (look 6))))
  (aAi (aN4 3 10 (b2 aBd (aPd 3 10 (con (.int 0))) (look 9)))
  aAp)))))))))
abbrev ow (l:Sm):Option SV:=some (.ow (.t (l.map kvD)))
theorem bQu {P:List Str}(hP:0<P.length)(hP2:P.length<=100){s1 s4 s6 s7 s8 s9 s10:Option SV}{n:Nat}(hn:n<=1000){l:Sm}(hk:KInv P n l)(b:Int){k:Int}(k0:0<=k)(k1:k<=1000): ∃(b':Int) (l':Sm) (o6 o7 o8 o9 o10:Option SV),KInv P (n+1) l'/\
  bE6 (Rs P s1 (some (.sh (.int b))) (ow l) s4 (some (.sh (.int k))) s6 s7 s8 s9 s10)=some (.nx (Rs P s1 (some (.sh (.int b'))) (ow l') s4 (some (.sh (.int k))) o6 o7 o8 o9 o10)):=by
 obtain⟨i,hi⟩: ∃i:Nat,b%4=(i:Int):=⟨(b%4).toNat,by omega⟩;have hi4:i<=3:=by omega
 obtain⟨xs,b1,o8,hxl,hxP,hlp⟩:=bI8 hP hP2 (s1:=s1) (s3:=ow l) (s4:=s4) (s5:=some (.sh (.int k))) (s7:=some (.sh (.int (i:Int)))) (s9:=s9) (s10:=s10) (List.range i) [] (b/4) s8 (by rw[List.length_range];simp;omega);rw[List.length_range] at hxl;have hF:aRk P (aHz xs):=⟨xs,rfl,by omega,hxP⟩;have c9: ∃nn':Int,1<=nn'/\nn'<=20000000000000000000000000000000000000000/\sIf (aA2 (b2 gEq (look 9) (con (.int 5)))) (aAi (aDy 9 (b2 aBd (b2 aM6 (con (.int 10)) (con (.int 40))) (look 5))) aAp) aAp (Rs P s1 (some (.sh (.int (b1/5)))) (ow l) s4 (some (.sh (.int k))) (some (.own (xs.map D.str))) (some (.sh (.int (i:Int)))) o8 (some (.sh (.int (1+b1%5)))) s10)=some (.nx (Rs P s1 (some (.sh (.int (b1/5)))) (ow l) s4 (some (.sh (.int k))) (some (.own (xs.map D.str))) (some (.sh (.int (i:Int)))) o8 (some (.sh (.int nn'))) s10)):=by
  have nn1:1<=1+b1%5/\1+b1%5<=5:=by omega
  generalize 1+b1%5=nn at nn1⊢;generalize b1/5=b2';have tb:=aEa (aRe (f:=look 9) (g:=con (.int 5)) (ρ:=Rs P s1 (some (.sh (.int b2'))) (ow l) s4 (some (.sh (.int k))) (some (.own (xs.map D.str))) (some (.sh (.int (i:Int)))) o8 (some (.sh (.int nn))) s10) (i:=nn) (j:=5) rfl rfl);by_cases h5:nn=5
  ·rw[decide_eq_true h5] at tb
   have pw: ∀ρ,b2 aM6 (con (.int 10)) (con (.int 40)) ρ=ok (.int 10000000000000000000000000000000000000000):=fun ρ=>by simp[b2,con,bnd,ok,aM6,q40]
   exact⟨_,by omega,by omega,(aMy tb).trans (aAg (aA1 (aIj (pw _) (g:=look 5) (j:=k) rfl) rfl))⟩
  ·rw[decide_eq_false h5] at tb
   exact⟨nn,by omega,by omega,(aJ9 tb).trans rfl⟩
 obtain⟨nn',hn1,hn2,c9⟩:=c9;refine⟨b1/5,aPu l (aHz xs,nn'),some (.own (xs.map D.str)),some (.sh (.int (i:Int))),o8,some (.sh (.int nn')),some (.sh (tS (aHz xs))),hk.add hF hn1 hn2,?_⟩;unfold bE6;have s6e:sNew 6 aA3 (Rs P s1 (some (.sh (.int b))) (ow l) s4 (some (.sh (.int k))) s6 s7 s8 s9 s10)=some (.nx (Rs P s1 (some (.sh (.int b))) (ow l) s4 (some (.sh (.int k))) (some (.own [])) s7 s8 s9 s10)):=by simp[sNew,aA3,ok,lft,aIm]
 rw[aAg s6e];have m7:b2 aC1 (look 2) (con (.int 4)) (Rs P s1 (some (.sh (.int b))) (ow l) s4 (some (.sh (.int k))) (some (.own [])) s7 s8 s9 s10)=ok (.int (i:Int)):=by rw[<-hi];exact aFy (i:=b) rfl rfl (by decide)
 rw[aAg (aA1 m7 rfl)];show aAi _ _ (Rs P s1 (some (.sh (.int b))) (ow l) s4 (some (.sh (.int k))) (some (.own [])) (some (.sh (.int (i:Int)))) s8 s9 s10)=_;rw[aAg (aA1 (aI5 (i:=b) rfl rfl (by decide) (by decide)) rfl)];show aAi _ _ (Rs P s1 (some (.sh (.int (b/4)))) (ow l) s4 (some (.sh (.int k))) (some (.own [])) (some (.sh (.int (i:Int)))) s8 s9 s10)=_;have f8:aEt (look 7) (gN 8) bE7 (Rs P s1 (some (.sh (.int (b/4)))) (ow l) s4 (some (.sh (.int k))) (some (.own [])) (some (.sh (.int (i:Int)))) s8 s9 s10)=some (.nx (Rs P s1 (some (.sh (.int b1))) (ow l) s4 (some (.sh (.int k))) (some (.own (xs.map D.str))) (some (.sh (.int (i:Int)))) o8 s9 s10)):=by
  rw[aS3 rfl (by omega)];exact hlp
 show aAi (aEt (look 7) (gN 8) bE7) _ _=_;rw[aAg f8];have m9:=aIj (f:=con (.int 1)) (ρ:=Rs P s1 (some (.sh (.int b1))) (ow l) s4 (some (.sh (.int k))) (some (.own (xs.map D.str))) (some (.sh (.int (i:Int)))) o8 s9 s10) (i:=1) rfl (aFy (f:=look 2) (g:=con (.int 5)) (i:=b1) rfl rfl (by decide));rw[aAg (aA1 m9 rfl)];show aAi _ _ (Rs P s1 (some (.sh (.int b1))) (ow l) s4 (some (.sh (.int k))) (some (.own (xs.map D.str))) (some (.sh (.int (i:Int)))) o8 (some (.sh (.int (1+b1%5)))) s10)=_;rw[aAg (aA1 (aI5 (i:=b1) rfl rfl (by decide) (by decide)) rfl)];show aAi _ _ (Rs P s1 (some (.sh (.int (b1/5)))) (ow l) s4 (some (.sh (.int k))) (some (.own (xs.map D.str))) (some (.sh (.int (i:Int)))) o8 (some (.sh (.int (1+b1%5)))) s10)=_;rw[aAg c9];have e10:f1 toT (f1 bBo (look 6)) (Rs P s1 (some (.sh (.int (b1/5)))) (ow l) s4 (some (.sh (.int k))) (some (.own (xs.map D.str))) (some (.sh (.int (i:Int)))) o8 (some (.sh (.int nn'))) s10)=ok (tS (aHz xs)):=aLe (g:=toT) (aLe (d:= .lst (xs.map D.str)) rfl (bKc (by omega))) rfl;rw[aAg (aA1 e10 (aO5 _))];show aAi _ _ (Rs P s1 (some (.sh (.int (b1/5)))) (ow l) s4 (some (.sh (.int k))) (some (.own (xs.map D.str))) (some (.sh (.int (i:Int)))) o8 (some (.sh (.int nn'))) (some (.sh (tS (aHz xs)))))=_;exact aXz (i:=3) (j:=10) (l:=l) (k:=aHz xs) rfl (bDk rfl) (n:=nn') rfl (by have:=hk.le;omega)
theorem bI7 {P:List Str}(hP:0<P.length)(hP2:P.length<=100){s1 s4:Option SV}: ∀(js:List Nat) (n:Nat) (l:Sm) (b:Int) (s5 s6 s7 s8 s9 s10:Option SV),n+js.length<=1000->(∀j∈js,j<=1000)->KInv P n l->∃(b':Int) (l':Sm) (o5 o6 o7 o8 o9 o10:Option SV),KInv P (n+js.length) l'/\
  loop (gN 5) bE6 (js.map fun (j:Nat)=>D.int (0+(j:Int))) (Rs P s1 (some (.sh (.int b))) (ow l) s4 s5 s6 s7 s8 s9 s10)=some (.nx (Rs P s1 (some (.sh (.int b'))) (ow l') s4 o5 o6 o7 o8 o9 o10))
 | [],n,l,b,s5,s6,s7,s8,s9,s10,_,_,hk=>⟨b,l,s5,s6,s7,s8,s9,s10,hk,rfl⟩
 | j::js,n,l,b,s5,s6,s7,s8,s9,s10,hl,hj,hk=>by
  rw[List.length_cons] at hl;have j1:=hj j List.mem_cons_self;obtain⟨b1,l1,o6,o7,o8,o9,o10,hk1,e1⟩:=bQu hP hP2 (s1:=s1) (s4:=s4) (s6:=s6) (s7:=s7) (s8:=s8) (s9:=s9) (s10:=s10) (n:=n) (by omega) hk b (k:=0+(j:Int)) (by omega) (by omega);obtain⟨b2',l2,p5,p6,p7,p8,p9,p10,hk2,e2⟩:=bI7 hP hP2 (s1:=s1) (s4:=s4) js (n+1) l1 b1 (some (.sh (.int (0+(j:Int))))) o6 o7 o8 o9 o10 (by omega) (fun j' h'=>hj j' (List.mem_cons_of_mem _ h')) hk1;refine⟨b2',l2,p5,p6,p7,p8,p9,p10,?_,?_⟩
  ·rw[List.length_cons]
   have e:n+(js.length+1)=n+1+js.length:=by omega
   rw[e];exact hk2
  ·rw[List.map_cons,aB4 (ρ1:=Rs P s1 (some (.sh (.int b))) (ow l) s4 (some (.sh (.int (0+(j:Int))))) s6 s7 s8 s9 s10) rfl e1,e2]
structure bQ6 (P:List Str)(l:Sm):Prop where
 ma:MarkS l
 le:l.length<=3
 fi: ∀p∈l,aRk P p.1
 hi: ∀p∈l,p.2<=60000000000000000000000000000000000000000
def bRd (t:Adr):List D->M D:=aFc 2 fun ds=>aAn (aH6 t (bRe t) (aBg aJa ds))
theorem bNr (t:Adr){P:List Str}(hP:0<P.length)(hP2:P.length<=100)(c:Int): ∃l:Sm,bQ6 P l/\bRd t [.lst (P.map D.str),.int c]=ok (sD l):=by
 obtain⟨b,hb,eb⟩:=bI6 t c;obtain⟨i,hi⟩: ∃i:Nat,b%4=(i:Int):=⟨(b%4).toNat,by omega⟩;have hi4:i<=3:=by omega
 obtain⟨b',l,o5,o6,o7,o8,o9,o10,hk,hlp⟩:=bI7 hP hP2 (s1:=some (.sh (.int c))) (s4:=some (.sh (.int (i:Int)))) (List.range i) 0 [] (b/4) none none none none none none (by rw[List.length_range];omega) (fun j hj=>by have:=List.mem_range.mp hj;omega) ⟨.nil,Nat.le_refl _,(fun q hq=>nomatch hq),(fun q hq=>nomatch hq),(fun q hq=>nomatch hq)⟩;rw[List.length_range,Nat.zero_add] at hk;have ll:l.length<=3:=Nat.le_trans hk.le hi4;have mem: ∀p∈aZ2 l,p∈l:=fun p hp=>(aKp l).mem_iff.mp hp
 refine⟨aZ2 l,⟨⟨bBn hk.nd,fun p hp=>aRk.pair (hk.fi p (mem p hp)),fun p hp=>hk.po p (mem p hp)⟩,by rw[aYb];exact ll,fun p hp=>hk.fi p (mem p hp),fun p hp=> ?_⟩,aB2 rfl ?_⟩
 ·have:=hk.hi p (mem p hp)
  have:(i:Int)<=3:=by omega
  omega
 have e0:aBg aJa [.lst (P.map D.str),.int c]=Rs P (some (.sh (.int c))) none none none none none none none none none:=rfl;rw[e0];unfold aH6;have a2:app (bRe t) (aAe (look 1) aA3) (Rs P (some (.sh (.int c))) none none none none none none none none none)=ok (.int b):=(aBj (aAf (d:= .int c) rfl aAs)).trans eb;rw[aAg (aA1 a2 rfl)];have n3:bBy 3 (Rs P (some (.sh (.int c))) (some (.sh (.int b))) none none none none none none none none)=some (.nx (Rs P (some (.sh (.int c))) (some (.sh (.int b))) (ow []) none none none none none none none)):=rfl;show aAn (aAi _ _ (Rs P (some (.sh (.int c))) (some (.sh (.int b))) none none none none none none none none))=_;rw[aAg n3];have m4:b2 aC1 (look 2) (con (.int 4)) (Rs P (some (.sh (.int c))) (some (.sh (.int b))) (ow []) none none none none none none none)=ok (.int (i:Int)):=by rw[<-hi];exact aFy (i:=b) rfl rfl (by decide)
 rw[aAg (aA1 m4 rfl)];show aAn (aAi _ _ (Rs P (some (.sh (.int c))) (some (.sh (.int b))) (ow []) (some (.sh (.int (i:Int)))) none none none none none none))=_;rw[aAg (aA1 (aI5 (i:=b) rfl rfl (by decide) (by decide)) rfl)];have f5:aEt (look 4) (gN 5) bE6 (Rs P (some (.sh (.int c))) (some (.sh (.int (b/4)))) (ow []) (some (.sh (.int (i:Int)))) none none none none none none)=some (.nx (Rs P (some (.sh (.int c))) (some (.sh (.int b'))) (ow l) (some (.sh (.int (i:Int)))) o5 o6 o7 o8 o9 o10)):=by
  rw[aS3 rfl (by omega)];exact hlp
 show aAn (aAi (aEt (look 4) (gN 5) bE6) _ (Rs P (some (.sh (.int c))) (some (.sh (.int (b/4)))) (ow []) (some (.sh (.int (i:Int)))) none none none none none none))=_;rw[aAg f5];rw[aBf (aBp (aLe (g:=toT) (aWe (i:=3) (l:=l) rfl (by omega)) rfl))];rfl
open Classical in
def mP (t:Adr):Addr->Option (List D->M D):=fun C=>
 if C=t.aAw then some (aFc 3 fun ds=>aAn (aB5 t (aBg aCb ds))) else if C=t.aAm then some (aFc 3 fun ds=>aAn (aCr t (aBg aC5 ds)))
  else if C=t.aAq then some (aFc 3 fun ds=>aAn (aB6 t (aBg aCc ds))) else if C=t.aAz then some (aFc 3 fun ds=>aAn (aDe t (aBg aCy ds)))
  else if C=t.aBr then some (bH1 t) else none
open Classical in
def mT (t:Adr):Addr->Option (List D->M D):=fun C=>
 if C=t.aAw then some (aFc 3 fun ds=>aAn (aBs t (aBg aBz ds))) else if C=t.aAm then some (aFc 3 fun ds=>aAn (aBu t (aBg aB1 ds)))
  else if C=t.aAq then some (aFc 3 fun ds=>aAn (aBt t (aBg aB0 ds))) else if C=t.aAz then some (aFc 3 fun ds=>aAn (aCs t (aBg aCd ds)))
  else if C=t.aBr then some (aZb t) else none
section
variable {P:Program}{w:World}{K:PySem.W.Frag}{mg:Str->Option Value}{base:Heap}{t:Adr}
theorem bPn (X:Txt K mg t)(n:Nat): ∀C F,mP t C=some F->Mth P w K mg base (n+1) C "plus" F:=by
 intro C F h;unfold mP at h;split at h
 ·rename_i e;cases h;rw[e];exact aQb X aBi aDn
 split at h
 ·rename_i e;cases h;rw[e];exact aQd X aBi aDn
 split at h
 ·rename_i e;cases h;rw[e];exact aQc X aBi aDn
 split at h
 ·rename_i e;cases h;rw[e];exact aSk X aBi aDn
 split at h
 ·rename_i e;cases h;rw[e];exact aUj X aBi aDn
 ·cases h
theorem bPm (X:Txt K mg t)(n:Nat): ∀C F,mT t C=some F->Mth P w K mg base (n+1) C "times" F:=by
 intro C F h;unfold mT at h;split at h
 ·rename_i e;cases h;rw[e];exact aOg X aBi aDn
 split at h
 ·rename_i e;cases h;rw[e];exact aOi X aBi aDn
 split at h
 ·rename_i e;cases h;rw[e];exact aOh X aBi aDn
 split at h
 ·rename_i e;cases h;rw[e];exact aQe X aBi aDn
 split at h
 ·rename_i e;cases h;rw[e];exact aSj X aBi aDn
 ·cases h
end
section
variable {K:PySem.W.Frag}{mg:Str->Option Value}{t:Adr}(X:Txt K mg t)
include X
theorem bG3:mP t t.aAw=some (aFc 3 fun ds=>aAn (aB5 t (aBg aCb ds))):=by unfold mP;rw[if_pos rfl]
theorem bG5:mP t t.aAm=some (aFc 3 fun ds=>aAn (aCr t (aBg aC5 ds))):=by unfold mP;rw[if_neg X.aFt,if_pos rfl]
theorem bG4:mP t t.aAq=some (aFc 3 fun ds=>aAn (aB6 t (aBg aCc ds))):=by unfold mP;rw[if_neg X.aFr,if_neg X.aFs,if_pos rfl]
theorem bLb:mP t t.aAz=some (aFc 3 fun ds=>aAn (aDe t (aBg aCy ds))):=by unfold mP;rw[if_neg X.aGe,if_neg X.aGg,if_neg X.aGf,if_pos rfl]
theorem bO3:mP t t.aBr=some (bH1 t):=by unfold mP;rw[if_neg X.aG6,if_neg X.aG8,if_neg X.aG7,if_neg X.aH3,if_pos rfl]
theorem bGh:mT t t.aAw=some (aFc 3 fun ds=>aAn (aBs t (aBg aBz ds))):=by unfold mT;rw[if_pos rfl]
theorem bGj:mT t t.aAm=some (aFc 3 fun ds=>aAn (aBu t (aBg aB1 ds))):=by unfold mT;rw[if_neg X.aFt,if_pos rfl]
theorem bGi:mT t t.aAq=some (aFc 3 fun ds=>aAn (aBt t (aBg aB0 ds))):=by unfold mT;rw[if_neg X.aFr,if_neg X.aFs,if_pos rfl]
theorem bKm:mT t t.aAz=some (aFc 3 fun ds=>aAn (aCs t (aBg aCd ds))):=by unfold mT;rw[if_neg X.aGe,if_neg X.aGg,if_neg X.aGf,if_pos rfl]
theorem bOb:mT t t.aBr=some (aZb t):=by unfold mT;rw[if_neg X.aG6,if_neg X.aG8,if_neg X.aG7,if_neg X.aH3,if_pos rfl]
end
structure Way (t:Adr)(o:D)(F G:List D->M D) where
 C:Addr
 fs:List (Str×D)
 eo:o= .obj C fs
 hc:cs t C=true
 hP:mP t C=some F
 hT:mT t C=some G
 np:fs.lookup ("plus":Str)=none
 nt:fs.lookup ("times":Str)=none
section
variable {t:Adr}{o:D}{F G:List D->M D}(W:Way t o F G)
include W
theorem Way.plus {f:Rho->M D}{g:Rho->M (List D)}{ρ:Rho}{x y r:D}(h1:f ρ=ok o)(h2:g ρ=ok [x,y])(h3:F [o,x,y]=ok r):aTn "plus" (mP t) f g ρ=ok r:=by
 rw[W.eo] at h1;rw[bFi h1 W.hP W.np h2,<-W.eo];exact h3
theorem Way.times {f:Rho->M D}{g:Rho->M (List D)}{ρ:Rho}{x y r:D}(h1:f ρ=ok o)(h2:g ρ=ok [x,y])(h3:G [o,x,y]=ok r):aTn "times" (mT t) f g ρ=ok r:=by
 rw[W.eo] at h1;rw[bFi h1 W.hT W.nt h2,<-W.eo];exact h3
theorem Way.fld {f:Rho->M D}{ρ:Rho}{x:Str}{d:D}(h1:f ρ=ok o)(h:W.fs.lookup x=some d):L2.PU.fld (cs t) x f ρ=ok d:=by
 rw[W.eo] at h1;exact bEf h1 W.hc h
end
def bT4 (t:Adr):List D->M D:=aFc 2 fun ds=>aAn (aGx t (mP t) (aBg aHs ds))
def allOf {α:Type}(n:α)(op:α->α->α):List α->α
 | []=>n
 | a::l=>l.foldl op a
def aVl (t:Adr):Rho->Option Out:=(aAi (bBz 3 (cmp 1 (bL4 (con (.int 0)) (b2 aXh (f1 aF7 (look 2)) (con (.int 1))) (con (.int 2))) [4] h1 (fun _=>ok true) (aTn "plus" (mP t) (look 0) (aAe (b2 gIx (look 2) (look 4)) (aAe (b2 gIx (look 2) (b2 aBd (look 4) (con (.int 1)))) aA3)))))
  (aAi (sIf (aA2 (b2 gEq (b2 aC1 (f1 aF7 (look 2)) (con (.int 2))) (con (.int 1)))) (aAi (aYf aYu 3 (aAe (b2 gIx (look 2) (f1 bSr (con (.int 1)))) aA3))
  aAp) aAp)
  (aAi (aDy 2 (look 3))
  aAp)))
theorem aWv {ρ ρ':Rho}{i:Nat}{g:Rho->M D}{acc:List D}{d:D}(h1:ρ[i]? =some (some (.own acc)))(hg:g ρ=ok d)(hd:d.imm=true)(hl:acc.length<1000)(e:ρ.set i (some (.own (acc++ [d])))=ρ'):aYf aYu i (aAe g aA3) ρ=some (.nx ρ'):=by
 unfold aYf;rw[h1];show lft _ _ _=_;rw[aAf hg aAs];show (if aIm [d]=true/\acc.length<100000 then (match aYu acc [d] with | some ds'=>some (Out.nx (ρ.set i (some (.own ds')))) | none=>none) else none)=_;have hi:aIm [d]=true:=by
  show (d.imm&&true)=true;rw[hd];rfl
 rw[if_pos ⟨hi,by omega⟩,<-e];rfl
section
variable {t:Adr}{o:D}{F G:List D->M D}(W:Way t o F G){α:Type}{e:α->D}{op:α->α->α}{n:α}(hn:W.fs.lookup ("nought":Str)=some (e n))(hi: ∀a,(e a).imm=true)(hF: ∀a b,F [o,e a,e b]=ok (e (op a b)))
include W hi hF
theorem aSc {m:D}{a b:α}{l:List α}{s3:Option SV}(s3f:s3=none\/∃d,s3=some (.sh d))(hl:l.length<=1):aVl t [some (.sh o),some (.sh m),some (.sh (.lst ((a::b::l).map e))),s3]=some (.nx [some (.sh o),some (.sh m),some (.sh (.lst ((op a b::l).map e))),some (.sh (.lst ((op a b::l).map e)))]):=by
 have fr:free [some (.sh o),some (.sh m),some (.sh (.lst ((a::b::l).map e))),s3]=[some (.sh o),some (.sh m),some (.sh (.lst ((a::b::l).map e))),s3]:=by
  rcases s3f with rfl |⟨d,rfl⟩<;>rfl
 have it1:bL4 (con (.int 0)) (b2 aXh (f1 aF7 (look 2)) (con (.int 1))) (con (.int 2)) [some (.sh o),some (.sh m),some (.sh (.lst ((a::b::l).map e))),s3]=ok [.int 0]:=by
  have ln:b2 aXh (f1 aF7 (look 2)) (con (.int 1)) [some (.sh o),some (.sh m),some (.sh (.lst ((a::b::l).map e))),s3]=ok (.int ((l.length:Int)+1)):=by
   have:=bBi (f:=f1 aF7 (look 2)) (g:=con (.int 1)) (ρ:=[some (.sh o),some (.sh m),some (.sh (.lst ((a::b::l).map e))),s3]) (i:=((l.length+2:Nat):Int)) (j:=1) (aLe (d:= .lst ((a::b::l).map e)) rfl (by show ok (D.int (((a::b::l).map e).length:Int))=_;rw[List.length_map];rfl)) rfl;rw[this]
   congr 2
   omega
  unfold bL4;rw[aAf (d:= .int 0) rfl (aAf ln (aAf (d:= .int 2) rfl aAs)),aCx];show (if (2:Int)=2/\(0:Int)<=0/\(0:Int)<2^61/\ -(2^61)<=(l.length:Int)+1/\(l.length:Int)+1<2^61 then ok (aXl 0 (if (0:Int)<(l.length:Int)+1 then ((l.length:Int)+1-0-1)/2+1 else 0).toNat) else none)=_;rw[if_pos ⟨rfl,by decide,by decide,by omega,by omega⟩,if_pos (by omega),show (((l.length:Int)+1-0-1)/2+1).toNat=1 by omega];rfl
 have ap:aTn "plus" (mP t) (look 0) (aAe (b2 gIx (look 2) (look 4)) (aAe (b2 gIx (look 2) (b2 aBd (look 4) (con (.int 1)))) aA3)) [some (.sh o),some (.sh m),some (.sh (.lst ((a::b::l).map e))),s3,some (.sh (.int 0))]=ok (e (op a b)):=by
  refine W.plus rfl (aAf (d:=e a) ?_ (aAf (d:=e b) ?_ aAs)) (hF a b)
  ·exact aGu (x:= .lst ((a::b::l).map e)) (y:= .int ((0:Nat):Int)) rfl rfl (aYw rfl)
  ·exact aGu (x:= .lst ((a::b::l).map e)) (y:= .int ((1:Nat):Int)) rfl rfl (aYw rfl)
 have c1:cmp 1 (bL4 (con (.int 0)) (b2 aXh (f1 aF7 (look 2)) (con (.int 1))) (con (.int 2))) [4] h1 (fun _=>ok true) (aTn "plus" (mP t) (look 0) (aAe (b2 gIx (look 2) (look 4)) (aAe (b2 gIx (look 2) (b2 aBd (look 4) (con (.int 1)))) aA3))) [some (.sh o),some (.sh m),some (.sh (.lst ((a::b::l).map e))),s3]=ok (.lst [e (op a b)]):=by
  unfold cmp;rw[it1,aCx,if_pos (by simp),fr];show bnd (match aTn "plus" (mP t) (look 0) (aAe (b2 gIx (look 2) (look 4)) (aAe (b2 gIx (look 2) (b2 aBd (look 4) (con (.int 1)))) aA3)) [some (.sh o),some (.sh m),some (.sh (.lst ((a::b::l).map e))),s3,some (.sh (.int 0))] with
    | some (.ok r)=>if r.imm=true then bnd (ok []) fun rs=>ok (r::rs) else none
    | _=>none) _=_
  rw[ap];show bnd (if (e (op a b)).imm=true then bnd (ok []) fun rs=>ok (e (op a b)::rs) else none) _=_;rw[if_pos (hi _)];rfl
 have s1:bBz 3 (cmp 1 (bL4 (con (.int 0)) (b2 aXh (f1 aF7 (look 2)) (con (.int 1))) (con (.int 2))) [4] h1 (fun _=>ok true) (aTn "plus" (mP t) (look 0) (aAe (b2 gIx (look 2) (look 4)) (aAe (b2 gIx (look 2) (b2 aBd (look 4) (con (.int 1)))) aA3)))) [some (.sh o),some (.sh m),some (.sh (.lst ((a::b::l).map e))),s3]=some (.nx [some (.sh o),some (.sh m),some (.sh (.lst ((a::b::l).map e))),some (.own [e (op a b)])]):=by
  unfold bBz;rw[c1];rfl
 unfold aVl;rw[aAg s1];clear s1 c1 ap it1 fr
 match l,hl with
 | [],_=>
  have q:=aEa (aRe (f:=b2 aC1 (f1 aF7 (look 2)) (con (.int 2))) (g:=con (.int 1)) (ρ:=[some (.sh o),some (.sh m),some (.sh (.lst ([a,b].map e))),some (.own [e (op a b)])]) (aFy (i:=2) (j:=2) rfl rfl (by decide)) (j:=1) rfl);rw[decide_eq_false (by decide)] at q;rw[aAg ((aJ9 q).trans rfl),aAg (aR1 (d:= .lst [e (op a b)]) rfl)];rfl
 | [c],_=>
  have q:=aEa (aRe (f:=b2 aC1 (f1 aF7 (look 2)) (con (.int 2))) (g:=con (.int 1)) (ρ:=[some (.sh o),some (.sh m),some (.sh (.lst ([a,b,c].map e))),some (.own [e (op a b)])]) (aFy (i:=3) (j:=2) rfl rfl (by decide)) (j:=1) rfl);rw[decide_eq_true (by decide)] at q;rw[aAg ((aMy q).trans (aAg (aWv (i:=3) (acc:=[e (op a b)]) (d:=e c) rfl rfl (hi c) (by simp) rfl)))];show aAi _ _ [some (.sh o),some (.sh m),some (.sh (.lst ([a,b,c].map e))),some (.own [e (op a b),e c])]=_;rw[aAg (aR1 (d:= .lst [e (op a b),e c]) rfl)];rfl
include hn
theorem bQ2 {ms:List α}(hl:ms.length<=3):bT4 t [o,.lst (ms.map e)]=ok (e (allOf n op ms)):=by
 refine aB2 rfl ?_;have e0:aBg aHs [o,.lst (ms.map e)]=[some (.sh o),some (.sh (.lst (ms.map e))),none,none]:=rfl;rw[e0];unfold aGx;rw[aAg (aR2 (aLe (g:=toL) (d:= .lst (ms.map e)) (r:=ok (.lst (ms.map e))) rfl rfl) rfl)];show aAn (aAi _ _ [some (.sh o),some (.sh (.lst (ms.map e))),some (.sh (.lst (ms.map e))),none])=_
 match ms,hl with
 | [],_=>
  have q:aA2 (b2 gEq (f1 aF7 (look 2)) (con (.int 0))) [some (.sh o),some (.sh (.lst (([]:List α).map e))),some (.sh (.lst (([]:List α).map e))),none]=ok true:=rfl;rw[aBf ((aMy q).trans (aBf (aBp (W.fld (f:=look 0) rfl hn))))];rfl
 | [a],_=>
  have q:aA2 (b2 gEq (f1 aF7 (look 2)) (con (.int 0))) [some (.sh o),some (.sh (.lst ([a].map e))),some (.sh (.lst ([a].map e))),none]=ok false:=rfl;have w:aIt (aA2 (b2 gGt (f1 aF7 (look 2)) (con (.int 1)))) (aVl t) [some (.sh o),some (.sh (.lst ([a].map e))),some (.sh (.lst ([a].map e))),none]=some (.nx [some (.sh o),some (.sh (.lst ([a].map e))),some (.sh (.lst ([a].map e))),none]):=aNa rfl 99999;rw[aAg ((aJ9 q).trans rfl)];show aAn (aAi (aIt _ (aVl t)) _ _)=_;rw[aAg w,aBf (aBp (d:=e a) rfl)];rfl
 | [a,b],_=>
  have q:aA2 (b2 gEq (f1 aF7 (look 2)) (con (.int 0))) [some (.sh o),some (.sh (.lst ([a,b].map e))),some (.sh (.lst ([a,b].map e))),none]=ok false:=rfl;have w:aIt (aA2 (b2 gGt (f1 aF7 (look 2)) (con (.int 1)))) (aVl t) [some (.sh o),some (.sh (.lst ([a,b].map e))),some (.sh (.lst ([a,b].map e))),none]=some (.nx [some (.sh o),some (.sh (.lst ([a,b].map e))),some (.sh (.lst ([op a b].map e))),some (.sh (.lst ([op a b].map e)))]):=
   (aNb rfl (aSc W hi hF (.inl rfl) (by simp)) 99999).trans (aNa rfl 99998)
  rw[aAg ((aJ9 q).trans rfl)];show aAn (aAi (aIt _ (aVl t)) _ _)=_;rw[aAg w,aBf (aBp (d:=e (op a b)) rfl)];rfl
 | [a,b,c],_=>
  have q:aA2 (b2 gEq (f1 aF7 (look 2)) (con (.int 0))) [some (.sh o),some (.sh (.lst ([a,b,c].map e))),some (.sh (.lst ([a,b,c].map e))),none]=ok false:=rfl;have w:aIt (aA2 (b2 gGt (f1 aF7 (look 2)) (con (.int 1)))) (aVl t) [some (.sh o),some (.sh (.lst ([a,b,c].map e))),some (.sh (.lst ([a,b,c].map e))),none]=some (.nx [some (.sh o),some (.sh (.lst ([a,b,c].map e))),some (.sh (.lst ([op (op a b) c].map e))),some (.sh (.lst ([op (op a b) c].map e)))]):=
   ((aNb rfl (aSc W hi hF (.inl rfl) (by simp)) 99999).trans (aNb rfl (aSc W hi hF (l:=[]) (.inr ⟨_,rfl⟩) (by simp)) 99998)).trans (aNa rfl 99997)
  rw[aAg ((aJ9 q).trans rfl)];show aAn (aAi (aIt _ (aVl t)) _ _)=_;rw[aAg w,aBf (aBp (d:=e (op (op a b) c)) rfl)];rfl
end
def aHq (t:Adr):List D->M D:=aFc 3 fun ds=>aAn (aE9 t (mP t) (mT t) (aBg aFo ds))
def bE4 (t:Adr):Rho->Option Out:=(aAi (sIf (aA2 (b2 gEq (b2 aC1 (look 5) (con (.int 2))) (con (.int 1)))) (aAi (aDy 3 (aTn "plus" (mP t) (look 0) (aAe (look 3) (aAe (look 4) aA3))))
  aAp) aAp)
  (aAi (aDy 4 (aTn "plus" (mP t) (look 0) (aAe (look 4) (aAe (look 4) aA3))))
  (aAi (aDy 5 (b2 aB9 (look 5) (con (.int 2))))
  aAp)))
section
variable {t:Adr}{o:D}{F G:List D->M D}(W:Way t o F G){R:Nat->D}(h0:W.fs.lookup ("nought":Str)=some (R 0))(h1:W.fs.lookup ("one":Str)=some (R 1))(hi: ∀n,(R n).imm=true)(hF: ∀a b,F [o,R a,R b]=ok (R (a+b)))
include W hi hF
theorem bCw {n mark:D}: ∀(l fuel x d:Nat),l<2^fuel->∃d',sWh (aA2 (b2 gGt (look 5) (con (.int 0)))) (bE4 t) (fuel+1) [some (.sh o),some (.sh n),some (.sh mark),some (.sh (R x)),some (.sh (R d)),some (.sh (.int (l:Int)))]=some (.nx [some (.sh o),some (.sh n),some (.sh mark),some (.sh (R (x+d*l))),some (.sh (R d')),some (.sh (.int 0))]):=by
 intro l
 induction l using Nat.strongRecOn with
 | ind l ih=>
  intro fuel x d hl;by_cases hz:l=0
  ·subst hz
   exact⟨d,by rw[Nat.mul_zero,Nat.add_zero];exact aNa rfl fuel⟩
  ·obtain⟨bS7,rfl⟩: ∃f,fuel=f+1:=by
    cases fuel with
    | zero=>omega
    | succ f=>exact⟨f,rfl⟩
   have tt:aA2 (b2 gGt (look 5) (con (.int 0))) [some (.sh o),some (.sh n),some (.sh mark),some (.sh (R x)),some (.sh (R d)),some (.sh (.int (l:Int)))]=ok true:=by
    have:=aEa (bP9 (f:=look 5) (g:=con (.int 0)) (ρ:=[some (.sh o),some (.sh n),some (.sh mark),some (.sh (R x)),some (.sh (R d)),some (.sh (.int (l:Int)))]) (i:=(l:Int)) (j:=0) rfl rfl);rw[decide_eq_true (by omega)] at this;exact this
   have q:=aEa (aRe (f:=b2 aC1 (look 5) (con (.int 2))) (g:=con (.int 1)) (ρ:=[some (.sh o),some (.sh n),some (.sh mark),some (.sh (R x)),some (.sh (R d)),some (.sh (.int (l:Int)))]) (aFy (i:=(l:Int)) (j:=2) rfl rfl (by decide)) (j:=1) rfl);have fd: ∀x:Nat,b2 aB9 (look 5) (con (.int 2)) [some (.sh o),some (.sh n),some (.sh mark),some (.sh (R x)),some (.sh (R (d+d))),some (.sh (.int (l:Int)))]=ok (.int ((l/2:Nat):Int)):=fun x=>by
    rw[show (((l/2:Nat):Int))=(l:Int)/2 by omega];exact aI5 (i:=(l:Int)) (j:=2) rfl rfl (by decide) (by decide)
   have step: ∀x':Nat,x'=x+d*(l%2)->bE4 t [some (.sh o),some (.sh n),some (.sh mark),some (.sh (R x)),some (.sh (R d)),some (.sh (.int (l:Int)))]=some (.nx [some (.sh o),some (.sh n),some (.sh mark),some (.sh (R x')),some (.sh (R (d+d))),some (.sh (.int ((l/2:Nat):Int)))]):=fun x' ex=>by
    unfold bE4;by_cases hm:l%2=1
    ·rw[decide_eq_true (by omega)] at q
     have ex2:x'=x+d:=by rw[ex,hm,Nat.mul_one]
     rw[aAg ((aMy q).trans (aAg (aA1 (W.plus (f:=look 0) rfl (aAf (d:=R x) rfl (aAf (d:=R d) rfl aAs)) (hF x d)) (hi _))))];show aAi _ _ [some (.sh o),some (.sh n),some (.sh mark),some (.sh (R (x+d))),some (.sh (R d)),some (.sh (.int (l:Int)))]=_;rw[<-ex2,aAg (aA1 (W.plus (f:=look 0) rfl (aAf (d:=R d) rfl (aAf (d:=R d) rfl aAs)) (hF d d)) (hi _))];show aAi _ _ [some (.sh o),some (.sh n),some (.sh mark),some (.sh (R x')),some (.sh (R (d+d))),some (.sh (.int (l:Int)))]=_;rw[aAg (aA1 (fd x') rfl)];rfl
    ·rw[decide_eq_false (by omega)] at q
     have ex2:x'=x:=by rw[ex,show l%2=0 by omega,Nat.mul_zero,Nat.add_zero]
     rw[aAg ((aJ9 q).trans rfl),ex2,aAg (aA1 (W.plus (f:=look 0) rfl (aAf (d:=R d) rfl (aAf (d:=R d) rfl aAs)) (hF d d)) (hi _))];show aAi _ _ [some (.sh o),some (.sh n),some (.sh mark),some (.sh (R x)),some (.sh (R (d+d))),some (.sh (.int (l:Int)))]=_;rw[aAg (aA1 (fd x) rfl)];rfl
   obtain⟨d',e⟩:=ih (l/2) (by omega) bS7 (x+d*(l%2)) (d+d) (by rw[Nat.pow_succ] at hl;omega);refine⟨d',?_⟩;rw[aNb tt (step _ rfl),e];have ee:x+d*(l%2)+(d+d)*(l/2)=x+d*l:=by
    have h2:l=l%2+2*(l/2):=by omega
    conv=>rhs;rw[h2]
    rw[Nat.mul_add,<-Nat.mul_assoc,Nat.mul_two,Nat.add_assoc]
   rw[ee]
include h0 h1
theorem aLu {n:Nat}{mark r:D}(hn:n<2^99999)(hG:G [o,R n,mark]=ok r):aHq t [o,.int (n:Int),mark]=ok r:=by
 refine aB2 rfl ?_;have e0:aBg aFo [o,.int (n:Int),mark]=[some (.sh o),some (.sh (.int (n:Int))),some (.sh mark),none,none,none]:=rfl;rw[e0];unfold aE9;rw[aAg (aA1 (W.fld (f:=look 0) rfl h0) (hi 0))];show aAn (aAi _ _ [some (.sh o),some (.sh (.int (n:Int))),some (.sh mark),some (.sh (R 0)),none,none])=_;rw[aAg (aA1 (W.fld (f:=look 0) rfl h1) (hi 1))];show aAn (aAi _ _ [some (.sh o),some (.sh (.int (n:Int))),some (.sh mark),some (.sh (R 0)),some (.sh (R 1)),none])=_;rw[aAg (aA1 (d:= .int (n:Int)) rfl rfl)];show aAn (aAi (aIt _ (bE4 t)) _ [some (.sh o),some (.sh (.int (n:Int))),some (.sh mark),some (.sh (R 0)),some (.sh (R 1)),some (.sh (.int (n:Int)))])=_;obtain⟨d',e⟩:=bCw W hi hF (n:= .int (n:Int)) (mark:=mark) n 99999 0 1 hn;rw[Nat.zero_add,Nat.one_mul] at e;rw[aAg (show aIt _ (bE4 t) _=_ from e),aBf (aBp (W.times (f:=look 0) rfl (aAf (d:=R n) rfl (aAf (d:=mark) rfl aAs)) hG))];rfl
end
abbrev lS (xs:List Str):D:= .lst (xs.map D.str)
def mk (l:List (Str×D)):D:= .dk (l.map fun p=>(Sum.inr p.1,p.2))
def aKf (l:List (Str×D))(n:Str):Option D:=(l.find? fun p=>decide (p.1=n)).map (·.2)
theorem val_mk (l:List (Str×D))(n:Str):aMt (l.map fun p=>((Sum.inr p.1:Key),p.2)) (Sum.inr n)=aKf l n:=by
 unfold aMt aKf
 induction l with
 | nil=>rfl
 | cons p l ih=>
  rw[List.map_cons,List.find?_cons,List.find?_cons];by_cases e:p.1=n
  ·rw[decide_eq_true (show (Sum.inr p.1:Key)=Sum.inr n by rw[e]),decide_eq_true e]
   rfl
  ·rw[decide_eq_false (fun z:(Sum.inr p.1:Key)=Sum.inr n=>e (Sum.inr.inj z)),decide_eq_false e]
   exact ih
theorem aPb {f g:Rho->M D}{ρ:Rho}{l:List (Str×D)}{n:Str}{v:D}(h1:f ρ=ok (mk l))(h2:g ρ=ok (.str n))(h:aKf l n=some v):b2 aU4 f g ρ=ok v:=by
 refine aGu h1 h2 ?_;show (match aMt (l.map fun p=>((Sum.inr p.1:Key),p.2)) (Sum.inr n) with | some v=>ok v | none=>none)=_;rw[val_mk,h]
theorem bQk {f g:Rho->M D}{ρ:Rho}{l:List (Str×D)}{n:Str}(h1:f ρ=ok (.str n))(h2:g ρ=ok (mk l)):b2 (bJk true) f g ρ=ok (.bl (!(aKf l n).isSome)):=by
 refine aGu h1 h2 ?_;show ok (D.bl (if true then !(aMt (l.map fun p=>((Sum.inr p.1:Key),p.2)) (Sum.inr n)).isSome else _))=_;rw[val_mk];rfl
def fNames (t:Adr):List D->M D:=aFc 1 fun ds=>aAn (aGy t (aBg aHt ds))
def bE8:Rho->Option Out:=(aAi (aZ7 1 (aAe (b2 gIx (look 2) (con (.int 0))) aA3))
  aAp)
theorem bPi {ρ:Rho}{i:Nat}:sNew i aA3 ρ=some (.nx (ρ.set i (some (.own [])))):=by simp[sNew,aA3,ok,lft,aIm]
theorem bEe {f:Rho->M D}{ρ:Rho}{p:List Str×Int}(h:f ρ=ok (pD p)):b2 gIx f (con (.int 0)) ρ=ok (tS p.1):=aGu h (y:= .int ((0:Nat):Int)) rfl (bDo rfl)
theorem bAk {x:D}: ∀(l:Sm) (acc:List Str) (s:Option SV),acc.length+(l.flatMap (·.1)).length<=1000->
  ∃s',loop (gN 2) bE8 (l.map pD) [some (.sh x),some (.own (acc.map D.str)),s]=some (.nx [some (.sh x),some (.own ((acc++l.flatMap (·.1)).map D.str)),s']):=by
 intro l
 induction l with
 | nil=>intro acc s _;exact⟨s,by simp[loop]⟩
 | cons p l ih=>
  intro acc s hl;rw[List.flatMap_cons,List.length_append] at hl;have s1:aZ7 1 (aAe (b2 gIx (look 2) (con (.int 0))) aA3) [some (.sh x),some (.own (acc.map D.str)),some (.sh (pD p))]=some (.nx [some (.sh x),some (.own ((acc++p.1).map D.str)),some (.sh (pD p))]):=by
   unfold aZ7;show lft _ _ _=_;rw[aAf (bEe (f:=look 2) (p:=p) rfl) aAs];show (if aIm (p.1.map D.str)=true/\(acc.map D.str).length+(p.1.map D.str).length<=100000 then _ else _)=_;rw[if_pos ⟨aU0 _,by simp only[List.length_map];omega⟩,List.map_append];rfl
  obtain⟨s',h⟩:=ih (acc++p.1) (some (.sh (pD p))) (by rw[List.length_append];omega);refine⟨s',?_⟩;have e:bE8 [some (.sh x),some (.own (acc.map D.str)),some (.sh (pD p))]=some (.nx [some (.sh x),some (.own ((acc++p.1).map D.str)),some (.sh (pD p))]):=by
   unfold bE8;rw[aAg s1];rfl
  have g:gN 2 (pD p) [some (.sh x),some (.own (acc.map D.str)),s]=some [some (.sh x),some (.own (acc.map D.str)),some (.sh (pD p))]:=by
   show some (aLk 2 (pD p) _)=_;rw[aEk (bCt p)];rfl
  rw[List.map_cons];refine (aB4 g e).trans ?_;rw[h,List.flatMap_cons,List.append_assoc]
def namesOf (l:Sm):List Str:=aHz (aJj (l.flatMap (·.1)))
theorem bHj {xs:List Str}{x:Str}:x∈aJj xs↔x∈xs:=by
 have:=bHk xs x;rw[Bool.eq_iff_iff,List.contains_iff_mem,List.contains_iff_mem] at this;exact this
theorem aUm {l:Sm}{x:Str}:x∈namesOf l↔∃p∈l,x∈p.1:=by
 unfold namesOf;rw[(aF9 _).mem_iff,bHj,List.mem_flatMap]
theorem bHg (t:Adr){l:Sm}(hl:(l.flatMap (·.1)).length<60):fNames t [sD l]=ok (lS (namesOf l)):=by
 refine aB2 rfl ?_;have e0:aBg aHt [sD l]=[some (.sh (sD l)),none,none]:=rfl;rw[e0];unfold aGy;rw[aAg bPi];obtain⟨s',lp⟩:=bAk (x:=sD l) l [] none (by rw[List.length_nil,Nat.zero_add];omega);have s2:aF0 0 (gN 2) bE8 [some (.sh (sD l)),some (.own []),none]=some (.nx [some (.sh (sD l)),some (.own ((l.flatMap (·.1)).map D.str)),s']):=lp;show aAn (aAi (aF0 0 (gN 2) bE8) _ [some (.sh (sD l)),some (.own []),none])=_;have q2:bNs (.set (aJj (l.flatMap (·.1))))=ok (lS (namesOf l)):=by
  show (if (aJj (l.flatMap (·.1))).length<64/\(aJj (l.flatMap (·.1))).Nodup then ok (D.lst ((aHz (aJj (l.flatMap (·.1)))).map .str)) else none)=_;rw[if_pos ⟨by have:=bDc (l.flatMap (·.1));omega,bAl _⟩];rfl
 rw[aAg s2,aBf (aBp (aLe (g:=bNs) (aLe (g:=toS) (d:=lS (l.flatMap (·.1))) rfl (bNl _ (by omega))) q2))];rfl
def aRd (t:Adr):List D->M D:=bIh 2 fun ds=>aAn (aE2 t (fNames t) (aBg aE4 ds))
def aVp (t:Adr):Rho->Option Out:=(aAi (sIf (aA2 (b2 (bJk true) (look 2) (look 1))) (aAi (aN3 t.aAu (aAe (jnd (bNa "no mark is told for " (bP2 (look 2) bM9))) aA3))
  aAp) aAp)
  aAp)
theorem bA3 (t:Adr){x:D}{d:List (Str×D)}: ∀(ns:List Str) (s:Option SV),(∀n∈ns,Sh n)->
  (if (ns.all fun n=>(aKf d n).isSome)=true then∃ρ,loop (gN 2) (aVp t) (ns.map D.str) [some (.sh x),some (.sh (mk d)),s]=some (.nx ρ)
  else∃ρ,loop (gN 2) (aVp t) (ns.map D.str) [some (.sh x),some (.sh (mk d)),s]=some (.ex t.aAu ρ)):=by
 intro ns
 induction ns with
 | nil=>intro s _;rw[List.all_nil,if_pos rfl];exact⟨_,rfl⟩
 | cons n ns ih=>
  intro s hs;have q:=aEa (bQk (f:=look 2) (g:=look 1) (ρ:=[some (.sh x),some (.sh (mk d)),some (.sh (.str n))]) (l:=d) (n:=n) rfl rfl);rw[List.all_cons,List.map_cons];cases hb:(aKf d n).isSome with
  | true=>
   rw[hb] at q;have e:aVp t [some (.sh x),some (.sh (mk d)),some (.sh (.str n))]=some (.nx [some (.sh x),some (.sh (mk d)),some (.sh (.str n))]):=by
    unfold aVp;rw[aAg ((aJ9 q).trans rfl)];rfl
   rw[Bool.true_and,aB4 (ρ1:=[some (.sh x),some (.sh (mk d)),some (.sh (.str n))]) rfl e];exact ih _ fun m hm=>hs m (List.mem_cons_of_mem _ hm)
  | false=>
   rw[hb] at q;obtain⟨z,hz⟩:=bU8 (c:="no mark is told for ") (f:=look 2) (ρ:=[some (.sh x),some (.sh (mk d)),some (.sh (.str n))]) (by decide+kernel) (hs n List.mem_cons_self) rfl;rw[Bool.false_and,if_neg (by decide)];refine⟨[some (.sh x),some (.sh (mk d)),some (.sh (.str n))],?_⟩;have e:aVp t [some (.sh x),some (.sh (mk d)),some (.sh (.str n))]=some (.ex t.aAu [some (.sh x),some (.sh (mk d)),some (.sh (.str n))]):=by
    unfold aVp;exact aN2 ((aMy q).trans (bC1 hz))
   unfold loop;rw[show gN 2 (.str n) [some (.sh x),some (.sh (mk d)),s]=some [some (.sh x),some (.sh (mk d)),some (.sh (.str n))] from rfl]
   dsimp only
   rw[e]
theorem aZh (t:Adr){l:Sm}{d:List (Str×D)}(hl:(l.flatMap (·.1)).length<60)(hs: ∀n∈namesOf l,Sh n):aRd t [sD l,mk d]=if ((namesOf l).all fun n=>(aKf d n).isSome)=true then ok .non else err t.aAu:=by
 refine aV4 rfl ?_;have e0:aBg aE4 [sD l,mk d]=[some (.sh (sD l)),some (.sh (mk d)),none]:=rfl;rw[e0];unfold aE2;have z:=bA3 t (x:=sD l) (d:=d) (namesOf l) none hs;have c1:app (fNames t) (aAe (look 0) aA3) [some (.sh (sD l)),some (.sh (mk d)),none]=ok (lS (namesOf l)):=(aBj (aAf (d:=sD l) rfl aAs)).trans (bHg t hl);have f1:=bGc (G:=gN 2) (F:=aVp t) c1 (ds:=(namesOf l).map D.str) rfl;have fr:(if (lS (namesOf l)).imm=true then [some (SV.sh (sD l)),some (SV.sh (mk d)),none] else free [some (SV.sh (sD l)),some (SV.sh (mk d)),none])=[some (SV.sh (sD l)),some (SV.sh (mk d)),none]:=by split<;>rfl
 rw[fr] at f1;show aAn (aAi (bB4 _ (gN 2) (aVp t)) _ _)=_;by_cases h:((namesOf l).all fun n=>(aKf d n).isSome)=true
 ·rw[if_pos h] at z⊢
  obtain⟨ρ,z⟩:=z;rw[aAg (f1.trans z)];rfl
 ·rw[if_neg h] at z⊢
  obtain⟨ρ,z⟩:=z;rw[aN2 (f1.trans z)];rfl
def bH0 (t:Adr):List D->M D:=aFc 3 fun ds=>aAn (aDw t (mT t) (aBg aDs ds))
def bE3 (t:Adr):Rho->Option Out:=(aAi (aDy 3 (aTn "times" (mT t) (look 1) (aAe (look 3) (aAe (b2 aU4 (look 2) (look 4)) aA3))))
  aAp)
section
variable {t:Adr}{o:D}{F G:List D->M D}(W:Way t o F G){α:Type}{e:α->D}{tm:α->α->α}{one:α}{v:Str->α}{d:List (Str×D)}{k:List Str}(h1':W.fs.lookup ("one":Str)=some (e one))(hi: ∀a,(e a).imm=true)(hv: ∀x∈k,aKf d x=some (e (v x)))
  (hG: ∀xs x ys,k=xs++x::ys->G [o,e ((xs.map v).foldl tm one),e (v x)]=ok (e (tm ((xs.map v).foldl tm one) (v x))))
include W hi hv hG
theorem bCh: ∀(ys xs:List Str) (s:Option SV),k=xs++ys->∃s',loop (gN 4) (bE3 t) (ys.map D.str) [some (.sh (tS k)),some (.sh o),some (.sh (mk d)),some (.sh (e ((xs.map v).foldl tm one))),s]=some (.nx [some (.sh (tS k)),some (.sh o),some (.sh (mk d)),some (.sh (e ((k.map v).foldl tm one))),s']):=by
 intro ys
 induction ys with
 | nil=>intro xs s ek;rw[List.append_nil] at ek;subst ek;exact⟨s,rfl⟩
 | cons x ys ih=>
  intro xs s ek;have hx:x∈k:=by rw[ek];exact List.mem_append_right _ List.mem_cons_self
  obtain⟨s',h⟩:=ih (xs++ [x]) (some (.sh (.str x))) (by rw[ek,List.append_assoc];rfl);rw[List.map_append,List.foldl_append] at h;refine⟨s',?_⟩;have b:bE3 t [some (.sh (tS k)),some (.sh o),some (.sh (mk d)),some (.sh (e ((xs.map v).foldl tm one))),some (.sh (.str x))]=some (.nx [some (.sh (tS k)),some (.sh o),some (.sh (mk d)),some (.sh (e (tm ((xs.map v).foldl tm one) (v x)))),some (.sh (.str x))]):=by
   unfold bE3;rw[aAg (aA1 (W.times (f:=look 1) rfl (aAf (d:=e ((xs.map v).foldl tm one)) rfl (aAf (aPb (f:=look 2) (g:=look 4) (l:=d) (n:=x) rfl rfl (hv x hx)) aAs)) (hG xs x ys ek)) (hi _))];rfl
  rw[List.map_cons];exact (aB4 (ρ1:=[some (.sh (tS k)),some (.sh o),some (.sh (mk d)),some (.sh (e ((xs.map v).foldl tm one))),some (.sh (.str x))]) rfl b).trans h
include h1'
theorem aWo:bH0 t [tS k,o,mk d]=ok (e ((k.map v).foldl tm one)):=by
 refine aB2 rfl ?_;have e0:aBg aDs [tS k,o,mk d]=[some (.sh (tS k)),some (.sh o),some (.sh (mk d)),none,none]:=rfl;rw[e0];unfold aDw;rw[aAg (aA1 (W.fld (f:=look 1) rfl h1') (hi _))];obtain⟨s',lp⟩:=bCh W hi hv hG k [] none rfl;have s2:aF0 0 (gN 4) (bE3 t) [some (.sh (tS k)),some (.sh o),some (.sh (mk d)),some (.sh (e one)),none]=some (.nx [some (.sh (tS k)),some (.sh o),some (.sh (mk d)),some (.sh (e ((k.map v).foldl tm one))),s']):=lp;show aAn (aAi (aF0 0 (gN 4) (bE3 t)) _ [some (.sh (tS k)),some (.sh o),some (.sh (mk d)),some (.sh (e one)),none])=_;rw[aAg s2,aBf (aBp (d:=e ((k.map v).foldl tm one)) rfl)];rfl
end
def aEj (t:Adr):List D->M D:=bIh 3 fun ds=>aAn (aI8 t (aRd t) (bT4 t) (bH0 t) (aHq t) (aBg aL7 ds))
theorem bEw {k k2:Nat}{fe:Rho->M D}{ρ:Rho}{g:List Str×Int->D}: ∀(l:Sm),(∀p∈l,fe ((ρ.set k (some (.sh (tS p.1)))).set k2 (some (.sh (.int p.2))))=ok (g p)/\(g p).imm=true)->
  aMp [k,k2] h2 (fun _=>ok true) fe (l.map pD) ρ=ok (l.map g)
 | [],_=>rfl
 | x::l,h=>by
  obtain⟨e1,e2⟩:=h x List.mem_cons_self;have ih:=bEw (g:=g) l fun p hp=>h p (List.mem_cons_of_mem _ hp)
  rw[List.map_cons,List.map_cons];unfold aMp;show (match fe ((ρ.set k (some (.sh (tS x.1)))).set k2 (some (.sh (.int x.2)))) with
    | some (.ok r)=>if r.imm=true then bnd (aMp [k,k2] h2 (fun _=>ok true) fe (l.map pD) ρ) fun rs=>ok (r::rs) else none
    | _=>none)=_
  rw[e1,ih];show (if (g x).imm=true then bnd (ok (l.map g)) fun rs=>ok (g x::rs) else none)=_;rw[if_pos e2];rfl
theorem aV1 (t:Adr){l:Sm}{o:D}{d:List (Str×D)}(hl:(l.flatMap (·.1)).length<60)(hs: ∀n∈namesOf l,Sh n)(h:¬((namesOf l).all fun n=>(aKf d n).isSome)=true):aEj t [sD l,o,mk d]=err t.aAu:=by
 refine aV4 rfl ?_;have e0:aBg aL7 [sD l,o,mk d]=[some (.sh (sD l)),some (.sh o),some (.sh (mk d))]:=rfl;rw[e0];unfold aI8;have c:app (aRd t) (aAe (look 0) (aAe (look 2) aA3)) [some (.sh (sD l)),some (.sh o),some (.sh (mk d))]=err t.aAu:=by
  rw[aBj (aAf (d:=sD l) rfl (aAf (d:=mk d) rfl aAs)),aZh t hl hs,if_neg h]
 have s:aP8 (app (aRd t) (aAe (look 0) (aAe (look 2) aA3))) [some (.sh (sD l)),some (.sh o),some (.sh (mk d))]=some (.ex t.aAu [some (.sh (sD l)),some (.sh o),some (.sh (mk d))]):=by
  unfold aP8;rw[c];rfl
 rw[aN2 s];rfl
theorem aRl {t:Adr}{o:D}{F G:List D->M D}(W:Way t o F G){α:Type}{e:α->D}{op:α->α->α}{n:α}(hn:W.fs.lookup ("nought":Str)=some (e n))(hi: ∀a,(e a).imm=true)(hF: ∀a b,F [o,e a,e b]=ok (e (op a b)))
  {l:Sm} {d:List (Str×D)} {x:List Str×Int->D} {tv:List Str×Int->α} (ll:l.length<=3) (hl:(l.flatMap (·.1)).length<60) (hs: ∀n∈namesOf l,Sh n) (h:((namesOf l).all fun n=>(aKf d n).isSome)=true)
  (hp: ∀p∈l,bH0 t [tS p.1,o,mk d]=ok (x p)) (ho: ∀p∈l,aHq t [o,.int p.2,x p]=ok (e (tv p))):aEj t [sD l,o,mk d]=ok (e (allOf n op (l.map tv))):=by
 refine aV4 rfl ?_;have e0:aBg aL7 [sD l,o,mk d]=[some (.sh (sD l)),some (.sh o),some (.sh (mk d))]:=rfl;rw[e0];unfold aI8;have c:app (aRd t) (aAe (look 0) (aAe (look 2) aA3)) [some (.sh (sD l)),some (.sh o),some (.sh (mk d))]=ok .non:=by
  rw[aBj (aAf (d:=sD l) rfl (aAf (d:=mk d) rfl aAs)),aZh t hl hs,if_pos h]
 have s:aP8 (app (aRd t) (aAe (look 0) (aAe (look 2) aA3))) [some (.sh (sD l)),some (.sh o),some (.sh (mk d))]=some (.nx [some (.sh (sD l)),some (.sh o),some (.sh (mk d))]):=by
  unfold aP8;rw[c];rfl
 have cm:cmp 2 (itE (look 0)) [3,4] h2 (fun _=>ok true) (app (aHq t) (aAe (look 1) (aAe (look 4) (aAe (app (bH0 t) (aAe (look 3) (aAe (look 1) (aAe (look 2) aA3)))) aA3)))) [some (.sh (sD l)),some (.sh o),some (.sh (mk d))]=ok (.lst ((l.map tv).map e)):=by
  unfold cmp;rw[show itE (look 0) [some (.sh (sD l)),some (.sh o),some (.sh (mk d))]=ok (l.map pD) from rfl,aCx,if_pos (by rw[List.length_map];omega),bEw (g:=fun p=>e (tv p)) l fun p hm=> ?_,aCx,List.map_map]
  ·rfl
  ·exact⟨(aBj (aAf (d:=o) rfl (aAf (d:= .int p.2) rfl (aAf ((aBj (aAf (d:=tS p.1) rfl (aAf (d:=o) rfl (aAf (d:=mk d) rfl aAs)))).trans (hp p hm)) aAs)))).trans (ho p hm),hi _⟩
 rw[aAg s,aBf (aBp ((aBj (aAf (d:=o) rfl (aAf cm aAs))).trans (bQ2 W hn hi hF (by rw[List.length_map];exact ll))))];rfl
def Bd (m:Nat)(a:Int):Prop:=a.natAbs<2^m
theorem Bd.mul {m n:Nat}{a b:Int}(h1:Bd m a)(h2:Bd n b):Bd (m+n) (a*b):=by
 unfold Bd at*;rw[Int.natAbs_mul,Nat.pow_add];exact Nat.mul_lt_mul'' h1 h2
theorem Bd.aM5 {m n:Nat}{a b:Int}(h1:Bd m a)(h2:Bd n b)(hm:m<=5000)(hn:n<=5000):L2.PU.aM5 a b=true:=aW8 (aF1 h1 (by omega)) (aF1 h2 (by omega))
theorem Bd.of {a:Int}(h0:0<=a)(h1:a<1000000000000000000000000000000000000000000000000000000000000):Bd 200 a:=by
 unfold Bd;have:a.natAbs<1000000000000000000000000000000000000000000000000000000000000:=by omega
 exact Nat.lt_of_lt_of_le this (by decide)
def PV (v:Str->Int)(k:List Str):Int:=(k.map v).foldl (· * ·) 1
theorem aXv {v:Str->Int}: ∀(k:List Str) (a:Int) (m:Nat),Bd m a->(∀x∈k,Bd 200 (v x))->Bd (m+200*k.length) ((k.map v).foldl (· * ·) a)
 | [],a,m,h,_=>by simpa using h
 | x::k,a,m,h,hv=>by
  have:=aXv k (a*v x) (m+200) (h.mul (hv x List.mem_cons_self)) fun y hy=>hv y (List.mem_cons_of_mem _ hy)
  rw[List.length_cons,show m+200*(k.length+1)=m+200+200*k.length by omega];exact this
theorem bFc:Bd 1 1:=by unfold Bd;decide
theorem aS4 (v:Str->Int): ∀(k:List Str) (a:Int),(k.map v).foldl (· * ·) a=a*PV v k
 | [],a=>by show a=a*1;omega
 | x::k,a=>by
  show (k.map v).foldl (· * ·) (a*v x)=a*(k.map v).foldl (· * ·) (1*v x);rw[aS4 v k,aS4 v k,Int.one_mul,Int.mul_assoc]
theorem fold_add: ∀(l:List Int) (a:Int),l.foldl (· + ·) a=a+l.sum
 | [],a=>by show a=a+0;omega
 | x::l,a=>by
  show l.foldl (· + ·) (a+x)=a+(x::l).sum;rw[fold_add l,List.sum_cons];omega
theorem bFk (l:List Int):allOf 0 (· + ·) l=l.sum:=by
 cases l with
 | nil=>rfl
 | cons a l=>show l.foldl (· + ·) a=_;rw[fold_add,List.sum_cons]
def wr (v:Str->Int)(l:Sm):Int:=(l.map fun p=>p.2*PV v p.1).sum
theorem aH0 (p:List Str×Int):aZ2 [p]=[p]:=by
 have:=aKp [p];exact List.perm_singleton.mp this
theorem bF4 (x:Str):aHz [x]=[x]:=List.perm_singleton.mp (aF9 [x])
theorem lk2 {x a b:Str}{u v:D}(h1:¬x=a)(h2:¬x=b):List.lookup x [(a,u),(b,v)]=none:=by
 rw[List.lookup_cons,show (x==a)=false by simpa using h1]
 dsimp only
 rw[List.lookup_cons,show (x==b)=false by simpa using h2];rfl
theorem lk3 {x a b c:Str}{u v w:D}(h1:¬x=a)(h2:¬x=b)(h3:¬x=c):List.lookup x [(a,u),(b,v),(c,w)]=none:=by
 rw[List.lookup_cons,show (x==a)=false by simpa using h1];exact lk2 h2 h3
section
variable {K:PySem.W.Frag}{mg:Str->Option Value}{t:Adr}(X:Txt K mg t)
include X
def aV3:Way t (aH2 t) (aFc 3 fun ds=>aAn (aCr t (aBg aC5 ds))) (aFc 3 fun ds=>aAn (aBu t (aBg aB1 ds))):=
 ⟨t.aAm,[("nought",.int 0),("one",.int 1)],rfl,cs1 t,bG5 X,bGj X,lk2 (by decide+kernel) (by decide+kernel),lk2 (by decide+kernel) (by decide+kernel)⟩
def aX3:Way t (aOj t) (aFc 3 fun ds=>aAn (aDe t (aBg aCy ds))) (aFc 3 fun ds=>aAn (aCs t (aBg aCd ds))):=
 ⟨t.aAz,[("nought",.non),("one",.int 0)],rfl,cs2 t,bLb X,bKm X,lk2 (by decide+kernel) (by decide+kernel),lk2 (by decide+kernel) (by decide+kernel)⟩
def bJ3:Way t (aSl t) (aFc 3 fun ds=>aAn (aB5 t (aBg aCb ds))) (aFc 3 fun ds=>aAn (aBs t (aBg aBz ds))):=
 ⟨t.aAw,[("nought",.bl false),("one",.bl true)],rfl,cs3 t,bG3 X,bGh X,lk2 (by decide+kernel) (by decide+kernel),lk2 (by decide+kernel) (by decide+kernel)⟩
def aNm (m:Int):Way t (aG5 t m) (aFc 3 fun ds=>aAn (aB6 t (aBg aCc ds))) (aFc 3 fun ds=>aAn (aBt t (aBg aB0 ds))):=
 ⟨t.aAq,[("many",.int m),("nought",.int 0),("one",.int 1)],rfl,cs4 t,bG4 X,bGi X,lk3 (by decide+kernel) (by decide+kernel) (by decide+kernel),lk3 (by decide+kernel) (by decide+kernel) (by decide+kernel)⟩
def bRi:Way t (bC6 t) (bH1 t) (aZb t):=
 ⟨t.aBr,[("nought",sD []),("one",sD [([],1)])],rfl,cs5 t,bO3 X,bOb X,lk2 (by decide+kernel) (by decide+kernel),lk2 (by decide+kernel) (by decide+kernel)⟩
theorem aOd {n:Nat}{a:Int}{k:Nat}(hn:Bd 200 (n:Int))(ha:Bd k a)(hk:k<=5000):aHq t [aH2 t,.int (n:Int),.int a]=ok (.int (n*a)):=by
 refine aLu (aV3 X) (R:=fun n=> .int (n:Int)) rfl rfl (fun _=>rfl) (fun a b=> ?_) ?_ (bQp t _ (hn.aM5 ha (by decide) hk))
 ·rw[bQq t,Int.natCast_add]
 ·exact aF1 (show n<2^200 by unfold Bd at hn;omega) (by decide)
theorem aOc {m:Int}(hm:2<=m)(hm2:m<=100){n:Nat}{a:Int}(hn:n<2^200):aHq t [aG5 t m,.int (n:Int),.int (a%m)]=ok (.int ((n*a)%m)):=by
 have b1:=Int.emod_nonneg (n:Int) (by omega:m≠0);have b2:=Int.emod_lt_of_pos (n:Int) (by omega:0<m);have b3:=Int.emod_nonneg a (by omega:m≠0);have b4:=Int.emod_lt_of_pos a (by omega:0<m);refine aLu (aNm X m) (R:=fun n=> .int ((n:Int)%m)) ?_ ?_ (fun _=>rfl) (fun a b=> ?_) (aF1 hn (by decide)) ?_
 ·show some (D.int 0)=some (D.int (((0:Nat):Int)%m))
  rw[Int.emod_eq_of_lt (by omega) (by omega)];rfl
 ·show some (D.int 1)=some (D.int (((1:Nat):Int)%m))
  rw[Int.emod_eq_of_lt (by omega) (by omega)];rfl
 ·rw[bN1 t hm,Int.natCast_add,Int.add_emod (a:Int) (b:Int) m]
 ·rw[bN0 t hm (aK5 b1 (by omega) b3 (by omega)),<-Int.mul_emod]
theorem aQ2 {n:Nat}(h1:1<=n)(hn:n<2^200)(c:Option Int):aHq t [aOj t,.int (n:Int),dC c]=ok (dC c):=by
 refine aLu (aX3 X) (R:=fun n=>if n=0 then dC none else dC (some 0)) rfl rfl (fun n=> ?_) (fun a b=> ?_) (aF1 hn (by decide)) ?_
 ·split<;>rfl
 ·by_cases ha:a=0
  ·by_cases hb:b=0
   ·rw[if_pos ha,if_pos hb,if_pos (by omega),aSd t];rfl
   ·rw[if_pos ha,if_neg hb,if_neg (by omega),aSd t];rfl
  ·by_cases hb:b=0
   ·rw[if_neg ha,if_pos hb,if_neg (by omega),aSd t];rfl
   ·rw[if_neg ha,if_neg hb,if_neg (by omega),aSd t];rfl
 ·rw[if_neg (by omega),bLd t]
  cases c with
  | none=>rfl
  | some y=>show ok (D.int (0+y))=_;rw[Int.zero_add];rfl
theorem aWy (c:Option Int):aHq t [aOj t,.int 0,dC c]=ok .non:=by
 refine aLu (n:=0) (aX3 X) (R:=fun n=>if n=0 then dC none else dC (some 0)) rfl rfl (fun n=> ?_) (fun a b=> ?_) (Nat.pow_pos (by decide)) ?_
 ·split<;>rfl
 ·by_cases ha:a=0
  ·by_cases hb:b=0
   ·rw[if_pos ha,if_pos hb,if_pos (by omega),aSd t];rfl
   ·rw[if_pos ha,if_neg hb,if_neg (by omega),aSd t];rfl
  ·by_cases hb:b=0
   ·rw[if_neg ha,if_pos hb,if_neg (by omega),aSd t];rfl
   ·rw[if_neg ha,if_neg hb,if_neg (by omega),aSd t];rfl
 ·rw[if_pos rfl,bLd t]
  cases c<;>rfl
theorem aWw {n:Nat}(hn:n<2^200):aHq t [aSl t,.int (n:Int),.bl true]=ok (.bl (decide (0<n))):=by
 refine aLu (bJ3 X) (R:=fun n=> .bl (decide (0<n))) rfl rfl (fun _=>rfl) (fun a b=> ?_) (aF1 hn (by decide)) ?_
 ·rw[bRm t]
  congr 2
  by_cases ha:0<a<;>by_cases hb:0<b<;>simp[ha,hb]<;>omega
 ·rw[bRj t,Bool.and_true]
def aSe (n:Nat):Sm:=if n=0 then [] else [([],(n:Int))]
theorem bCv {n:Nat}(hn:n<2^200)(x:Str):aHq t [bC6 t,.int (n:Int),sD [([x],1)]]=ok (sD (if n=0 then [] else [([x],(n:Int))])):=by
 refine aLu (bRi X) (R:=fun n=>sD (aSe n)) rfl rfl (fun n=>bB6 _) (fun a b=> ?_) (aF1 hn (by decide)) ?_
 ·have e:aWp (aSe a) (aSe b)=aSe (a+b):=by
   unfold aSe;by_cases ha:a=0
   ·by_cases hb:b=0
    ·rw[if_pos ha,if_pos hb,if_pos (by omega)];rfl
    ·rw[if_pos ha,if_neg hb,if_neg (by omega),ha,Nat.zero_add];simp[aWp,aPv,aPu,bBa,aNn,aH0]
   ·by_cases hb:b=0
    ·rw[if_neg ha,if_pos hb,if_neg (by omega),hb,Nat.add_zero];simp[aWp,aPv,aH0]
    ·rw[if_neg ha,if_neg hb,if_neg (by omega)];simp[aWp,aPv,aPu,bBa,aNn,aH0]
  have nd:(kys (aSe a)).Nodup:=by unfold aSe;split<;>simp[kys]
  have l1: ∀n,(aSe n).length<=1:=fun n=>by unfold aSe;split<;>simp
  have l2:(aPv (aSe b) (aSe a)).length<64:=by
   have:(aPv (aSe b) (aSe a)).length=(aWp (aSe a) (aSe b)).length:=by unfold aWp;rw[aYb]
   rw[this,e];have:=l1 (a+b);omega
  rw[bKu t nd (by have:=l1 a;omega) (by have:=l1 b;omega) l2,e]
 ·have h1:(aSe n).length<=1:=by unfold aSe;split<;>simp
  rw[bF0 t (by rw[List.length_singleton];omega) ?_]
  ·congr 2
   unfold aSe;by_cases h:n=0
   ·rw[if_pos h,if_pos h];rfl
   ·rw[if_neg h,if_neg h]
    simp[bIl,aT8,aPv,aPu,bBa,aNn,aH0,bF4]
  ·intro p hp q hq
   rw[List.mem_singleton] at hq;subst hq;unfold aSe at hp;split at hp
   ·cases hp
   ·rw[List.mem_singleton] at hp
    subst hp;refine⟨show (0:Nat)+1<64 by decide,?_⟩;show aM5 (n:Int) 1=true;exact Bd.aM5 (m:=200) (n:=1) (by unfold Bd;omega) bFc (by decide) (by decide)
end
theorem aH5 {P k:List Str}(h:aRk P k): ∀x∈k,x∈P:=by
 obtain⟨xs,rfl,_,hx⟩:=h;exact fun x hm=>hx x ((aF9 xs).mem_iff.mp hm)
theorem aS6 {P:List Str}{l:Sm}(ll:l.length<=3)(hf: ∀p∈l,aRk P p.1):(l.flatMap (·.1)).length<60:=by
 have g: ∀(l:Sm),(∀p∈l,aRk P p.1)->(l.flatMap (·.1)).length<=3*l.length:=by
  intro l
  induction l with
  | nil=>intro _;exact Nat.zero_le _
  | cons p l ih=>
   intro h;have h1:=ih fun q hq=>h q (List.mem_cons_of_mem _ hq)
   have h2:=K11.aRk.len (h p List.mem_cons_self);rw[List.flatMap_cons,List.length_append,List.length_cons];omega
 have:=g l hf;omega
theorem aOo {P:List Str}{l:Sm}(hf: ∀p∈l,aRk P p.1): ∀n∈namesOf l,n∈P:=fun n hn=>by
 obtain⟨p,h1,h2⟩:=aUm.mp hn;exact aH5 (hf p h1) n h2
def All (P:List Str)(d:List (Str×D)):Prop:= ∀n∈P,(aKf d n).isSome=true
theorem aPo {P:List Str}{l:Sm}{d:List (Str×D)}(hf: ∀p∈l,aRk P p.1)(h:All P d):((namesOf l).all fun n=>(aKf d n).isSome)=true:=List.all_eq_true.mpr fun n hn=>h n (aOo hf n hn)
theorem aZk {P:List Str}{l:Sm}(h:bQ6 P l){p:List Str×Int}(hp:p∈l): ∃n:Nat,p.2=(n:Int)/\1<=n/\n<2^200:=by
 have h1:=h.ma.po p hp;have h2:=h.hi p hp;refine⟨p.2.toNat,by omega,by omega,?_⟩;have:p.2.toNat<=60000000000000000000000000000000000000000:=by omega
 exact Nat.lt_of_le_of_lt this (by decide)
section
variable {K:PySem.W.Frag}{mg:Str->Option Value}{t:Adr}(X:Txt K mg t){P:List Str}{l:Sm}{d:List (Str×D)}(hl:bQ6 P l)(hsh: ∀n∈P,Sh n)
include X hl hsh
theorem aMd {v:Str->Int}(hv: ∀n∈P,aKf d n=some (.int (v n)))(hb: ∀n∈P,Bd 200 (v n)):aEj t [sD l,aH2 t,mk d]=ok (.int (wr v l)):=by
 have fi:=hl.fi;have hvk: ∀p∈l,∀x∈p.1,x∈P:=fun p hp x hx=>aH5 (fi p hp) x hx
 have r:=aRl (aV3 X) (α:=Int) (e:=D.int) (op:=(· + ·)) (n:=0) rfl (fun _=>rfl) (fun a b=>bQq t _ a b) (l:=l) (d:=d) (x:=fun p=> .int (PV v p.1)) (tv:=fun p=>p.2*PV v p.1) hl.le (aS6 hl.le fi) (fun n hn=>hsh n (aOo fi n hn))
  (aPo fi fun n hn=>by rw[hv n hn];rfl)
  (fun p hp=>aWo (aV3 X) (α:=Int) (e:=D.int) (tm:=(· * ·)) (one:=1) (v:=v) rfl (fun _=>rfl) (fun x hx=>hv x (hvk p hp x hx)) fun xs x ys ek=>bQp t _ (by
   have h3:=K11.aRk.len (fi p hp);have hx: ∀y∈xs++x::ys,y∈P:=fun y hy=>hvk p hp y (by rw[ek];exact hy)
   rw[ek,List.length_append,List.length_cons] at h3;refine Bd.aM5 (m:=1+200*xs.length) (n:=200) (aXv xs 1 1 bFc fun y hy=>hb y (hx y (List.mem_append_left _ hy))) (hb x (hx x (List.mem_append_right _ List.mem_cons_self))) (by omega) (by decide)))
  (fun p hp=>by
   obtain⟨n,e1,e2,e3⟩:=aZk hl hp;have h3:=K11.aRk.len (fi p hp);rw[e1];exact aOd X (k:=1+200*p.1.length) (show Bd 200 (n:Int) by unfold Bd;omega) (aXv p.1 1 1 bFc fun y hy=>hb y (hvk p hp y hy)) (by omega))
 rw[r,bFk];rfl
theorem aTr {m:Int}(hm:2<=m)(hm2:m<=100){v:Str->Int}(hv: ∀n∈P,aKf d n=some (.int (v n)))(hb: ∀n∈P,0<=v n/\v n<m):aEj t [sD l,aG5 t m,mk d]=ok (.int (wr v l%m)):=by
 have fi:=hl.fi;have hvk: ∀p∈l,∀x∈p.1,x∈P:=fun p hp x hx=>aH5 (fi p hp) x hx
 have md: ∀a:Int,0<=a%m/\a%m<m:=fun a=>⟨Int.emod_nonneg a (by omega),Int.emod_lt_of_pos a (by omega)⟩
 have small: ∀a:Int,0<=a->a<m->a%m=a:=fun a h1 h2=>Int.emod_eq_of_lt h1 h2
 have l0:(aNm X m).fs.lookup ("nought":Str)=some (D.int (0%m)):=by rw[Int.zero_emod];rfl
 have l1:(aNm X m).fs.lookup ("one":Str)=some (D.int (1%m)):=by rw[small 1 (by omega) (by omega)];rfl
 have r:=aRl (aNm X m) (α:=Int) (e:=fun a=>D.int (a%m)) (op:=(· + ·)) (n:=0) l0 (fun _=>rfl) (fun a b=>by rw[bN1 t hm,Int.add_emod a b m]) (l:=l) (d:=d) (x:=fun p=> .int (PV v p.1%m)) (tv:=fun p=>p.2*PV v p.1) hl.le (aS6 hl.le fi) (fun n hn=>hsh n (aOo fi n hn))
  (aPo fi fun n hn=>by rw[hv n hn];rfl)
  (fun p hp=>aWo (aNm X m) (α:=Int) (e:=fun a=>D.int (a%m)) (tm:=(· * ·)) (one:=1) (v:=v) l1 (fun _=>rfl) (fun x hx=>by
    have:=hb x (hvk p hp x hx);rw[hv x (hvk p hp x hx),small _ this.1 this.2]) fun xs x ys ek=>by
   rw[bN0 t hm (aK5 (md _).1 (by have:=(md ((xs.map v).foldl (· * ·) 1)).2;omega) (md _).1 (by have:=(md (v x)).2;omega)),<-Int.mul_emod])
  (fun p hp=>by
   obtain⟨n,e1,e2,e3⟩:=aZk hl hp;rw[e1];exact aOc X hm hm2 e3)
 rw[r,bFk];rfl
theorem aV2 {c:Str->Option Int}(hc: ∀n∈P,aKf d n=some (dC (c n))):aEj t [sD l,aOj t,mk d]=ok (dC (allOf none lo (l.map fun p=>(p.1.map c).foldl su (some 0)))):=by
 have fi:=hl.fi;have hvk: ∀p∈l,∀x∈p.1,x∈P:=fun p hp x hx=>aH5 (fi p hp) x hx
 exact aRl (aX3 X) (α:=Option Int) (e:=dC) (op:=lo) (n:=none) rfl aUz (fun a b=>aSd t _ a b) (l:=l) (d:=d) (x:=fun p=>dC ((p.1.map c).foldl su (some 0))) (tv:=fun p=>(p.1.map c).foldl su (some 0)) hl.le (aS6 hl.le fi) (fun n hn=>hsh n (aOo fi n hn))
  (aPo fi fun n hn=>by rw[hc n hn];rfl)
  (fun p hp=>aWo (aX3 X) (α:=Option Int) (e:=dC) (tm:=su) (one:=some 0) (v:=c) rfl aUz (fun x hx=>hc x (hvk p hp x hx)) fun xs x ys ek=>bLd t _ _ _)
  (fun p hp=>by
   obtain⟨n,e1,e2,e3⟩:=aZk hl hp;rw[e1];exact aQ2 X e2 e3 _)
omit X
def aMm (t:Adr):List D->M D:=aFc 2 fun ds=>aAn (aF5 t (aBg aGp ds))
end
def aVn:Rho->Option Out:=(aAi (aDy 4 (b2 aCn (look 4) (b2 aU4 (look 1) (look 5))))
  aAp)
def aVo:Rho->Option Out:=(aAi (aF0 3 (gN 5) aVn)
  (aAi (aDy 2 (b2 aBd (look 2) (look 4)))
  aAp))
section
variable {L:D}{d:List (Str×D)}{v:Str->Int}
theorem bH9 {w k:D}: ∀(ks:List Str) (a:Int) (m:Nat) (s:Option SV),Bd m a->m+200*ks.length<=5000->(∀x∈ks,aKf d x=some (.int (v x))/\Bd 200 (v x))->
  ∃s',loop (gN 5) aVn (ks.map D.str) [some (.sh L),some (.sh (mk d)),some (.sh w),some (.sh k),some (.sh (.int a)),s]=some (.nx [some (.sh L),some (.sh (mk d)),some (.sh w),some (.sh k),some (.sh (.int ((ks.map v).foldl (· * ·) a))),s']):=by
 intro ks
 induction ks with
 | nil=>intro a m s _ _ _;exact⟨s,rfl⟩
 | cons x ks ih=>
  intro a m s hb hl hv;rw[List.length_cons] at hl;obtain⟨h1',h2'⟩:=hv x List.mem_cons_self;obtain⟨s',h⟩:=ih (a*v x) (m+200) (some (.sh (.str x))) (hb.mul h2') (by omega) fun y hy=>hv y (List.mem_cons_of_mem _ hy)
  refine⟨s',?_⟩;have b:aVn [some (.sh L),some (.sh (mk d)),some (.sh w),some (.sh k),some (.sh (.int a)),some (.sh (.str x))]=some (.nx [some (.sh L),some (.sh (mk d)),some (.sh w),some (.sh k),some (.sh (.int (a*v x))),some (.sh (.str x))]):=by
   unfold aVn;rw[aAg (aA1 (aQ3 (f:=look 4) (i:=a) rfl (aPb (f:=look 1) (g:=look 5) (l:=d) (n:=x) rfl rfl h1') (hb.aM5 h2' (by omega) (by decide))) rfl)];rfl
  rw[List.map_cons];exact (aB4 (ρ1:=[some (.sh L),some (.sh (mk d)),some (.sh w),some (.sh k),some (.sh (.int a)),some (.sh (.str x))]) rfl b).trans h
theorem bEu {P:List Str}(hv: ∀n∈P,aKf d n=some (.int (v n)))(hb: ∀n∈P,Bd 200 (v n)): ∀(l:Sm) (acc:Int) (s3 s4 s5:Option SV),(∀p∈l,aRk P p.1/\Bd 200 p.2)->
  ∃o3 o4 o5,loop (gN2 3 4) aVo (l.map pD) [some (.sh L),some (.sh (mk d)),some (.sh (.int acc)),s3,s4,s5]=some (.nx [some (.sh L),some (.sh (mk d)),some (.sh (.int (acc+wr v l))),o3,o4,o5]):=by
 intro l
 induction l with
 | nil=>intro acc s3 s4 s5 _;exact⟨s3,s4,s5,by show some (Out.nx [some (.sh L),some (.sh (mk d)),some (.sh (.int acc)),s3,s4,s5])=_;rw[show acc+wr v []=acc from Int.add_zero acc]⟩
 | cons p l ih=>
  intro acc s3 s4 s5 h;obtain⟨f1,f2⟩:=h p List.mem_cons_self;have h3:=K11.aRk.len f1;obtain⟨s',lp⟩:=bH9 (L:=L) (d:=d) (v:=v) (w:= .int acc) (k:=tS p.1) p.1 p.2 200 s5 f2 (by omega) fun x hx=>⟨hv x (aH5 f1 x hx),hb x (aH5 f1 x hx)⟩
  rw[aS4] at lp;have sN:aF0 3 (gN 5) aVn [some (.sh L),some (.sh (mk d)),some (.sh (.int acc)),some (.sh (tS p.1)),some (.sh (.int p.2)),s5]=_:=lp;have b:aVo [some (.sh L),some (.sh (mk d)),some (.sh (.int acc)),some (.sh (tS p.1)),some (.sh (.int p.2)),s5]=some (.nx [some (.sh L),some (.sh (mk d)),some (.sh (.int (acc+p.2*PV v p.1))),some (.sh (tS p.1)),some (.sh (.int (p.2*PV v p.1))),s']):=by
   unfold aVo;rw[aAg sN,aAg (aA1 (aIj (f:=look 2) (g:=look 4) (i:=acc) (j:=p.2*PV v p.1) rfl rfl) rfl)];rfl
  obtain⟨o3,o4,o5,e⟩:=ih (acc+p.2*PV v p.1) (some (.sh (tS p.1))) (some (.sh (.int (p.2*PV v p.1)))) s' fun q hq=>h q (List.mem_cons_of_mem _ hq)
  refine⟨o3,o4,o5,?_⟩;have g:gN2 3 4 (pD p) [some (.sh L),some (.sh (mk d)),some (.sh (.int acc)),s3,s4,s5]=some [some (.sh L),some (.sh (mk d)),some (.sh (.int acc)),some (.sh (tS p.1)),some (.sh (.int p.2)),s5]:=by
   show some (aLk 4 (.int p.2) (aLk 3 (tS p.1) _))=_;rw[aEk (aO5 _),aEk rfl];rfl
  rw[List.map_cons,aB4 g b,e];have ew:wr v (p::l)=p.2*PV v p.1+wr v l:=by unfold wr;rw[List.map_cons,List.sum_cons]
  rw[ew,Int.add_assoc]
end
theorem aTd (t:Adr){P:List Str}{l:Sm}{d:List (Str×D)}{v:Str->Int}(hl:bQ6 P l)(hv: ∀n∈P,aKf d n=some (.int (v n)))(hb: ∀n∈P,Bd 200 (v n)):aMm t [sD l,mk d]=ok (.int (wr v l)):=by
 refine aB2 rfl ?_;have e0:aBg aGp [sD l,mk d]=[some (.sh (sD l)),some (.sh (mk d)),none,none,none,none]:=rfl;rw[e0];unfold aF5;rw[aAg (aA1 (d:= .int 0) rfl rfl)];obtain⟨o3,o4,o5,lp⟩:=bEu (L:=sD l) (d:=d) hv hb l 0 none none none fun p hp=>⟨hl.fi p hp,by obtain⟨n,e1,_,e3⟩:=aZk hl hp;rw[e1];unfold Bd;omega⟩
 rw[Int.zero_add] at lp;have s2:aF0 0 (gN2 3 4) aVo [some (.sh (sD l)),some (.sh (mk d)),some (.sh (.int 0)),none,none,none]=_:=lp;show aAn (aAi (aF0 0 (gN2 3 4) aVo) _ [some (.sh (sD l)),some (.sh (mk d)),some (.sh (.int 0)),none,none,none])=_;rw[aAg s2,aBf (aBp (d:= .int (wr v l)) rfl)];rfl
def aS8 (t:Adr):List D->M D:=aFc 2 fun ds=>aAn (aDk t (aBg aDc ds))
def vC:Option Int->V
 | none=> .non
 | some i=> .int i
theorem bJn: ∀(cs:List (Option Int)),flL (cs.map dC)=some (cs.map vC)
 | []=>rfl
 | c::cs=>by
  rw[List.map_cons,flL,bJn cs];cases c<;>rfl
theorem bS0 (cs:List (Option Int)):gIn true .non (.lst (cs.map dC))=ok (.bl (!cs.contains none)):=by
 unfold gIn;show (match some V.non,flL (cs.map dC) with | some v,some vs=>ok (D.bl (if true then !inV v vs else inV v vs)) | _,_=>none)=_;rw[bJn];show ok (D.bl (!inV .non (cs.map vC)))=_;have e:inV .non (cs.map vC)=cs.contains none:=by
  unfold inV
  induction cs with
  | nil=>rfl
  | cons c cs ih=>
   rw[List.map_cons,List.any_cons,ih,List.contains_cons];cases c<;>rfl
 rw[e]
theorem bQ1 {f g:Rho->M Bool}{ρ:Rho}(h:f ρ=ok false):bM2 f g ρ=ok false:=by unfold bM2;rw[h];rfl
theorem bSk {f g:Rho->M Bool}{ρ:Rho}(h:f ρ=ok true):orB f g ρ=ok true:=by unfold orB;rw[h];rfl
theorem aZe: ∀(cs:List (Option Int)),(cs.contains none=true/\∀a,cs.foldl su a=none\/False)\/∃xs:List Int,cs=xs.map some
 | []=> .inr ⟨[],rfl⟩
 | none::cs=>by
  refine .inl ⟨rfl,fun a=> .inl ?_⟩;have g: ∀cs:List (Option Int),cs.foldl su none=none:=by
   intro cs
   induction cs with
   | nil=>rfl
   | cons c cs ih=>cases c<;>exact ih
  rw[List.foldl_cons,show su a none=none by cases a<;>rfl];exact g cs
 | some x::cs=>by
  rcases aZe cs with⟨h1,h2⟩ |⟨xs,rfl⟩
  ·refine .inl ⟨by rw[List.contains_cons,h1,Bool.or_true],fun a=> ?_⟩
   exact h2 (su a (some x))
  ·exact .inr ⟨x::xs,rfl⟩
theorem bIm: ∀(xs:List Int) (a:Int),(xs.map some).foldl su (some a)=some (a+xs.sum)
 | [],a=>by show some a=some (a+0);rw[Int.add_zero]
 | x::xs,a=>by
  show (xs.map some).foldl su (some (a+x))=_;rw[bIm xs,List.sum_cons,Int.add_assoc]
theorem bLp (xs:List Int):(xs.map some).contains (none:Option Int)=false:=by
 induction xs with
 | nil=>rfl
 | cons x xs ih=>rw[List.map_cons,List.contains_cons,ih];rfl
def aVm:Rho->Option Out:=(aAi (aDy 4 (cmp 1 (itE (b2 gIx (look 3) (con (.int 0)))) [5] h1 (fun _=>ok true) (b2 aU4 (look 1) (look 5))))
  (aAi (sIf (bM2 (aA2 (b2 (gIn true) (con .non) (look 4))) (orB (aA2 (b2 gIs (look 2) (con .non))) (aA2 (b2 gLt (f1 bJ8 (look 4)) (look 2))))) (aAi (aDy 2 (f1 bJ8 (look 4)))
  aAp) aAp)
  aAp))
theorem bE5 {L:D}{d:List (Str×D)}{c:Str->Option Int}{p:List Str×Int}{least:Option Int}(o4:Option D)(hk:p.1.length<=3)(hc: ∀x∈p.1,aKf d x=some (dC (c x))):
  ∃d4,aVm [some (.sh L),some (.sh (mk d)),some (.sh (dC least)),some (.sh (pD p)),o4.map SV.sh]=some (.nx [some (.sh L),some (.sh (mk d)),some (.sh (dC (lo least ((p.1.map c).foldl su (some 0))))),some (.sh (pD p)),some (.sh d4)]):=by
 refine⟨.lst ((p.1.map c).map dC),?_⟩;have cm:cmp 1 (itE (b2 gIx (look 3) (con (.int 0)))) [5] h1 (fun _=>ok true) (b2 aU4 (look 1) (look 5)) [some (.sh L),some (.sh (mk d)),some (.sh (dC least)),some (.sh (pD p)),o4.map SV.sh]=ok (.lst ((p.1.map c).map dC)):=by
  rw[List.map_map];refine bMu (l:=p.1) (e:=D.str) (g:=fun x=>dC (c x)) ?_ (by omega) fun x hx=>⟨?_,aUz _⟩
  ·unfold itE
   rw[bEe (f:=look 3) (p:=p) rfl];rfl
  ·exact aPb (f:=look 1) (g:=look 5) (l:=d) (n:=x) rfl rfl (hc x hx)
 unfold aVm;rw[aAg (aR2 cm (by cases o4<;>rfl))];show aAi _ _ [some (.sh L),some (.sh (mk d)),some (.sh (dC least)),some (.sh (pD p)),some (.sh (.lst ((p.1.map c).map dC)))]=_;have q1:=aEa (aGu (g:=gIn true) (fa:=con .non) (fb:=look 4) (ρ:=[some (.sh L),some (.sh (mk d)),some (.sh (dC least)),some (.sh (pD p)),some (.sh (.lst ((p.1.map c).map dC)))]) (x:= .non) (y:= .lst ((p.1.map c).map dC)) rfl rfl (bS0 (p.1.map c)));rcases aZe (p.1.map c) with⟨n1,n2⟩ |⟨xs,ex⟩
 ·rw[n1] at q1
  have e:(p.1.map c).foldl su (some 0)=none:=(n2 (some 0)).resolve_right id;rw[aAg ((aJ9 (bQ1 q1)).trans rfl),e,show lo least none=least by cases least<;>rfl];rfl
 ·rw[ex] at q1⊢
  rw[bLp] at q1;rw[bIm,Int.zero_add];have em:(xs.map some).map dC=xs.map D.int:=by rw[List.map_map];rfl
  rw[em] at q1⊢;have sm: ∀r:D,f1 bJ8 (look 4) [some (.sh L),some (.sh (mk d)),some (.sh r),some (.sh (pD p)),some (.sh (.lst (xs.map D.int)))]=ok (.int xs.sum):=fun r=>by
   refine aLe (d:= .lst (xs.map D.int)) rfl ?_;show (match bLo (xs.map D.int) with | some ns=>ok (D.int ns.sum) | none=>none)=_;rw[bHc]
  cases least with
  | none=>
   have q2:aA2 (b2 gIs (look 2) (con .non)) [some (.sh L),some (.sh (mk d)),some (.sh (dC none)),some (.sh (pD p)),some (.sh (.lst (xs.map D.int)))]=ok true:=rfl;rw[aAg ((aMy (bFj q1 (bSk q2))).trans (aAg (aA1 (sm _) rfl)))];rfl
  | some y=>
   have q2:aA2 (b2 gIs (look 2) (con .non)) [some (.sh L),some (.sh (mk d)),some (.sh (dC (some y))),some (.sh (pD p)),some (.sh (.lst (xs.map D.int)))]=ok false:=rfl;have q3:=aEa (aGu (g:=gLt) (fb:=look 2) (sm (dC (some y))) (y:= .int y) (r:=ok (.bl (decide (xs.sum<y)))) rfl rfl);have q4:=bFj q1 (bI2 q2 q3);by_cases h:xs.sum<y
   ·rw[decide_eq_true h] at q4
    rw[aAg ((aMy q4).trans (aAg (aA1 (sm _) rfl)))];show _=some (Out.nx [some (.sh L),some (.sh (mk d)),some (.sh (D.int (if xs.sum<y then xs.sum else y))),some (.sh (pD p)),some (.sh (.lst (xs.map D.int)))]);rw[if_pos h];rfl
   ·rw[decide_eq_false h] at q4
    rw[aAg ((aJ9 q4).trans rfl)];show _=some (Out.nx [some (.sh L),some (.sh (mk d)),some (.sh (D.int (if xs.sum<y then xs.sum else y))),some (.sh (pD p)),some (.sh (.lst (xs.map D.int)))]);rw[if_neg h];rfl
theorem bAp {L:D}{d:List (Str×D)}{c:Str->Option Int}: ∀(l:Sm) (least:Option Int) (o3 o4:Option D),(∀p∈l,p.1.length<=3/\∀x∈p.1,aKf d x=some (dC (c x)))->
  ∃o3' o4':Option D,loop (gN 3) aVm (l.map pD) [some (.sh L),some (.sh (mk d)),some (.sh (dC least)),o3.map SV.sh,o4.map SV.sh]=some (.nx [some (.sh L),some (.sh (mk d)),some (.sh (dC ((l.map fun p=>(p.1.map c).foldl su (some 0)).foldl lo least))),o3'.map SV.sh,o4'.map SV.sh]):=by
 intro l
 induction l with
 | nil=>intro least o3 o4 _;exact⟨o3,o4,rfl⟩
 | cons p l ih=>
  intro least o3 o4 h;obtain⟨f1,f2⟩:=h p List.mem_cons_self;obtain⟨d4,b⟩:=bE5 (L:=L) (least:=least) o4 f1 f2;obtain⟨o3',o4',e⟩:=ih (lo least ((p.1.map c).foldl su (some 0))) (some (pD p)) (some d4) fun q hq=>h q (List.mem_cons_of_mem _ hq)
  refine⟨o3',o4',?_⟩;have g:gN 3 (pD p) [some (.sh L),some (.sh (mk d)),some (.sh (dC least)),o3.map SV.sh,o4.map SV.sh]=some [some (.sh L),some (.sh (mk d)),some (.sh (dC least)),some (.sh (pD p)),o4.map SV.sh]:=by
   show some (aLk 3 (pD p) _)=_;rw[aEk (bCt p)];rfl
  rw[List.map_cons];exact (aB4 g b).trans e
theorem bQ3 (cs:List (Option Int)):cs.foldl lo none=allOf none lo cs:=by
 cases cs with
 | nil=>rfl
 | cons c cs=>rfl
theorem bHo (t:Adr){P:List Str}{l:Sm}{d:List (Str×D)}{c:Str->Option Int}(hl:bQ6 P l)(hc: ∀n∈P,aKf d n=some (dC (c n))):aS8 t [sD l,mk d]=ok (dC (allOf none lo (l.map fun p=>(p.1.map c).foldl su (some 0)))):=by
 refine aB2 rfl ?_;have e0:aBg aDc [sD l,mk d]=[some (.sh (sD l)),some (.sh (mk d)),none,none,none]:=rfl;rw[e0];unfold aDk;rw[aAg (aA1 (d:= .non) rfl rfl)];obtain⟨o3,o4,lp⟩:=bAp (L:=sD l) (d:=d) (c:=c) l none none none fun p hp=>⟨K11.aRk.len (hl.fi p hp),fun x hx=>hc x (aH5 (hl.fi p hp) x hx)⟩
 rw[bQ3] at lp;have s2:aF0 0 (gN 3) aVm [some (.sh (sD l)),some (.sh (mk d)),some (.sh (dC none)),none,none]=_:=lp;show aAn (aAi (aF0 0 (gN 3) aVm) _ [some (.sh (sD l)),some (.sh (mk d)),some (.sh (dC none)),none,none])=_;rw[aAg s2,aBf (aBp (d:=dC (allOf none lo (l.map fun p=>(p.1.map c).foldl su (some 0)))) rfl)];rfl
def bQf (t:Adr):List D->M D:=aFc 1 fun ds=>aAn (aTc t (aBg aZv ds))
theorem bMy (t:Adr)(x:Str):bQf t [.str x]=ok (sD [([x],1)]):=aB2 rfl rfl
def fTm (t:Adr):List D->M D:=aFc 4 fun ds=>aAn (aF4 t (aEe 8) (bQf t) (aHq t) aJ1 aDz aU1 aO7 (aBg aGo ds))
theorem bNw {a:Int}{c:Option Int}{b:Bool}{l:Sm}(hl:l.length<=1)(hk: ∀p∈l,p.1.length<=1):aEe 8 [.lst [.int a,dC c,.bl b,sD l],.lst [.int a,dC c,.bl b,sD l]]=ok (.bl true):=by
 refine aJl ?_ ?_
 ·show (decide (([.int a,dC c,.bl b,sD l]:List D).length<=100000)&&(true&&((dC c).pl&&(true&&((sD l).pl&&true)))))=true
  rw[bOk,bRz (fun p hp=>by have:=hk p hp;omega) (by omega),decide_eq_true (by simp)];rfl
 ·show max 0 (max (dC c).dep (max 0 (max (sD l).dep 0)))+1<8
  have:=bNy l;rw[bJq];omega
section
variable {K:PySem.W.Frag}{mg:Str->Option Value}{t:Adr}(X:Txt K mg t)
include X
theorem bRn {n:Nat}{a:Int}{c:Option Int}{x:Str}(hn:n<2^200)(ha:Bd 200 a):fTm t [.int (n:Int),.int a,dC c,.str x]=ok (.bl true):=by
 refine aB2 rfl ?_;have e0:aBg aGo [.int (n:Int),.int a,dC c,.str x]=[some (.sh (.int (n:Int))),some (.sh (.int a)),some (.sh (dC c)),some (.sh (.str x)),none]:=rfl;rw[e0];unfold aF4;have hnb:Bd 200 (n:Int):=by unfold Bd;omega
 obtain⟨r2,b,l,h2',h3',h4',hc⟩: ∃(r2:Option Int) (b:Bool) (l:Sm),aHq t [aOj t,.int (n:Int),dC c]=ok (dC r2)/\aHq t [aSl t,.int (n:Int),.bl true]=ok (.bl b)/\aHq t [bC6 t,.int (n:Int),sD [([x],1)]]=ok (sD l)/\((n=0/\r2=none/\b=false/\l=[])\/(0<n/\r2=c/\b=true/\l=[([x],(n:Int))])):=by
  have o3:=aWw X hn;have o4:=bCv X hn x;by_cases h:n=0
  ·subst h;exact⟨none,false,[],aWy X c,o3,o4,.inl ⟨rfl,rfl,rfl,rfl⟩⟩
  ·rw[if_neg h] at o4
   rw[decide_eq_true (by omega:0<n)] at o3;exact⟨c,true,_,aQ2 X (by omega) hn c,o3,o4,.inr ⟨by omega,rfl,rfl,rfl⟩⟩
 have g1:=aAf (f:=app (aHq t) (aAe (fun _=>mkO t.aAm aDz []) (aAe (look 0) (aAe (look 1) aA3)))) (ρ:=[some (.sh (.int (n:Int))),some (.sh (.int a)),some (.sh (dC c)),some (.sh (.str x)),none]) ((aBj (aAf (d:=aH2 t) rfl (aAf (d:= .int (n:Int)) rfl (aAf (d:= .int a) rfl aAs)))).trans (aOd X hnb ha (by decide)))
  (aAf ((aBj (aAf (f:=fun _=>mkO t.aAz aJ1 []) (d:=aOj t) rfl (aAf (f:=look 0) (d:= .int (n:Int)) rfl (aAf (f:=look 2) (d:=dC c) rfl aAs)))).trans h2') aAs)
 have s1:sNew 4 (aAe (app (aHq t) (aAe (fun _=>mkO t.aAm aDz []) (aAe (look 0) (aAe (look 1) aA3)))) (aAe (app (aHq t) (aAe (fun _=>mkO t.aAz aJ1 []) (aAe (look 0) (aAe (look 2) aA3)))) aA3)) [some (.sh (.int (n:Int))),some (.sh (.int a)),some (.sh (dC c)),some (.sh (.str x)),none]=some (.nx [some (.sh (.int (n:Int))),some (.sh (.int a)),some (.sh (dC c)),some (.sh (.str x)),some (.own [.int (n*a),dC r2])]):=by
  unfold sNew;rw[g1,aHi,if_pos ⟨by show (true&&((dC r2).imm&&true))=true;rw[aUz];rfl,by simp⟩];rfl
 rw[aAg s1,aAg (aWv (i:=4) (acc:=[.int (n*a),dC r2]) (d:= .bl b) rfl ((aBj (aAf (d:=aSl t) rfl (aAf (d:= .int (n:Int)) rfl (aAf (d:= .bl true) rfl aAs)))).trans h3') rfl (by simp) rfl)];show aAn (aAi _ _ [some (.sh (.int (n:Int))),some (.sh (.int a)),some (.sh (dC c)),some (.sh (.str x)),some (.own [.int (n*a),dC r2,.bl b])])=_;have os:(fun (_:Rho)=>mkO t.aBr aU1 []) [some (.sh (.int (n:Int))),some (.sh (.int a)),some (.sh (dC c)),some (.sh (.str x)),some (.own [.int (n*a),dC r2,.bl b])]=ok (bC6 t):=by
  show bnd (aU1 []) _=_;unfold aU1;rw[if_pos rfl];rfl
 rw[aAg (aWv (i:=4) (acc:=[.int (n*a),dC r2,.bl b]) (d:=sD l) rfl ((aBj (aAf (d:=bC6 t) os (aAf (d:= .int (n:Int)) rfl (aAf ((aBj (aAf (d:= .str x) rfl aAs)).trans (bMy t x)) aAs)))).trans h4') (bB6 _) (by simp) rfl)];show aAn (aAi _ _ [some (.sh (.int (n:Int))),some (.sh (.int a)),some (.sh (dC c)),some (.sh (.str x)),some (.own [.int (n*a),dC r2,.bl b,sD l])])=_;have q:=aEa (aRe (f:=look 0) (g:=con (.int 0)) (ρ:=[some (.sh (.int (n:Int))),some (.sh (.int a)),some (.sh (dC c)),some (.sh (.str x)),some (.own [.int (n*a),dC r2,.bl b,sD l])]) (i:=(n:Int)) (j:=0) rfl rfl);rcases hc with⟨h,i1,i2,i3⟩ |⟨h,i1,i2,i3⟩
 ·subst i1 i2 i3 h
  rw[show decide (((0:Nat):Int)=0)=true from rfl] at q;rw[aBf ((aMy q).trans (aBf (aBp ((aBj (aAf (f:=look 4) (d:= .lst [.int (((0:Nat):Int)*a),dC none,.bl false,sD []]) rfl (aAf (d:= .lst [.int 0,.non,.bl false,sD []]) rfl aAs))).trans (by
   rw[show ((0:Nat):Int)*a=0 from Int.zero_mul a];exact bNw (c:=none) (l:=[]) (by simp) (fun p hp=>by cases hp))))))]
  rfl
 ·rw[decide_eq_false (by omega:¬((n:Int)=0))] at q
  subst i1 i2 i3;have m1:=bPl (aAf (aQ3 (f:=look 0) (g:=look 1) (ρ:=[some (.sh (.int (n:Int))),some (.sh (.int a)),some (.sh (dC r2)),some (.sh (.str x)),some (.own [.int (n*a),dC r2,.bl true,sD [([x],(n:Int))]])]) (i:=(n:Int)) (j:=a) rfl rfl (hnb.aM5 ha (by decide) (by decide))) (aAf (f:=look 2) (d:=dC r2) rfl (aAf (f:=con (.bl true)) (d:= .bl true) rfl (aAf (f:=mkT (aAe (mkT (aAe (mkT (aAe (look 3) aA3)) (aAe (look 0) aA3))) aA3)) (d:=sD [([x],(n:Int))]) rfl aAs))));rw[aAg ((aJ9 q).trans rfl),aBf (aBp ((aBj (aAf (f:=look 4) (d:= .lst [.int (n*a),dC r2,.bl true,sD [([x],(n:Int))]]) rfl (aAf m1 aAs))).trans (bNw (by simp) (fun p hp=>by rw[List.mem_singleton] at hp;subst hp;simp))))];rfl
end
def fRef (t:Adr):List D->M D:=aFc 2 fun ds=>aAn (aE1 t (aEj t) aDz (aBg aE3 ds))
theorem bN2 (t:Adr){s m:D}(h:aEj t [s,aH2 t,m]=err t.aAu):fRef t [s,m]=ok (.bl true):=by
 refine aB2 rfl ?_;have e0:aBg aE3 [s,m]=[some (.sh s),some (.sh m),none,none]:=rfl;rw[e0];unfold aE1;rw[aAg (aA1 (d:= .bl false) rfl rfl)];show aAn (aAi _ _ [some (.sh s),some (.sh m),some (.sh (.bl false)),none])=_;have a1:app (aEj t) (aAe (look 0) (aAe (fun _=>mkO t.aAm aDz []) (aAe (look 1) aA3))) [some (.sh s),some (.sh m),some (.sh (.bl false)),none]=err t.aAu:=(aBj (aAf (d:=s) rfl (aAf (d:=aH2 t) rfl (aAf (d:=m) rfl aAs)))).trans h;have s1:aP8 (app (aEj t) (aAe (look 0) (aAe (fun _=>mkO t.aAm aDz []) (aAe (look 1) aA3)))) [some (.sh s),some (.sh m),some (.sh (.bl false)),none]=some (.ex t.aAu [some (.sh s),some (.sh m),some (.sh (.bl false)),none]):=by
  unfold aP8;rw[a1];rfl
 have k1:exs (aBm t) (look 3) [some (.sh s),some (.sh m),some (.sh (.bl false)),some (.sh (.exc t.aAu))]=ok (.bl true):=by
  show (if aBm t t.aAu=true then ok (D.bl true) else none)=_;rw[if_pos (by simp[aBm])]
 have k2:exs (aBw t) (look 3) [some (.sh s),some (.sh m),some (.sh (.bl false)),some (.sh (.exc t.aAu))]=ok (.bl true):=by
  show (if aBw t t.aAu=true then ok (D.bl true) else none)=_;rw[if_pos (by simp[aBw])]
 have hb:aAi (aDy 2 (aV0 (exs (aBm t) (look 3)) (exs (aBw t) (look 3)))) aAp [some (.sh s),some (.sh m),some (.sh (.bl false)),some (.sh (.exc t.aAu))]=some (.nx [some (.sh s),some (.sh m),some (.sh (.bl true)),some (.sh (.exc t.aAu))]):=by
  rw[aAg (aA1 (aXy k1 k2) rfl)];rfl
 have tr:bNx (aAi (aP8 (app (aEj t) (aAe (look 0) (aAe (fun _=>mkO t.aAm aDz []) (aAe (look 1) aA3))))) aAp) (⟨aGh t,3,(aAi (aDy 2 (aV0 (exs (aBm t) (look 3)) (exs (aBw t) (look 3)))) aAp)⟩::[]) [some (.sh s),some (.sh m),some (.sh (.bl false)),none]=some (.nx [some (.sh s),some (.sh m),some (.sh (.bl true)),none]):=by
  unfold bNx;rw[aN2 s1];have hm:aGh t t.aAu=some true:=by unfold aGh;rw[if_pos rfl]
  show (match aGh t t.aAu with | some true=>_ | some false=>_ | none=>_)=_;rw[hm];show aft 3 (aAi (aDy 2 (aV0 (exs (aBm t) (look 3)) (exs (aBw t) (look 3)))) aAp [some (.sh s),some (.sh m),some (.sh (.bl false)),some (.sh (.exc t.aAu))])=_;rw[hb];rfl
 rw[aAg tr,aBf (aBp (d:= .bl true) rfl)];rfl
abbrev kvs (l:List (Str×D)):List (Key×D):=l.map fun p=>(Sum.inr p.1,p.2)
abbrev owk (l:List (Str×D)):Option SV:=some (.ow (.k (kvs l)))
abbrev d4 (a b c e:Str)(x y z w:D):List (Str×D):=[(a,x),(b,y),(c,z),(e,w)]
structure Ne4 (a b c e:Str):Prop where
 ab:a≠b
 ac:a≠c
 ae:a≠e
 bc:b≠c
 be:b≠e
 ce:c≠e
def pk {α:Type}(a b c:Str)(x y z w:α)(n:Str):α:=if a=n then x else if b=n then y else if c=n then z else w
theorem bCj {α:Type}{a b c:Str}{x y z w:α}(p:α->Prop)(hx:p x)(hy:p y)(hz:p z)(hw:p w)(n:Str):p (pk a b c x y z w n):=by
 unfold pk;split
 ·exact hx
 split
 ·exact hy
 split
 ·exact hz
 ·exact hw
theorem bNb {α:Type}(f:α->D){a b c e:Str}{x y z w:α}: ∀n∈[a,b,c,e],aKf (d4 a b c e (f x) (f y) (f z) (f w)) n=some (f (pk a b c x y z w n)):=by
 intro n hn;unfold aKf pk;by_cases h0:a=n
 ·simp[List.find?,h0]
 by_cases h1:b=n
 ·simp[List.find?,h0,h1]
 by_cases h2:c=n
 ·simp[List.find?,h0,h1,h2]
 have h3:e=n:=by
  simp only[List.mem_cons,List.not_mem_nil,or_false] at hn;rcases hn with q | q | q | q
  ·exact absurd q.symm h0
  ·exact absurd q.symm h1
  ·exact absurd q.symm h2
  ·exact q.symm
 simp[List.find?,h0,h1,h2,h3]
theorem aR3 {l:List (Str×D)}{n:Str}{d:D}(h: ∀p∈l,p.1≠n):aR4 (kvs l) (Sum.inr n) d=kvs (l++ [(n,d)]):=by
 unfold aR4;rw[if_neg]
 ·show _=(l++ [(n,d)]).map _
  rw[List.map_append];rfl
 ·intro q
  rw[List.any_eq_true] at q;obtain⟨p,hp,q⟩:=q;obtain⟨p',hp',rfl⟩:=List.mem_map.mp hp;exact h p' hp' (Sum.inr.inj (of_decide_eq_true q))
theorem bOg {a b c e:Str}{x y z w d:D}(N:Ne4 a b c e):aR4 (kvs (d4 a b c e x y z w)) (Sum.inr b) d=kvs (d4 a b c e x d z w):=by
 have h1:=N.ab;have h2:=Ne.symm N.bc;have h3:=Ne.symm N.be;simp[aR4,h1,h2,h3]
theorem bQj {a b c e:Str}{x y z w:D}(N:Ne4 a b c e):aTa (kvs (d4 a b c e x y z w)) (Sum.inr e)=kvs [(a,x),(b,y),(c,z)]:=by
 have h1:=N.ae;have h2:=N.be;have h3:=N.ce;simp[aTa,h1,h2,h3]
theorem aLq {ρ:Rho}{i:Nat}{fk f:Rho->M D}{l l':List (Str×D)}{n:Str}{d:D}(h1:ρ[i]? =some (owk l))(hk:fk ρ=ok (.str n))(hf:f ρ=ok d)(hd:d.imm=true)(hl:l.length<=10)(e:aR4 (kvs l) (Sum.inr n) d=kvs l'):aIu i fk f ρ=some (.nx (ρ.set i (owk l'))):=by
 unfold aIu;rw[h1];show lft (f ρ) ρ _=_;rw[hf,aHi,hk,aHi];show (if d.imm=true/\(kvs l).length<100000 then some (Out.nx (ρ.set i (some (.ow (.k (aR4 (kvs l) (Sum.inr n) d)))))) else none)=_;rw[if_pos ⟨hd,by rw[List.length_map];omega⟩,e]
theorem bKr {ρ:Rho}{i:Nat}{fk:Rho->M D}{l l':List (Str×D)}{n:Str}{v:D}(h1:ρ[i]? =some (owk l))(hk:fk ρ=ok (.str n))(hv:aKf l n=some v)(e:aTa (kvs l) (Sum.inr n)=kvs l'):aWk i fk ρ=some (.nx (ρ.set i (owk l'))):=by
 unfold aWk;rw[h1];show lft (fk ρ) ρ _=_;rw[hk,aHi];show (if (aMt (kvs l) (Sum.inr n)).isSome=true then some (Out.nx (ρ.set i (some (.ow (.k (aTa (kvs l) (Sum.inr n))))))) else none)=_;rw[if_pos (by rw[val_mk,hv];rfl),e]
theorem bD3: ∀{l:List (Str×D)},(∀p∈l,p.2.imm=true)->bMc (kvs l)=true
 | [],_=>rfl
 | p::l,h=>by
  show (p.2.imm&&bMc (kvs l))=true;rw[h p List.mem_cons_self,bD3 fun q hq=>h q (List.mem_cons_of_mem _ hq)];rfl
theorem bIa {ρ:Rho}{i:Nat}{f:Rho->M D}{l:List (Str×D)}(h:f ρ=ok (mk l))(hl: ∀p∈l,p.2.imm=true):aT5 i f ρ=some (.nx (ρ.set i (owk l))):=by
 unfold aT5;rw[h,aHi];show (if bMc (kvs l)=true then some (Out.nx (ρ.set i (some (.ow (.k (kvs l)))))) else none)=_;rw[if_pos (bD3 hl)]
theorem bQg {a b c e:Str}{x y z w:Int}(N:Ne4 a b c e):bJj (mk (d4 a b c e (.int x) (.int y) (.int z) (.int w))) (mk (d4 a b c e (.int x) (.int y) (.int z) (.int w)))=ok (.bl true):=by
 show ok (D.bl (bRf [((Sum.inr a:Key),x),(Sum.inr b,y),(Sum.inr c,z),(Sum.inr e,w)] [((Sum.inr a:Key),x),(Sum.inr b,y),(Sum.inr c,z),(Sum.inr e,w)]))=_;have h1:=N.ab;have h2:=N.ac;have h3:=N.ae;have h4:=N.bc;have h5:=N.be;have h6:=N.ce;simp[bRf,PU.numAt,List.find?,h1,h2,h3,h4,h5,h6]
theorem bJw {m k:Nat}{it:Rho->M (List D)}{fe:Rho->M D}{ρ:Rho}{g:List Str×Int->D}: ∀(l:Sm),(∀p∈l,fe ((ext m (free ρ)).set k (some (.sh (pD p))))=ok (g p)/\(g p).imm=true)->aMp [k] h1 (fun _=>ok true) fe (l.map pD) (ext m (free ρ))=ok (l.map g)
 | [],_=>rfl
 | p::l,h=>by
  have ih:=bJw (it:=it) l fun q hq=>h q (List.mem_cons_of_mem _ hq)
  obtain⟨e1,e2⟩:=h p List.mem_cons_self;rw[List.map_cons,List.map_cons];unfold aMp;show (match fe ((ext m (free ρ)).set k (some (.sh (pD p)))) with | some (.ok r)=>if r.imm=true then bnd (aMp [k] h1 (fun _=>ok true) fe (l.map pD) (ext m (free ρ))) fun rs=>ok (r::rs) else none | _=>none)=_;rw[e1];show (if (g p).imm=true then bnd (aMp [k] h1 (fun _=>ok true) fe (l.map pD) (ext m (free ρ))) fun rs=>ok (g p::rs) else none)=_;rw[if_pos e2,ih];rfl
theorem bQ0 {α:Type}(f:α->Bool)(l:List α):bNd (.lst (l.map fun c=>D.bl (f c)))=ok (.bl (l.any f)):=by
 show (match blL (l.map fun c=>D.bl (f c)) with | some bs=>ok (D.bl (bs.any id)) | none=>none)=_;rw[bFb];show ok (D.bl ((l.map f).any id))=_;rw[List.any_map];rfl
theorem same_int (a:Int):aEe 9 [.int a,.int a]=ok (.bl true):=aJl rfl (by show 0<9;decide)
theorem bKi (a:Option Int):aEe 9 [dC a,dC a]=ok (.bl true):=aJl (bOk a) (by rw[bJq];decide)
theorem aUo {t:Adr}{m:Int}{f:Rho->M D}{ρ:Rho}(h:f ρ=ok (.int m))(hm:2<=m):app (mkO t.aAq aKe) (aAe f aA3) ρ=ok (aG5 t m):=by
 rw[aBj (aAf h aAs)];show bnd (if 2<=m then ok [(("many":Str),D.int m),("nought",.int 0),("one",.int 1)] else none) _=_;rw[if_pos hm];rfl
abbrev Rw (ns:List Int)(s1 s2 s3 s4 s5 s6 s7 s8 s9 s10:Option SV):Rho:=[some (.sh (.lst (ns.map D.int))),s1,s2,s3,s4,s5,s6,s7,s8,s9,s10]
abbrev nL (a b c e:Str):Option SV:=some (.sh (lS [a,b,c,e]))
def bE9 (t:Adr):Rho->Option Out:=(aAi (aIu 3 (b2 gIx (look 1) (look 6)) (app aGl (aAe (b2 aB9 (app fAt (aAe (look 0) (aAe (con (.int 2)) aA3))) (b2 aBd (look 6) (con (.int 1)))) aA3)))
  (aAi (aIu 4 (b2 gIx (look 1) (look 6)) (b2 aC1 (b2 aB9 (app fAt (aAe (look 0) (aAe (con (.int 2)) aA3))) (b2 aBd (look 6) (con (.int 2)))) (look 2)))
  (aAi (aIu 5 (b2 gIx (look 1) (look 6)) (app (bMm t) (aAe (b2 aB9 (app fAt (aAe (look 0) (aAe (con (.int 3)) aA3))) (b2 aBd (look 6) (con (.int 1)))) aA3)))
  aAp)))
theorem aLc (t:Adr){ns:List Int}{P:List Str}{m:Int}(hm:2<=m){l1 l2 l3:List (Str×D)}{s7 s8 s9 s10:Option SV}{j:Nat}(hj:j<=3){n:Str}(hn:P[j]? =some n)(h1: ∀p∈l1,p.1≠n)(h2: ∀p∈l2,p.1≠n)(h3: ∀p∈l3,p.1≠n)(k1:l1.length<=10)(k2:l2.length<=10)(k3:l3.length<=10):
  bE9 t (Rw ns (some (.sh (lS P))) (some (.sh (.int m))) (owk l1) (owk l2) (owk l3) (some (.sh (.int (j:Int)))) s7 s8 s9 s10)=some (.nx (Rw ns (some (.sh (lS P))) (some (.sh (.int m))) (owk (l1++ [(n,.int (num (atZ ns 2/((j:Int)+1))))])) (owk (l2++ [(n,.int (atZ ns 2/((j:Int)+2)%m))])) (owk (l3++ [(n,dC (bJv (atZ ns 3/((j:Int)+1))))])) (some (.sh (.int (j:Int)))) s7 s8 s9 s10)):=by
 unfold bE9;have hnd:(P.map D.str)[j]? =some (.str n):=by rw[List.getElem?_map,hn];rfl
 have ix: ∀(s3 s4 s5:Option SV),b2 gIx (look 1) (look 6) (Rw ns (some (.sh (lS P))) (some (.sh (.int m))) s3 s4 s5 (some (.sh (.int (j:Int)))) s7 s8 s9 s10)=ok (.str n):=fun s3 s4 s5=>aGu (x:=lS P) (y:= .int (j:Int)) rfl rfl (aYw hnd)
 have t2: ∀(s3 s4 s5:Option SV),app fAt (aAe (look 0) (aAe (con (.int 2)) aA3)) (Rw ns (some (.sh (lS P))) (some (.sh (.int m))) s3 s4 s5 (some (.sh (.int (j:Int)))) s7 s8 s9 s10)=ok (.int (atZ ns 2)):=fun _ _ _=>aVv 2
 have t3: ∀(s3 s4 s5:Option SV),app fAt (aAe (look 0) (aAe (con (.int 3)) aA3)) (Rw ns (some (.sh (lS P))) (some (.sh (.int m))) s3 s4 s5 (some (.sh (.int (j:Int)))) s7 s8 s9 s10)=ok (.int (atZ ns 3)):=fun _ _ _=>aVv 3
 have nu: ∀z:Int,aGl [.int z]=ok (.int (num z)):=fun _=>rfl
 rw[aAg (aLq (i:=3) (l:=l1) rfl (ix _ _ _) ((aBj (aAf (aI5 (t2 _ _ _) (aIj (f:=look 6) (g:=con (.int 1)) (i:=(j:Int)) (j:=1) rfl rfl) (by omega) (by omega)) aAs)).trans (nu _)) rfl k1 (aR3 h1))];show aAi _ _ (Rw ns (some (.sh (lS P))) (some (.sh (.int m))) (owk (l1++ [(n,.int (num (atZ ns 2/((j:Int)+1))))])) (owk l2) (owk l3) (some (.sh (.int (j:Int)))) s7 s8 s9 s10)=_;rw[aAg (aLq (i:=4) (l:=l2) rfl (ix _ _ _) (aFy (aI5 (t2 _ _ _) (aIj (f:=look 6) (g:=con (.int 2)) (i:=(j:Int)) (j:=2) rfl rfl) (by omega) (by omega)) (g:=look 2) (j:=m) rfl (by omega)) rfl k2 (aR3 h2))];show aAi _ _ (Rw ns (some (.sh (lS P))) (some (.sh (.int m))) (owk (l1++ [(n,.int (num (atZ ns 2/((j:Int)+1))))])) (owk (l2++ [(n,.int (atZ ns 2/((j:Int)+2)%m))])) (owk l3) (some (.sh (.int (j:Int)))) s7 s8 s9 s10)=_;rw[aAg (aLq (i:=5) (l:=l3) rfl (ix _ _ _) ((aBj (aAf (aI5 (t3 _ _ _) (aIj (f:=look 6) (g:=con (.int 1)) (i:=(j:Int)) (j:=1) rfl rfl) (by omega) (by omega)) aAs)).trans (bMs t _)) (aUz _) k3 (aR3 h3))];rfl
theorem fill (t:Adr){ns:List Int}{a b c e:Str}(N:Ne4 a b c e){m:Int}(hm:2<=m){s7 s8 s9 s10:Option SV}: ∃(x1 y1 z1 w1 x2 y2 z2 w2:Int) (x3 y3 z3 w3:Option Int),(Bd 200 x1/\Bd 200 y1/\Bd 200 z1/\Bd 200 w1)/\((0<=x2/\x2<m)/\(0<=y2/\y2<m)/\(0<=z2/\z2<m)/\(0<=w2/\w2<m))/\
  aEt (con (.int 4)) (gN 6) (bE9 t) (Rw ns (nL a b c e) (some (.sh (.int m))) (owk []) (owk []) (owk []) none s7 s8 s9 s10)=some (.nx (Rw ns (nL a b c e) (some (.sh (.int m))) (owk (d4 a b c e (.int x1) (.int y1) (.int z1) (.int w1))) (owk (d4 a b c e (.int x2) (.int y2) (.int z2) (.int w2))) (owk (d4 a b c e (dC x3) (dC y3) (dC z3) (dC w3))) (some (.sh (.int 3))) s7 s8 s9 s10)):=by
 have bd: ∀z,Bd 200 (num z):=fun z=>Bd.of (aYn z).1 (aYn z).2
 have md: ∀z:Int,0<=z%m/\z%m<m:=fun z=>⟨Int.emod_nonneg _ (by omega),Int.emod_lt_of_pos _ (by omega)⟩
 refine⟨num (atZ ns 2/(((0:Nat):Int)+1)),num (atZ ns 2/(((1:Nat):Int)+1)),num (atZ ns 2/(((2:Nat):Int)+1)),num (atZ ns 2/(((3:Nat):Int)+1)),atZ ns 2/(((0:Nat):Int)+2)%m,atZ ns 2/(((1:Nat):Int)+2)%m,atZ ns 2/(((2:Nat):Int)+2)%m,atZ ns 2/(((3:Nat):Int)+2)%m,bJv (atZ ns 3/(((0:Nat):Int)+1)),bJv (atZ ns 3/(((1:Nat):Int)+1)),bJv (atZ ns 3/(((2:Nat):Int)+1)),bJv (atZ ns 3/(((3:Nat):Int)+1)),⟨bd _,bd _,bd _,bd _⟩,⟨md _,md _,md _,md _⟩,?_⟩;rw[aS3 (n:=4) rfl (by decide)];show loop (gN 6) (bE9 t) [.int ((0:Nat):Int),.int ((1:Nat):Int),.int ((2:Nat):Int),.int ((3:Nat):Int)] _=_;have h1:=N.ab;have h2:=N.ac;have h3:=N.ae;have h4:=N.bc;have h5:=N.be;have h6:=N.ce;have f0:=aLc t (ns:=ns) (P:=[a,b,c,e]) hm (l1:=[]) (l2:=[]) (l3:=[]) (s7:=s7) (s8:=s8) (s9:=s9) (s10:=s10) (j:=0) (by decide) (n:=a) rfl (by simp) (by simp) (by simp) (by simp) (by simp) (by simp);rw[aB4 (ρ1:=Rw ns (nL a b c e) (some (.sh (.int m))) (owk []) (owk []) (owk []) (some (.sh (.int ((0:Nat):Int)))) s7 s8 s9 s10) rfl f0];have f1:=fun x y z=>aLc t (ns:=ns) (P:=[a,b,c,e]) hm (l1:=[(a,x)]) (l2:=[(a,y)]) (l3:=[(a,z)]) (s7:=s7) (s8:=s8) (s9:=s9) (s10:=s10) (j:=1) (by decide) (n:=b) rfl (by simpa using h1) (by simpa using h1) (by simpa using h1) (by simp) (by simp) (by simp)
 rw[aB4 rfl (f1 _ _ _)];have f2:=fun x y z x' y' z'=>aLc t (ns:=ns) (P:=[a,b,c,e]) hm (l1:=[(a,x),(b,x')]) (l2:=[(a,y),(b,y')]) (l3:=[(a,z),(b,z')]) (s7:=s7) (s8:=s8) (s9:=s9) (s10:=s10) (j:=2) (by decide) (n:=c) rfl (by simpa using⟨h2,h4⟩) (by simpa using⟨h2,h4⟩) (by simpa using⟨h2,h4⟩) (by simp) (by simp) (by simp)
 rw[aB4 rfl (f2 _ _ _ _ _ _)];have f3:=fun x y z x' y' z' x'' y'' z''=>aLc t (ns:=ns) (P:=[a,b,c,e]) hm (l1:=[(a,x),(b,x'),(c,x'')]) (l2:=[(a,y),(b,y'),(c,y'')]) (l3:=[(a,z),(b,z'),(c,z'')]) (s7:=s7) (s8:=s8) (s9:=s9) (s10:=s10) (j:=3) (by decide) (n:=e) rfl (by simpa using⟨h3,h5,h6⟩) (by simpa using⟨h3,h5,h6⟩) (by simpa using⟨h3,h5,h6⟩) (by simp) (by simp) (by simp)
 rw[aB4 rfl (f3 _ _ _ _ _ _ _ _ _)];rfl
abbrev RM (ns:List Int)(a b c e:Str)(m:Int)(M1 M2 M3:List (Str×D))(s7 s8 s9 s10:Option SV):Rho:=Rw ns (nL a b c e) (some (.sh (.int m))) (owk M1) (owk M2) (owk M3) (some (.sh (.int 3))) s7 s8 s9 s10
abbrev RN (ns:List Int)(a b c e:Str)(m:Int)(M1 M2 M3:List (Str×D))(s7:Option SV)(cell:Int)(l:Sm)(W1:Int):Rho:=RM ns a b c e m M1 M2 M3 s7 (some (.sh (.int cell))) (some (.sh (sD l))) (some (.sh (.int W1)))
def bIb (t:Adr):Rho->Option Out:=(aAi (aDy 9 (app (bRd t) (aAe (look 1) (aAe (look 8) aA3))))
  (aAi (aDy 10 (app (aMm t) (aAe (look 9) (aAe (look 3) aA3))))
  (aAi (sIf (aM1 (test (app (aEe 9) (aAe (app (aEj t) (aAe (look 9) (aAe (fun _=>mkO t.aAm aDz []) (aAe (look 7) aA3)))) (aAe (look 10) aA3))))) (aAi (aB7 (con (.bl false)))
  aAp) aAp)
  (aAi (sIf (aM1 (test (app (aEe 9) (aAe (app (aEj t) (aAe (look 9) (aAe (app (mkO t.aAq aKe) (aAe (look 2) aA3)) (aAe (look 4) aA3)))) (aAe (b2 aC1 (app (aMm t) (aAe (look 9) (aAe (look 4) aA3))) (look 2)) aA3))))) (aAi (aB7 (con (.bl false)))
  aAp) aAp)
  (aAi (sIf (aM1 (test (app (aEe 9) (aAe (app (aEj t) (aAe (look 9) (aAe (fun _=>mkO t.aAz aJ1 []) (aAe (look 5) aA3)))) (aAe (app (aS8 t) (aAe (look 9) (aAe (look 5) aA3))) aA3))))) (aAi (aB7 (con (.bl false)))
  aAp) aAp)
  (aAi (aIu 7 (b2 gIx (look 1) (con (.int 1))) (b2 aC1 (look 8) (con (.int 5))))
  (aAi (sIf (orB (aM1 (test (app (aEe 9) (aAe (app (aEj t) (aAe (look 9) (aAe (fun _=>mkO t.aAm aDz []) (aAe (look 7) aA3)))) (aAe (app (aMm t) (aAe (look 9) (aAe (look 7) aA3))) aA3))))) (aA2 (b2 gNe (f1 bRa (look 7)) (con (.int 4))))) (aAi (aB7 (con (.bl false)))
  aAp) aAp)
  (aAi (aIu 7 (b2 gIx (look 1) (con (.int 1))) (b2 aU4 (look 3) (b2 gIx (look 1) (con (.int 1)))))
  (aAi (sIf (test (f1 bNd (cmp 1 (itE (look 9)) [11] h1 (fun _=>ok true) (b2 (gIn false) (b2 gIx (look 1) (con (.int 3))) (b2 gIx (look 11) (con (.int 0))))))) (aAi (aWk 7 (b2 gIx (look 1) (con (.int 3))))
  (aAi (sIf (aM1 (test (app (fRef t) (aAe (look 9) (aAe (look 7) aA3))))) (aAi (aB7 (con (.bl false)))
  aAp) aAp)
  (aAi (aIu 7 (b2 gIx (look 1) (con (.int 3))) (b2 aU4 (look 3) (b2 gIx (look 1) (con (.int 3)))))
  aAp))) aAp)
  aAp)))))))))
section
variable {K:PySem.W.Frag}{mg:Str->Option Value}{t:Adr}(X:Txt K mg t)
include X
theorem bQt {ns:List Int}{a b c e:Str}(N:Ne4 a b c e)(hs: ∀n∈[a,b,c,e],Sh n){m:Int}(hm:2<=m)(hm2:m<=100){x1 y1 z1 w1 x2 y2 z2 w2:Int}{x3 y3 z3 w3:Option Int}(b1:Bd 200 x1/\Bd 200 y1/\Bd 200 z1/\Bd 200 w1)(b2':(0<=x2/\x2<m)/\(0<=y2/\y2<m)/\(0<=z2/\z2<m)/\(0<=w2/\w2<m))(cell:Int)(s9 s10:Option SV): ∃(u v:D),
  bIb t (Rw ns (nL a b c e) (some (.sh (.int m))) (owk (d4 a b c e (.int x1) (.int y1) (.int z1) (.int w1))) (owk (d4 a b c e (.int x2) (.int y2) (.int z2) (.int w2))) (owk (d4 a b c e (dC x3) (dC y3) (dC z3) (dC w3))) (some (.sh (.int 3))) (owk (d4 a b c e (.int x1) (.int y1) (.int z1) (.int w1))) (some (.sh (.int cell))) s9 s10)=some (.nx (Rw ns (nL a b c e) (some (.sh (.int m))) (owk (d4 a b c e (.int x1) (.int y1) (.int z1) (.int w1))) (owk (d4 a b c e (.int x2) (.int y2) (.int z2) (.int w2))) (owk (d4 a b c e (dC x3) (dC y3) (dC z3) (dC w3))) (some (.sh (.int 3))) (owk (d4 a b c e (.int x1) (.int y1) (.int z1) (.int w1))) (some (.sh (.int cell))) (some (.sh u)) (some (.sh v)))):=by
 obtain⟨l,hl,es⟩:=bNr t (P:=[a,b,c,e]) (by simp) (by simp) cell;have v1:=bNb D.int (a:=a) (b:=b) (c:=c) (e:=e) (x:=x1) (y:=y1) (z:=z1) (w:=w1);have v1b: ∀n∈[a,b,c,e],Bd 200 (pk a b c x1 y1 z1 w1 n):=fun n _=>bCj (Bd 200) b1.1 b1.2.1 b1.2.2.1 b1.2.2.2 n
 have v2:=bNb D.int (a:=a) (b:=b) (c:=c) (e:=e) (x:=x2) (y:=y2) (z:=z2) (w:=w2);have v2m: ∀n∈[a,b,c,e],0<=pk a b c x2 y2 z2 w2 n/\pk a b c x2 y2 z2 w2 n<m:=fun n _=>bCj (fun z=>0<=z/\z<m) b2'.1 b2'.2.1 b2'.2.2.1 b2'.2.2.2 n
 have v2b: ∀n∈[a,b,c,e],Bd 200 (pk a b c x2 y2 z2 w2 n):=fun n hn=>Bd.of (v2m n hn).1 (by have:=(v2m n hn).2;omega)
 have v3:=bNb dC (a:=a) (b:=b) (c:=c) (e:=e) (x:=x3) (y:=y3) (z:=z3) (w:=w3);have v4:=bNb D.int (a:=a) (b:=b) (c:=c) (e:=e) (x:=x1) (y:=cell%5) (z:=z1) (w:=w1);have v4b: ∀n∈[a,b,c,e],Bd 200 (pk a b c x1 (cell%5) z1 w1 n):=fun n _=>bCj (Bd 200) b1.1 (Bd.of (by omega) (by omega)) b1.2.2.1 b1.2.2.2 n
 have gb:aKf (d4 a b c e (.int x1) (.int y1) (.int z1) (.int w1)) b=some (.int y1):=by
  rw[v1 b (by simp)];unfold pk;rw[if_neg N.ab,if_pos rfl]
 have ge:aKf (d4 a b c e (.int x1) (.int y1) (.int z1) (.int w1)) e=some (.int w1):=by
  rw[v1 e (by simp)];unfold pk;rw[if_neg N.ae,if_neg N.be,if_neg N.ce]
 generalize hM:d4 a b c e (.int x1) (.int y1) (.int z1) (.int w1)=M1 at v1 gb ge⊢;generalize hM2:d4 a b c e (.int x2) (.int y2) (.int z2) (.int w2)=M2 at v2⊢;generalize hM3:d4 a b c e (dC x3) (dC y3) (dC z3) (dC w3)=M3 at v3⊢;generalize hM4:d4 a b c e (.int x1) (.int (cell%5)) (.int z1) (.int w1)=M4 at v4;have w1':=aMd X hl hs v1 v1b;have w2':=aTr X hl hs hm hm2 v2 v2m;have w3':=aV2 X hl hs v3;have w4':=aMd X hl hs v4 v4b;have c1':=aTd t hl v1 v1b;have c2':=aTd t hl v2 v2b;have c4':=aTd t hl v4 v4b;have l3':=bHo t hl v3;generalize wr (pk a b c x1 y1 z1 w1) l=W1 at w1' c1';generalize wr (pk a b c x2 y2 z2 w2) l=W2 at w2' c2';generalize wr (pk a b c x1 (cell%5) z1 w1) l=W4 at w4' c4';generalize allOf none lo (l.map fun p=>(p.1.map (pk a b c x3 y3 z3 w3)).foldl su (some 0))=W3 at w3' l3';refine⟨sD l,.int W1,?_⟩;unfold bIb;have e9:app (bRd t) (aAe (look 1) (aAe (look 8) aA3)) (RM ns a b c e m M1 M2 M3 (owk M1) (some (.sh (.int cell))) s9 s10)=ok (sD l):=(aBj (aAf (d:=lS [a,b,c,e]) rfl (aAf (d:= .int cell) rfl aAs))).trans es;rw[aAg (aA1 e9 (bB6 l))];show aAi _ _ (RM ns a b c e m M1 M2 M3 (owk M1) (some (.sh (.int cell))) (some (.sh (sD l))) s10)=_;have e10:app (aMm t) (aAe (look 9) (aAe (look 3) aA3)) (RM ns a b c e m M1 M2 M3 (owk M1) (some (.sh (.int cell))) (some (.sh (sD l))) s10)=ok (.int W1):=(aBj (aAf (d:=sD l) rfl (aAf (d:=mk M1) rfl aAs))).trans c1';rw[aAg (aA1 e10 rfl)];show aAi _ _ (RN ns a b c e m M1 M2 M3 (owk M1) cell l W1)=_;have k1:=(aBj (F:=aEe 9) (ρ:=RN ns a b c e m M1 M2 M3 (owk M1) cell l W1) (aAf ((aBj (F:=aEj t) (aAf (f:=look 9) (d:=sD l) rfl (aAf (f:=fun _=>mkO t.aAm aDz []) (d:=aH2 t) rfl (aAf (f:=look 7) (d:=mk M1) rfl aAs)))).trans w1') (aAf (f:=look 10) (d:= .int W1) rfl aAs))).trans (same_int W1);rw[aAg (aJh k1)];have k2:=(aBj (F:=aEe 9) (ρ:=RN ns a b c e m M1 M2 M3 (owk M1) cell l W1) (aAf ((aBj (F:=aEj t) (aAf (f:=look 9) (d:=sD l) rfl (aAf (aUo (t:=t) (f:=look 2) rfl hm) (aAf (f:=look 4) (d:=mk M2) rfl aAs)))).trans w2') (aAf (aFy ((aBj (F:=aMm t) (aAf (f:=look 9) (d:=sD l) rfl (aAf (f:=look 4) (d:=mk M2) rfl aAs))).trans c2') (g:=look 2) (j:=m) rfl (by omega)) aAs))).trans (same_int (W2%m));rw[aAg (aJh k2)];have k3:=(aBj (F:=aEe 9) (ρ:=RN ns a b c e m M1 M2 M3 (owk M1) cell l W1) (aAf ((aBj (F:=aEj t) (aAf (f:=look 9) (d:=sD l) rfl (aAf (f:=fun _=>mkO t.aAz aJ1 []) (d:=aOj t) rfl (aAf (f:=look 5) (d:=mk M3) rfl aAs)))).trans w3') (aAf ((aBj (F:=aS8 t) (aAf (f:=look 9) (d:=sD l) rfl (aAf (f:=look 5) (d:=mk M3) rfl aAs))).trans l3') aAs))).trans (bKi W3);rw[aAg (aJh k3)];have ix1: ∀s7:Option SV,b2 gIx (look 1) (con (.int 1)) (RN ns a b c e m M1 M2 M3 s7 cell l W1)=ok (.str b):=fun _=>rfl
 have ix3: ∀s7:Option SV,b2 gIx (look 1) (con (.int 3)) (RN ns a b c e m M1 M2 M3 s7 cell l W1)=ok (.str e):=fun _=>rfl
 have p1:aR4 (kvs M1) (Sum.inr b) (.int (cell%5))=kvs M4:=by
  subst hM hM4;exact bOg N
 have p2:aR4 (kvs M4) (Sum.inr b) (.int y1)=kvs M1:=by
  subst hM hM4;exact bOg N
 have l1:M1.length=4:=by subst hM;rfl
 have l4:M4.length=4:=by subst hM4;rfl
 rw[aAg (aLq (i:=7) (l:=M1) (l':=M4) rfl (ix1 _) (aFy (f:=look 8) (g:=con (.int 5)) (i:=cell) (j:=5) rfl rfl (by decide)) rfl (by omega) p1)];show aAi _ _ (RN ns a b c e m M1 M2 M3 (owk M4) cell l W1)=_;have k4:=(aBj (F:=aEe 9) (ρ:=RN ns a b c e m M1 M2 M3 (owk M4) cell l W1) (aAf ((aBj (F:=aEj t) (aAf (f:=look 9) (d:=sD l) rfl (aAf (f:=fun _=>mkO t.aAm aDz []) (d:=aH2 t) rfl (aAf (f:=look 7) (d:=mk M4) rfl aAs)))).trans w4') (aAf ((aBj (F:=aMm t) (aAf (f:=look 9) (d:=sD l) rfl (aAf (f:=look 7) (d:=mk M4) rfl aAs))).trans c4') aAs))).trans (same_int W4);have k5:b2 gNe (f1 bRa (look 7)) (con (.int 4)) (RN ns a b c e m M1 M2 M3 (owk M4) cell l W1)=ok (.bl false):=by
  subst hM4;rfl
 rw[aAg ((aJ9 (bI2 (bC8 (bBh (b:=true) k4 rfl)) (aEa k5))).trans rfl)];rw[aAg (aLq (i:=7) (l:=M4) (l':=M1) rfl (ix1 _) (aPb (l:=M1) (n:=b) rfl (ix1 _) gb) rfl (by omega) p2)];show aAi _ _ (RN ns a b c e m M1 M2 M3 (owk M1) cell l W1)=_;have c5:cmp 1 (itE (look 9)) [11] h1 (fun _=>ok true) (b2 (gIn false) (b2 gIx (look 1) (con (.int 3))) (b2 gIx (look 11) (con (.int 0)))) (RN ns a b c e m M1 M2 M3 (owk M1) cell l W1)=ok (.lst (l.map fun p=>D.bl (p.1.contains e))):=by
  unfold cmp;rw[show itE (look 9) (RN ns a b c e m M1 M2 M3 (owk M1) cell l W1)=ok (l.map pD) from rfl,aCx,if_pos (by rw[List.length_map];have:=hl.le;omega)];rw[bJw (it:=itE (look 9)) (g:=fun p=>D.bl (p.1.contains e)) l (fun p hp=>⟨bSz (neg:=false) (x:=e) (h:=p.1) rfl (bEe rfl),rfl⟩)];rfl
 have t5:=bJ6 (aLe (g:=bNd) c5 (bQ0 (fun p:List Str×Int=>p.1.contains e) l));cases hA:l.any (fun p=>p.1.contains e) with
 | false=>
  rw[hA] at t5;rw[aAg ((aJ9 t5).trans rfl)];rfl
 | true=>
  rw[hA] at t5;have d1:aTa (kvs M1) (Sum.inr e)=kvs [(a,.int x1),(b,.int y1),(c,.int z1)]:=by
   subst hM;exact bQj N
  have p3:aR4 (kvs [(a,.int x1),(b,.int y1),(c,.int z1)]) (Sum.inr e) (.int w1)=kvs M1:=by
   subst hM;refine aR3 (l:=[(a,.int x1),(b,.int y1),(c,.int z1)]) ?_;have q1:=N.ae;have q2:=N.be;have q3:=N.ce
   simpa using⟨q1,q2,q3⟩
  have ge':aKf [(a,.int x1),(b,.int y1),(c,.int z1)] e=none:=by
   have q1:=N.ae;have q2:=N.be;have q3:=N.ce;simp[aKf,List.find?,q1,q2,q3]
  have nl:((l.flatMap (·.1)).length<60):=aS6 hl.le hl.fi;have wr':=aV1 t (l:=l) (o:=aH2 t) (d:=[(a,.int x1),(b,.int y1),(c,.int z1)]) nl (fun n hn=>hs n (aOo hl.fi n hn)) (by
   intro q;rw[List.any_eq_true] at hA;obtain⟨p,hp,hq⟩:=hA;have:=List.all_eq_true.mp q e (aUm.mpr ⟨p,hp,List.contains_iff_mem.mp hq⟩);rw[ge'] at this;cases this)
  have i1:(aAi (aWk 7 (b2 gIx (look 1) (con (.int 3)))) (aAi (sIf (aM1 (test (app (fRef t) (aAe (look 9) (aAe (look 7) aA3))))) (aAi (aB7 (con (.bl false))) aAp) aAp) (aAi (aIu 7 (b2 gIx (look 1) (con (.int 3))) (b2 aU4 (look 3) (b2 gIx (look 1) (con (.int 3))))) aAp))) (RN ns a b c e m M1 M2 M3 (owk M1) cell l W1)=some (.nx (RN ns a b c e m M1 M2 M3 (owk M1) cell l W1)):=by
   rw[aAg (bKr (i:=7) (l:=M1) rfl (ix3 _) ge d1)];show aAi _ _ (RN ns a b c e m M1 M2 M3 (owk [(a,.int x1),(b,.int y1),(c,.int z1)]) cell l W1)=_;have k6:=(aBj (F:=fRef t) (ρ:=RN ns a b c e m M1 M2 M3 (owk [(a,.int x1),(b,.int y1),(c,.int z1)]) cell l W1) (aAf (f:=look 9) (d:=sD l) rfl (aAf (f:=look 7) (d:=mk [(a,.int x1),(b,.int y1),(c,.int z1)]) rfl aAs))).trans (bN2 t wr');rw[aAg (aJh k6),aAg (aLq (i:=7) (l:=[(a,.int x1),(b,.int y1),(c,.int z1)]) (l':=M1) rfl (ix3 _) (aPb (l:=M1) (n:=e) rfl (ix3 _) ge) rfl (by simp) p3)];rfl
  rw[aAg ((aMy t5).trans i1)];rfl
end
def bKj:List D->Prop:=fun ds=> ∃ns:List Int,ds=[.lst (ns.map D.int)]/\ns.length<=63
theorem bQo {ns:List Int}: ∃cs:List Int,L2.PU.cutD (ns.map D.int) (some ((4:Nat):Int)) (some ((28:Nat):Int))=cs.map D.int:=by
 unfold L2.PU.cutD;rw[HT.bB0,HT.bB0,<-List.map_drop,<-List.map_take];exact⟨_,rfl⟩
theorem bMi {f:Rho->M D}{G:D->Rho->Option Rho}{F:Rho->Option Out}{ρ:Rho}{ds:List D}(h:f ρ=ok (.lst ds))(ha:ap (.lst ds) ρ=true):bB2 f G F ρ=loop G F ds ρ:=by
 unfold bB2;rw[h,aHi];show (if ap (.lst ds) ρ=true then loop G F ds ρ else none)=_;rw[if_pos ha]
theorem aY6: ∀cs:List Int,aIm (cs.map D.int)=true
 | []=>rfl
 | c::cs=>aY6 cs
theorem bLz {K:PySem.W.Frag}{mg:Str->Option Value}{t:Adr}(X:Txt K mg t): ∀ds r,tt bKj ds=some r->∃d,r= .ok d/\aAn (aTb t fAt (bMm t) (aMm t) (aS8 t) fName aGl (fRef t) (aEe 9) (bRd t) (fTm t) (aHq t) (aEj t) aJ1 aDz aKe (aBg bFq ds))=ok d:=by
 intro ds r hr;obtain⟨hS,e⟩:=bIk hr;clear hr;subst e;obtain⟨ns,rfl,hns⟩:=hS;refine⟨_,rfl,?_⟩;have e0:aBg bFq [.lst (ns.map D.int)]=Rw ns none none none none none none none none none none:=rfl;rw[e0];unfold aTb;have hst:0<=atZ ns 0%2000/\atZ ns 0%2000<2000:=by omega
 have n1:=bHh (m:=1) (k:=11) (n:=4) (f:=con (.int 4)) (ρ:=Rw ns none none none none none none none none none none) (fs:=b2 aC1 (app fAt (aAe (look 0) (aAe (con (.int 0)) aA3))) (con (.int 2000))) (st:=atZ ns 0%2000) rfl (by omega) hst (fun v=>aFy (aVv 0) rfl (by decide)) (Nat.lt_succ_self 11);rw[aAg (aR2 n1 rfl)];have hn:=bPh 4 (by decide) (atZ ns 0%2000);have hsh:=bPg 4 (atZ ns 0%2000);have hl:(nms 4 (atZ ns 0%2000)).length=4:=bLq _ _;generalize nms 4 (atZ ns 0%2000)=P at hn hl hsh⊢;obtain⟨a,b,c,e,rfl⟩: ∃a b c e:Str,P=[a,b,c,e]:=by
  match P,hl with
  | [a,b,c,e],_=>exact⟨a,b,c,e,rfl⟩
 have N:Ne4 a b c e:=by
  simp only[List.nodup_cons,List.mem_cons,List.not_mem_nil,not_or,or_false,not_false_eq_true,List.nodup_nil,and_true] at hn;exact⟨hn.1.1,hn.1.2.1,hn.1.2.2,hn.2.1.1,hn.2.1.2,hn.2.2⟩
 show aAn (aAi _ _ (Rw ns (nL a b c e) none none none none none none none none none))=_;have m2:b2 aBd (con (.int 2)) (b2 aC1 (app fAt (aAe (look 0) (aAe (con (.int 1)) aA3))) (con (.int 60))) (Rw ns (nL a b c e) none none none none none none none none none)=ok (.int (2+atZ ns 1%60)):=aIj rfl (aFy (aVv 1) rfl (by decide));rw[aAg (aA1 m2 rfl)];have hm:2<=2+atZ ns 1%60/\2+atZ ns 1%60<=100:=by omega
 generalize 2+atZ ns 1%60=m at hm⊢;obtain⟨hm,hm2⟩:=hm;show aAn (aAi (aT4 3) _ (Rw ns (nL a b c e) (some (.sh (.int m))) none none none none none none none none))=_;rw[aAg (show aT4 3 (Rw ns (nL a b c e) (some (.sh (.int m))) none none none none none none none none)=some (.nx (Rw ns (nL a b c e) (some (.sh (.int m))) (owk []) none none none none none none none)) from rfl)];rw[aAg (show aT4 4 (Rw ns (nL a b c e) (some (.sh (.int m))) (owk []) none none none none none none none)=some (.nx (Rw ns (nL a b c e) (some (.sh (.int m))) (owk []) (owk []) none none none none none none)) from rfl)];rw[aAg (show aT4 5 (Rw ns (nL a b c e) (some (.sh (.int m))) (owk []) (owk []) none none none none none none)=some (.nx (Rw ns (nL a b c e) (some (.sh (.int m))) (owk []) (owk []) (owk []) none none none none none)) from rfl)];obtain⟨x1,y1,z1,w1,x2,y2,z2,w2,x3,y3,z3,w3,b1,b2',fl⟩:=fill t (ns:=ns) N hm (s7:=none) (s8:=none) (s9:=none) (s10:=none);show aAn (aAi (aEt (con (.int 4)) (gN 6) (bE9 t)) _ _)=_;rw[aAg fl];have cp:aT5 7 (look 3) (Rw ns (nL a b c e) (some (.sh (.int m))) (owk (d4 a b c e (.int x1) (.int y1) (.int z1) (.int w1))) (owk (d4 a b c e (.int x2) (.int y2) (.int z2) (.int w2))) (owk (d4 a b c e (dC x3) (dC y3) (dC z3) (dC w3))) (some (.sh (.int 3))) none none none none)=some (.nx (Rw ns (nL a b c e) (some (.sh (.int m))) (owk (d4 a b c e (.int x1) (.int y1) (.int z1) (.int w1))) (owk (d4 a b c e (.int x2) (.int y2) (.int z2) (.int w2))) (owk (d4 a b c e (dC x3) (dC y3) (dC z3) (dC w3))) (some (.sh (.int 3))) (owk (d4 a b c e (.int x1) (.int y1) (.int z1) (.int w1))) none none none)):=bIa (i:=7) (l:=d4 a b c e (.int x1) (.int y1) (.int z1) (.int w1)) rfl (by simp[D.imm]);rw[aAg cp];have nn:0<=num (atZ ns 1)/\num (atZ ns 1)<1000000000000000000000000000000000000000000000000000000000000:=aYn _;obtain⟨nt,hnt⟩: ∃k:Nat,num (atZ ns 1)=(k:Int):=⟨(num (atZ ns 1)).toNat,by omega⟩;have hnt2:nt<2^200:=by
  have:(1000000000000000000000000000000000000000000000000000000000000:Nat)<2^200:=by decide
  omega
 have g1:aKf (d4 a b c e (.int x1) (.int y1) (.int z1) (.int w1)) a=some (.int x1):=by
  rw[bNb D.int a (by simp)];unfold pk;rw[if_pos rfl]
 have g2:aKf (d4 a b c e (dC x3) (dC y3) (dC z3) (dC w3)) b=some (dC y3):=by
  rw[bNb dC b (by simp)];unfold pk;rw[if_neg N.ab,if_pos rfl]
 have tm:=bRn X (n:=nt) (a:=x1) (c:=y3) (x:=c) hnt2 b1.1;have bm:=fun cell s9 s10=>bQt X (ns:=ns) N hsh hm hm2 (x3:=x3) (y3:=y3) (z3:=z3) (w3:=w3) b1 b2' cell s9 s10
 have eqk:=bQg (a:=a) (b:=b) (c:=c) (e:=e) (x:=x1) (y:=y1) (z:=z1) (w:=w1) N;generalize hM1:d4 a b c e (.int x1) (.int y1) (.int z1) (.int w1)=M1 at g1 bm eqk⊢;generalize hM2:d4 a b c e (.int x2) (.int y2) (.int z2) (.int w2)=M2 at bm⊢;generalize hM3:d4 a b c e (dC x3) (dC y3) (dC z3) (dC w3)=M3 at g2 bm⊢;have bUz:app aGl (aAe (app fAt (aAe (look 0) (aAe (con (.int 1)) aA3))) aA3) (RM ns a b c e m M1 M2 M3 (owk M1) none none none)=ok (.int (nt:Int)):=by
  rw[<-hnt];exact aBj (aAf (aVv 1) aAs)
 have ix0:b2 gIx (look 1) (con (.int 0)) (RM ns a b c e m M1 M2 M3 (owk M1) none none none)=ok (.str a):=rfl;have ix1:b2 gIx (look 1) (con (.int 1)) (RM ns a b c e m M1 M2 M3 (owk M1) none none none)=ok (.str b):=rfl;have ix2:b2 gIx (look 1) (con (.int 2)) (RM ns a b c e m M1 M2 M3 (owk M1) none none none)=ok (.str c):=rfl;have k1:=(aBj (F:=fTm t) (aAf bUz (aAf (aPb (f:=look 3) (l:=M1) rfl ix0 g1) (aAf (aPb (f:=look 5) (l:=M3) rfl ix1 g2) (aAf ix2 aAs))))).trans tm;rw[aAg (aJh k1)];obtain⟨cs',hcs⟩:=bQo (ns:=ns);have c1:bBb (look 0) (aKc (con (.int 4))) (aKc (con (.int 28))) (RM ns a b c e m M1 M2 M3 (owk M1) none none none)=ok (.lst (cs'.map D.int)):=by
  rw[<-hcs];rfl
 have ap1:ap (.lst (cs'.map D.int)) (RM ns a b c e m M1 M2 M3 (owk M1) none none none)=true:=by
  show (aIm (cs'.map D.int)&&_)=true;rw[aY6];rfl
 show aAn (aAi (bB2 (bBb (look 0) (aKc (con (.int 4))) (aKc (con (.int 28)))) (gN 8) (bIb t)) _ _)=_;obtain⟨ρ',lp,o8,o9,o10,rfl⟩:=aUs (G:=gN 8) (F:=bIb t) (fun _ ρ=> ∃(o8 o9 o10:Option SV),ρ=RM ns a b c e m M1 M2 M3 (owk M1) o8 o9 o10) (cs'.map D.int)
  (RM ns a b c e m M1 M2 M3 (owk M1) none none none) ⟨none,none,none,rfl⟩ (fun p d p' ρ e' hI=>by
   obtain⟨o8,o9,o10,rfl⟩:=hI;have hdm:d∈cs'.map D.int:=by rw[e'];exact List.mem_append_right _ List.mem_cons_self
   obtain⟨ce,_,rfl⟩:=List.mem_map.mp hdm;obtain⟨u,v,hb⟩:=bm ce o9 o10;exact⟨_,_,rfl,.inl hb,_,_,_,rfl⟩)
 rw[aAg ((bMi c1 ap1).trans lp)];obtain⟨mn,hmn⟩: ∃k:Nat,m+1=(k:Int):=⟨(m+1).toNat,by omega⟩;have ov:=aOc X hm hm2 (n:=mn) (a:=m-1) (by
  have:mn<=101:=by omega
  have q:(101:Nat)<2^200:=by decide
  omega)
 rw[Int.emod_eq_of_lt (by omega:0<=m-1) (by omega),<-hmn,show (m+1)*(m-1)=(m-1)+m*(m-1) by rw[Int.add_mul,Int.one_mul,Int.add_comm],Int.add_mul_emod_self_left,Int.emod_eq_of_lt (by omega:0<=m-1) (by omega)] at ov;have r1:b2 gEq (app (aHq t) (aAe (app (mkO t.aAq aKe) (aAe (look 2) aA3)) (aAe (b2 aBd (look 2) (con (.int 1))) (aAe (b2 aXh (look 2) (con (.int 1))) aA3)))) (b2 aXh (look 2) (con (.int 1))) (RM ns a b c e m M1 M2 M3 (owk M1) o8 o9 o10)=ok (.bl (decide (m-1=m-1))):=
  aRe ((aBj (aAf (aUo (t:=t) (f:=look 2) rfl hm) (aAf (aIj (f:=look 2) (g:=con (.int 1)) (i:=m) (j:=1) rfl rfl) (aAf (bBi (f:=look 2) (g:=con (.int 1)) (i:=m) (j:=1) rfl rfl) aAs)))).trans ov) (bBi (f:=look 2) (g:=con (.int 1)) (i:=m) (j:=1) rfl rfl)
 rw[decide_eq_true rfl] at r1;have r2:b2 bJj (look 7) (look 3) (RM ns a b c e m M1 M2 M3 (owk M1) o8 o9 o10)=ok (.bl true):=aGu (x:=mk M1) (y:=mk M1) rfl rfl eqk;rw[aBf (aBp (aXy r1 r2))];rfl
section
variable {P:Program}{w:World}{K:PySem.W.Frag}{mg:Str->Option Value}{base:Heap}{t:Adr}
theorem aWi (X:Txt K mg t): ∀k,Def P w K mg base k "_law_same" (aEe k)
 | 0=>by
  obtain⟨fd,Fu,bi⟩:=X.aAo;exact⟨_,_,_,X.aL3,Fu.kp,bi,aU9 0,bMk bAy⟩
 | k+1=>aW1 X (aWi X k) (aU9 _) (bGa aJn rfl)
theorem aWx (X:Txt K mg t)(n:Nat):Def P w K mg base (n+2) "times_over" (aHq t):=aSf X (k:=n+1) (bPn X n) (bPm X n) aBi aDn
theorem aX2 (X:Txt K mg t)(n:Nat):Def P w K mg base (n+4) "worth" (aEj t):=
 bG9 X (k:=n+3) (aQa X (k:=n+2) (aW0 X (k:=n+1) aBi aDn) aX5 bIg) (aWz X (k:=n+2) (bPn X (n+1)) aBi aDn) (aMz X (k:=n+2) (bPm X (n+1)) aBi aDn) (aWx X (n+1)) aX5 bIg
theorem aUk (X:Txt K mg t)(k:Nat):Def P w K mg base (k+1) "_law_number" aGl:=aSh X aXk (aW6 aG1 rfl)
theorem aPf (X:Txt K mg t)(k:Nat):Ctor P w K mg base (k+1) "Counts" t.aAm aDz:=aK3 X (by intro ds r h;unfold aDz at h;split at h;rfl;cases h) (bA1 t)
theorem aZf (X:Txt K mg t)(k:Nat):Ctor P w K mg base (k+1) "Costs" t.aAz aJ1:=aLw X (by intro ds r h;unfold aJ1 at h;split at h;rfl;cases h) (bEv t)
theorem bBe (X:Txt K mg t)(k:Nat):Ctor P w K mg base (k+1) "Truths" t.aAw aO7:=aK1 X (by intro ds r h;unfold aO7 at h;split at h;rfl;cases h) (aZy t)
theorem bPx (X:Txt K mg t){fd:FuncData}(Fu:Fun K "law" "law" aWj t.aS7 fd):FnD P w K mg base 10 t.aS7 fd ["_law_script"] (tt bKj):=
 bMj X Fu (k:=9) (k':=5) (by decide) (bC3 X (k:=8) bMn (bQz aNj rfl)) (aW3 X (k:=8) (aUk X 7) aBi aDn) (aUi X (k:=8) aBi aDn) (aLv X (k:=8) aBi aDn) (aW2 X (k:=8) bEi (bHi aJo rfl)) (aUk X 8)
  (aP9 X (k:=8) (k':=5) (by decide) (aX2 X 4) (aPf X 4) aBi aDn) (aWi X 9) (bAh X (k:=8) (bAi X (k:=7) aBi aDn) aBi aDn)
  (aUh X (k:=8) (k':=5) (by decide) (aWi X 8) (bLl X (k:=7) aBi aDn) (aWx X 6) (aZf X 4) (aPf X 4) (aM0 X (k:=4) bD4 (bF1 t)) (bBe X 4) aBi aDn) (aWx X 7) (aX2 X 5)
  (aZf X 4) (aPf X 4) (aK2 X (k:=4) (aW4 X (k:=3) aBi aDn) (by intro ds r h;unfold aKe at h;split at h;rfl;cases h) (aZ8 t))
  (by intro ds r h;obtain⟨ns,rfl,_⟩:=(bIk h).1;rfl) (bLz X)
end
end K11
namespace K11
open PySem PySem.W L2 L2.HD
def bRc:Params->Frag:=fun P=>
 (nat_lit 2,⟨.none,none,.dict #[] 0,#[]⟩)::
 (nat_lit 3,od 38 [de P "__name__" 165 (vs "law_whence_k11_worth" 606),
  de P "__doc__" 166 .none,
  de P "__package__" 167 .none,
  de P "__loader__" 168 (.builtin "__main__.__loader__#opaque"),
  de P "__spec__" 169 .none,
  de P "__annotations__" 170 (.ref 6),
  de P "__builtins__" 171 (.ref 4),
  de P "__file__" 173 (vs "/claim/cut.py" 172),
  de P "__cached__" 174 .none,
  de P "_wall" 193 (.ref 21),
  de P "WhenceError" 213 (.ref 31),
  de P "NoWay" 229 (.ref 44),
  de P "NoName" 245 (.ref 56),
  de P "is_whole" 255 (.ref 65),
  de P "plus_all" 261 (.ref 70),
  de P "Sums" 327 (.ref 108),
  de P "bare" 334 (.ref 119),
  de P "times_over" 346 (.ref 126),
  de P "worth" 352 (.ref 131),
  de P "check_names" 361 (.ref 138),
  de P "product_worth" 372 (.ref 145),
  de P "names_in" 381 (.ref 152),
  de P "Truths" 438 (.ref 190),
  de P "Counts" 493 (.ref 232),
  de P "Rounds" 550 (.ref 274),
  de P "Costs" 605 (.ref 316),
  de P "_law_at" 615 (.ref 327),
  de P "_law_same" 624 (.ref 334),
  de P "_law_number" 631 (.ref 341),
  de P "_law_mix" 638 (.ref 348),
  de P "_law_name" 647 (.ref 355),
  de P "_law_cost" 654 (.ref 362),
  de P "_law_sum" 671 (.ref 369),
  de P "_law_count" 683 (.ref 376),
  de P "_law_least_cost" 689 (.ref 381),
  de P "_law_refused" 699 (.ref 388),
  de P "_law_times" 710 (.ref 395),
  de P "law" 716 (.ref 400)])::
 (nat_lit 20,oc "_wall" 187 "_wall" 188 189 1 1 3 [(.ref 15),(.bool true),(vi 181),(.ref 16),.none,(.ref 17),(.ref 18),(.ref 19)] 191 1 192)::
 (nat_lit 21,of "_wall" "_wall" (top 0) "__main__" 164 20)::
 (nat_lit 30,od 3 [de P "__module__" 203 (vs "whence.errors" 194),
  de P "__firstlineno__" 207 (.int 5 206),
  de P "__static_attributes__" 208 (.ref 29),
  de P "__weakref__" 210 (.ref 32),
  de P "__doc__" 211 .none])::
 (nat_lit 31,⟨(.type "type"),none,.cls ⟨"WhenceError",[(.type "ValueError")],[(.ref 31),(.type "ValueError"),(.type "Exception"),(.type "BaseException"),(.type "object")],30,"WhenceError",true,[],[(.ref 44),(.ref 56)],false,none,false⟩,#[some (.ref 22),none,some (vs "WhenceError" 196),some (vs "WhenceError" 204),some (.builtin "ValueError.__new__"),some (.bool true)]⟩)::
 (nat_lit 32,ofd "getset_descriptor" [(vs "__weakref__" 209),(.ref 31),(.builtin "ExceptionGroup.__weakref__"),.none])::
 (nat_lit 43,od 2 [de P "__module__" 221 (vs "whence.errors" 194),
  de P "__firstlineno__" 225 (.int 7 224),
  de P "__static_attributes__" 226 (.ref 42),
  de P "__doc__" 227 .none])::
 (nat_lit 44,⟨(.type "type"),none,.cls ⟨"NoWay",[(.ref 31)],[(.ref 44),(.ref 31),(.type "ValueError"),(.type "Exception"),(.type "BaseException"),(.type "object")],43,"NoWay",true,[],[],false,none,false⟩,#[some (.ref 35),none,some (vs "NoWay" 214),some (vs "NoWay" 222),some (.builtin "ValueError.__new__"),some (.bool true)]⟩)::
 (nat_lit 55,od 2 [de P "__module__" 237 (vs "whence.errors" 194),
  de P "__firstlineno__" 241 (.int 9 240),
  de P "__static_attributes__" 242 (.ref 54),
  de P "__doc__" 243 .none])::
 (nat_lit 56,⟨(.type "type"),none,.cls ⟨"NoName",[(.ref 31)],[(.ref 56),(.ref 31),(.type "ValueError"),(.type "Exception"),(.type "BaseException"),(.type "object")],55,"NoName",true,[],[],false,none,false⟩,#[some (.ref 47),none,some (vs "NoName" 230),some (vs "NoName" 238),some (.builtin "ValueError.__new__"),some (.bool true)]⟩)::
 (nat_lit 64,oc "is_whole" 248 "is_whole" 249 250 12 2 3 [(.ref 59),(.bool true),(vi 181),(.ref 60),.none,(.ref 61),(.ref 62),(.ref 63)] 253 12 254)::
 (nat_lit 65,of "is_whole" "is_whole" (top 6) "whence.plain" 246 64)::
 (nat_lit 69,oc "plus_all" 256 "plus_all" 257 258 14 2 3 [(.ref 66),(.bool true),(vi 181),(.ref 67),.none,.none,.none,(.ref 68)] 259 14 260)::
 (nat_lit 70,of "plus_all" "plus_all" (top 7) "whence.plain" 246 69)::
 (nat_lit 83,oc "__init__" 276 "Sums.__init__" 277 278 27 1 3 [(.ref 78),(.bool true),(vi 181),(.ref 79),.none,(.ref 80),(.ref 81),(.ref 82)] 280 27 281)::
 (nat_lit 84,of "__init__" "Sums.__init__" (inClass (top 9) 0) "whence.sums" 262 83)::
 (nat_lit 90,oc "plus" 283 "Sums.plus" 284 285 31 3 3 [(.ref 85),(.bool true),(vi 181),(.ref 86),.none,(.ref 87),(.ref 88),(.ref 89)] 292 31 293)::
 (nat_lit 91,of "plus" "Sums.plus" (inClass (top 9) 1) "whence.sums" 262 90)::
 (nat_lit 97,oc "times" 295 "Sums.times" 296 297 37 3 3 [(.ref 92),(.bool true),(vi 181),(.ref 93),.none,(.ref 94),(.ref 95),(.ref 96)] 307 37 308)::
 (nat_lit 98,of "times" "Sums.times" (inClass (top 9) 2) "whence.sums" 262 97)::
 (nat_lit 104,oc "is_mark" 310 "Sums.is_mark" 311 312 45 2 3 [(.ref 99),(.bool true),(vi 181),(.ref 100),.none,(.ref 101),(.ref 102),(.ref 103)] 315 45 316)::
 (nat_lit 105,of "is_mark" "Sums.is_mark" (inClass (top 9) 3) "whence.sums" 262 104)::
 (nat_lit 107,od 4 [de P "__module__" 271 (vs "whence.sums" 262),
  de P "__firstlineno__" 275 (.int 25 274),
  de P "__init__" 282 (.ref 84),
  de P "plus" 294 (.ref 91),
  de P "times" 309 (.ref 98),
  de P "is_mark" 317 (.ref 105),
  de P "__static_attributes__" 320 (.ref 106),
  de P "__dict__" 322 (.ref 109),
  de P "__weakref__" 324 (.ref 110),
  de P "__doc__" 325 .none])::
 (nat_lit 108,⟨(.type "type"),none,.cls ⟨"Sums",[(.type "object")],[(.ref 108),(.type "object")],107,"Sums",true,[],[],false,none,false⟩,#[none,none,some (vs "Sums" 264),some (vs "Sums" 272),some (.builtin "object.__new__"),some (.bool true)]⟩)::
 (nat_lit 109,ofd "getset_descriptor" [(vs "__dict__" 321),(.ref 108),(.builtin "function.__dict__"),(.builtin "function.__dict__#set")])::
 (nat_lit 110,ofd "getset_descriptor" [(vs "__weakref__" 323),(.ref 108),(.builtin "ExceptionGroup.__weakref__"),.none])::
 (nat_lit 118,oc "bare" 328 "bare" 329 330 47 1 3 [(.ref 113),(.bool true),(vi 181),(.ref 114),.none,(.ref 115),(.ref 116),(.ref 117)] 332 47 333)::
 (nat_lit 119,of "bare" "bare" (top 10) "whence.sums" 262 118)::
 (nat_lit 125,oc "times_over" 335 "times_over" 336 337 49 3 3 [(.ref 120),(.bool true),(vi 181),(.ref 121),.none,(.ref 122),(.ref 123),(.ref 124)] 344 49 345)::
 (nat_lit 126,of "times_over" "times_over" (top 11) "whence.sums" 262 125)::
 (nat_lit 130,oc "worth" 347 "worth" 348 349 59 3 3 [(.ref 127),(.bool true),(vi 181),(.ref 128),.none,.none,.none,(.ref 129)] 350 59 351)::
 (nat_lit 131,of "worth" "worth" (top 12) "whence.sums" 262 130)::
 (nat_lit 137,oc "check_names" 353 "check_names" 354 355 62 2 3 [(.ref 132),(.bool true),(vi 181),(.ref 133),.none,(.ref 134),(.ref 135),(.ref 136)] 359 62 360)::
 (nat_lit 138,of "check_names" "check_names" (top 13) "whence.sums" 262 137)::
 (nat_lit 144,oc "product_worth" 362 "product_worth" 363 364 66 3 3 [(.ref 139),(.bool true),(vi 181),(.ref 140),.none,(.ref 141),(.ref 142),(.ref 143)] 370 66 371)::
 (nat_lit 145,of "product_worth" "product_worth" (top 14) "whence.sums" 262 144)::
 (nat_lit 151,oc "names_in" 373 "names_in" 374 375 71 1 3 [(.ref 146),(.bool true),(vi 181),(.ref 147),.none,(.ref 148),(.ref 149),(.ref 150)] 379 71 380)::
 (nat_lit 152,of "names_in" "names_in" (top 15) "whence.sums" 262 151)::
 (nat_lit 165,oc "__init__" 396 "Truths.__init__" 397 398 79 1 3 [(.ref 160),(.bool true),(vi 181),(.ref 161),.none,(.ref 162),(.ref 163),(.ref 164)] 400 79 401)::
 (nat_lit 166,of "__init__" "Truths.__init__" (inClass (top 17) 0) "whence.ways" 382 165)::
 (nat_lit 172,oc "plus" 403 "Truths.plus" 404 405 83 3 3 [(.ref 167),(.bool true),(vi 181),(.ref 168),.none,(.ref 169),(.ref 170),(.ref 171)] 409 83 410)::
 (nat_lit 173,of "plus" "Truths.plus" (inClass (top 17) 1) "whence.ways" 382 172)::
 (nat_lit 179,oc "times" 412 "Truths.times" 413 414 86 3 3 [(.ref 174),(.bool true),(vi 181),(.ref 175),.none,(.ref 176),(.ref 177),(.ref 178)] 418 86 419)::
 (nat_lit 180,of "times" "Truths.times" (inClass (top 17) 2) "whence.ways" 382 179)::
 (nat_lit 186,oc "is_mark" 421 "Truths.is_mark" 422 423 89 2 3 [(.ref 181),(.bool true),(vi 181),(.ref 182),.none,(.ref 183),(.ref 184),(.ref 185)] 426 89 427)::
 (nat_lit 187,of "is_mark" "Truths.is_mark" (inClass (top 17) 3) "whence.ways" 382 186)::
 (nat_lit 189,od 4 [de P "__module__" 391 (vs "whence.ways" 382),
  de P "__firstlineno__" 395 (.int 77 394),
  de P "__init__" 402 (.ref 166),
  de P "plus" 411 (.ref 173),
  de P "times" 420 (.ref 180),
  de P "is_mark" 428 (.ref 187),
  de P "__static_attributes__" 431 (.ref 188),
  de P "__dict__" 433 (.ref 191),
  de P "__weakref__" 435 (.ref 192),
  de P "__doc__" 436 .none])::
 (nat_lit 190,⟨(.type "type"),none,.cls ⟨"Truths",[(.type "object")],[(.ref 190),(.type "object")],189,"Truths",true,[],[],false,none,false⟩,#[none,none,some (vs "Truths" 384),some (vs "Truths" 392),some (.builtin "object.__new__"),some (.bool true)]⟩)::
 (nat_lit 191,ofd "getset_descriptor" [(vs "__dict__" 432),(.ref 190),(.builtin "function.__dict__"),(.builtin "function.__dict__#set")])::
 (nat_lit 192,ofd "getset_descriptor" [(vs "__weakref__" 434),(.ref 190),(.builtin "ExceptionGroup.__weakref__"),.none])::
 (nat_lit 207,oc "__init__" 451 "Counts.__init__" 452 453 93 1 3 [(.ref 202),(.bool true),(vi 181),(.ref 203),.none,(.ref 204),(.ref 205),(.ref 206)] 455 93 456)::
 (nat_lit 208,of "__init__" "Counts.__init__" (inClass (top 18) 0) "whence.ways" 382 207)::
 (nat_lit 214,oc "plus" 458 "Counts.plus" 459 460 97 3 3 [(.ref 209),(.bool true),(vi 181),(.ref 210),.none,(.ref 211),(.ref 212),(.ref 213)] 464 97 465)::
 (nat_lit 215,of "plus" "Counts.plus" (inClass (top 18) 1) "whence.ways" 382 214)::
 (nat_lit 221,oc "times" 467 "Counts.times" 468 469 100 3 3 [(.ref 216),(.bool true),(vi 181),(.ref 217),.none,(.ref 218),(.ref 219),(.ref 220)] 473 100 474)::
 (nat_lit 222,of "times" "Counts.times" (inClass (top 18) 2) "whence.ways" 382 221)::
 (nat_lit 228,oc "is_mark" 476 "Counts.is_mark" 477 478 103 2 3 [(.ref 223),(.bool true),(vi 181),(.ref 224),.none,(.ref 225),(.ref 226),(.ref 227)] 481 103 482)::
 (nat_lit 229,of "is_mark" "Counts.is_mark" (inClass (top 18) 3) "whence.ways" 382 228)::
 (nat_lit 231,od 4 [de P "__module__" 446 (vs "whence.ways" 382),
  de P "__firstlineno__" 450 (.int 91 449),
  de P "__init__" 457 (.ref 208),
  de P "plus" 466 (.ref 215),
  de P "times" 475 (.ref 222),
  de P "is_mark" 483 (.ref 229),
  de P "__static_attributes__" 486 (.ref 230),
  de P "__dict__" 488 (.ref 233),
  de P "__weakref__" 490 (.ref 234),
  de P "__doc__" 491 .none])::
 (nat_lit 232,⟨(.type "type"),none,.cls ⟨"Counts",[(.type "object")],[(.ref 232),(.type "object")],231,"Counts",true,[],[],false,none,false⟩,#[none,none,some (vs "Counts" 439),some (vs "Counts" 447),some (.builtin "object.__new__"),some (.bool true)]⟩)::
 (nat_lit 233,ofd "getset_descriptor" [(vs "__dict__" 487),(.ref 232),(.builtin "function.__dict__"),(.builtin "function.__dict__#set")])::
 (nat_lit 234,ofd "getset_descriptor" [(vs "__weakref__" 489),(.ref 232),(.builtin "ExceptionGroup.__weakref__"),.none])::
 (nat_lit 249,oc "__init__" 506 "Rounds.__init__" 507 508 107 2 3 [(.ref 244),(.bool true),(vi 181),(.ref 245),.none,(.ref 246),(.ref 247),(.ref 248)] 511 107 512)::
 (nat_lit 250,of "__init__" "Rounds.__init__" (inClass (top 19) 0) "whence.ways" 382 249)::
 (nat_lit 256,oc "plus" 514 "Rounds.plus" 515 516 114 3 3 [(.ref 251),(.bool true),(vi 181),(.ref 252),.none,(.ref 253),(.ref 254),(.ref 255)] 520 114 521)::
 (nat_lit 257,of "plus" "Rounds.plus" (inClass (top 19) 1) "whence.ways" 382 256)::
 (nat_lit 263,oc "times" 523 "Rounds.times" 524 525 117 3 3 [(.ref 258),(.bool true),(vi 181),(.ref 259),.none,(.ref 260),(.ref 261),(.ref 262)] 529 117 530)::
 (nat_lit 264,of "times" "Rounds.times" (inClass (top 19) 2) "whence.ways" 382 263)::
 (nat_lit 270,oc "is_mark" 532 "Rounds.is_mark" 533 534 120 2 3 [(.ref 265),(.bool true),(vi 181),(.ref 266),.none,(.ref 267),(.ref 268),(.ref 269)] 537 120 538)::
 (nat_lit 271,of "is_mark" "Rounds.is_mark" (inClass (top 19) 3) "whence.ways" 382 270)::
 (nat_lit 273,od 4 [de P "__module__" 501 (vs "whence.ways" 382),
  de P "__firstlineno__" 505 (.int 105 504),
  de P "__init__" 513 (.ref 250),
  de P "plus" 522 (.ref 257),
  de P "times" 531 (.ref 264),
  de P "is_mark" 539 (.ref 271),
  de P "__static_attributes__" 543 (.ref 272),
  de P "__dict__" 545 (.ref 275),
  de P "__weakref__" 547 (.ref 276),
  de P "__doc__" 548 .none])::
 (nat_lit 274,⟨(.type "type"),none,.cls ⟨"Rounds",[(.type "object")],[(.ref 274),(.type "object")],273,"Rounds",true,[],[],false,none,false⟩,#[none,none,some (vs "Rounds" 494),some (vs "Rounds" 502),some (.builtin "object.__new__"),some (.bool true)]⟩)::
 (nat_lit 275,ofd "getset_descriptor" [(vs "__dict__" 544),(.ref 274),(.builtin "function.__dict__"),(.builtin "function.__dict__#set")])::
 (nat_lit 276,ofd "getset_descriptor" [(vs "__weakref__" 546),(.ref 274),(.builtin "ExceptionGroup.__weakref__"),.none])::
 (nat_lit 291,oc "__init__" 563 "Costs.__init__" 564 565 124 1 3 [(.ref 286),(.bool true),(vi 181),(.ref 287),.none,(.ref 288),(.ref 289),(.ref 290)] 567 124 568)::
 (nat_lit 292,of "__init__" "Costs.__init__" (inClass (top 20) 0) "whence.ways" 382 291)::
 (nat_lit 298,oc "plus" 570 "Costs.plus" 571 572 128 3 3 [(.ref 293),(.bool true),(vi 181),(.ref 294),.none,(.ref 295),(.ref 296),(.ref 297)] 576 128 577)::
 (nat_lit 299,of "plus" "Costs.plus" (inClass (top 20) 1) "whence.ways" 382 298)::
 (nat_lit 305,oc "times" 579 "Costs.times" 580 581 135 3 3 [(.ref 300),(.bool true),(vi 181),(.ref 301),.none,(.ref 302),(.ref 303),(.ref 304)] 585 135 586)::
 (nat_lit 306,of "times" "Costs.times" (inClass (top 20) 2) "whence.ways" 382 305)::
 (nat_lit 312,oc "is_mark" 588 "Costs.is_mark" 589 590 140 2 3 [(.ref 307),(.bool true),(vi 181),(.ref 308),.none,(.ref 309),(.ref 310),(.ref 311)] 593 140 594)::
 (nat_lit 313,of "is_mark" "Costs.is_mark" (inClass (top 20) 3) "whence.ways" 382 312)::
 (nat_lit 315,od 4 [de P "__module__" 558 (vs "whence.ways" 382),
  de P "__firstlineno__" 562 (.int 122 561),
  de P "__init__" 569 (.ref 292),
  de P "plus" 578 (.ref 299),
  de P "times" 587 (.ref 306),
  de P "is_mark" 595 (.ref 313),
  de P "__static_attributes__" 598 (.ref 314),
  de P "__dict__" 600 (.ref 317),
  de P "__weakref__" 602 (.ref 318),
  de P "__doc__" 603 .none])::
 (nat_lit 316,⟨(.type "type"),none,.cls ⟨"Costs",[(.type "object")],[(.ref 316),(.type "object")],315,"Costs",true,[],[],false,none,false⟩,#[none,none,some (vs "Costs" 551),some (vs "Costs" 559),some (.builtin "object.__new__"),some (.bool true)]⟩)::
 (nat_lit 317,ofd "getset_descriptor" [(vs "__dict__" 599),(.ref 316),(.builtin "function.__dict__"),(.builtin "function.__dict__#set")])::
 (nat_lit 318,ofd "getset_descriptor" [(vs "__weakref__" 601),(.ref 316),(.builtin "ExceptionGroup.__weakref__"),.none])::
 (nat_lit 326,oc "_law_at" 608 "_law_at" 609 610 143 2 3 [(.ref 321),(.bool true),(vi 181),(.ref 322),.none,(.ref 323),(.ref 324),(.ref 325)] 613 143 614)::
 (nat_lit 327,of "_law_at" "_law_at" (top 22) "law_whence_k11_worth" 606 326)::
 (nat_lit 333,oc "_law_same" 616 "_law_same" 617 618 147 2 3 [(.ref 328),(.bool true),(vi 181),(.ref 329),.none,(.ref 330),(.ref 331),(.ref 332)] 622 147 623)::
 (nat_lit 334,of "_law_same" "_law_same" (top 23) "law_whence_k11_worth" 606 333)::
 (nat_lit 340,oc "_law_number" 625 "_law_number" 626 627 162 1 3 [(.ref 335),(.bool true),(vi 181),(.ref 336),.none,(.ref 337),(.ref 338),(.ref 339)] 629 162 630)::
 (nat_lit 341,of "_law_number" "_law_number" (top 24) "law_whence_k11_worth" 606 340)::
 (nat_lit 347,oc "_law_mix" 632 "_law_mix" 633 634 168 1 3 [(.ref 342),(.bool true),(vi 181),(.ref 343),.none,(.ref 344),(.ref 345),(.ref 346)] 636 168 637)::
 (nat_lit 348,of "_law_mix" "_law_mix" (top 25) "law_whence_k11_worth" 606 347)::
 (nat_lit 354,oc "_law_name" 639 "_law_name" 640 641 170 2 3 [(.ref 349),(.bool true),(vi 181),(.ref 350),.none,(.ref 351),(.ref 352),(.ref 353)] 645 170 646)::
 (nat_lit 355,of "_law_name" "_law_name" (top 26) "law_whence_k11_worth" 606 354)::
 (nat_lit 361,oc "_law_cost" 648 "_law_cost" 649 650 175 1 3 [(.ref 356),(.bool true),(vi 181),(.ref 357),.none,(.ref 358),(.ref 359),(.ref 360)] 652 175 653)::
 (nat_lit 362,of "_law_cost" "_law_cost" (top 27) "law_whence_k11_worth" 606 361)::
 (nat_lit 368,oc "_law_sum" 655 "_law_sum" 656 657 179 2 3 [(.ref 363),(.bool true),(vi 181),(.ref 364),.none,(.ref 365),(.ref 366),(.ref 367)] 669 179 670)::
 (nat_lit 369,of "_law_sum" "_law_sum" (top 28) "law_whence_k11_worth" 606 368)::
 (nat_lit 375,oc "_law_count" 672 "_law_count" 673 674 198 2 3 [(.ref 370),(.bool true),(vi 181),(.ref 371),.none,(.ref 372),(.ref 373),(.ref 374)] 681 198 682)::
 (nat_lit 376,of "_law_count" "_law_count" (top 29) "law_whence_k11_worth" 606 375)::
 (nat_lit 380,oc "_law_least_cost" 684 "_law_least_cost" 685 686 205 2 3 [(.ref 377),(.bool true),(vi 181),(.ref 378),.none,.none,.none,(.ref 379)] 687 205 688)::
 (nat_lit 381,of "_law_least_cost" "_law_least_cost" (top 30) "law_whence_k11_worth" 606 380)::
 (nat_lit 387,oc "_law_refused" 690 "_law_refused" 691 692 212 2 3 [(.ref 382),(.bool true),(vi 181),(.ref 383),.none,(.ref 384),(.ref 385),(.ref 386)] 697 212 698)::
 (nat_lit 388,of "_law_refused" "_law_refused" (top 31) "law_whence_k11_worth" 606 387)::
 (nat_lit 394,oc "_law_times" 700 "_law_times" 701 702 219 4 3 [(.ref 389),(.bool true),(vi 181),(.ref 390),.none,(.ref 391),(.ref 392),(.ref 393)] 708 219 709)::
 (nat_lit 395,of "_law_times" "_law_times" (top 32) "law_whence_k11_worth" 606 394)::
 (nat_lit 399,oc "law" 711 "law" 712 713 226 1 3 [(.ref 396),(.bool true),(vi 181),(.ref 397),.none,.none,.none,(.ref 398)] 714 226 715)::
 (nat_lit 400,of "law" "law" (top 33) "law_whence_k11_worth" 606 399)::[]
def fas:List Addr:=[2,3,20,21,30,31,32,43,44,55,56,64,65,69,70,83,84,90,91,97,98,104,105,107,108,109,110,118,119,125,126,130,131,137,138,144,145,151,152,165,166,172,173,179,180,186,187,189,190,191,192,207,208,214,215,221,222,228,229,231,232,233,234,249,250,256,257,263,264,270,271,273,274,275,276,291,292,298,299,305,306,312,313,315,316,317,318,326,327,333,334,340,341,347,348,354,355,361,362,368,369,375,376,380,381,387,388,394,395,399,400]
theorem bQe: ∀P,fas=(bRc P).map (·.1):=fun P=>by kernel_rfl
def vw:Program:=view PySem.Challenge.pw_whence_k11_worth [0,2,3,4,6,7,9,10,11,12,13,14,15,17,18,19,20,22,23,24,25,26,27,28,29,30,31,32,33]
abbrev hook:Hook:=kHook bRc fas bQe
set_option maxHeartbeats 0 in
theorem left:LeftO PySem.Challenge.pw_whence_k11_worth vw [] (fun s=>xlAt vw [] s&&recOk (RowW.records PySem.Challenge.rw_whence_k11_worth.row.toRowW) s) (Hook.obs hook) (Hook.val hook) 5938:=by
 refine bLy (boot_open (by kernel_rfl) (by decide+kernel) (fun s=>by kernel_rfl)) fun w=> ?_
 rw[Fast.te5923862056798008813,Fast.te4187177175401517315,Fast.te6613529449190102663,Fast.te10156331382660048174,Fast.te11892475500146522536,Fast.te14364793385576792824]
 kernel_rfl
def adr:Adr:={aBr:=108,aAw:=190,aAm:=232,aAq:=274,aAz:=316,aBe:=31,aD0:=44,aAu:=56,aHp:=65,aHk:=70,aDr:=84,aGk:=91,aFk:=98,aU8:=119,aFi:=126,aPa:=131,aEw:=138,aDq:=145,aHl:=152,aCo:=166,aEx:=173,aD5:=180,aCq:=208,aEz:=215,aD7:=222,aCp:=250,aEy:=257,aD6:=264,aDa:=292,aFl:=299,aE0:=306,aLd:=327,aHm:=334,aFj:=341,aI7:=348,aHn:=355,aHo:=362,aI6:=369,aGj:=376,aC9:=381,aEv:=388,aGi:=395,aS7:=400}
set_option maxHeartbeats 0 in
theorem txt {P:Params}{h:Heap}{mg:Str->Option Value}(X:(bRc P).In h)(G:h.Ns mainGlobals mg):Txt (bRc P) mg adr where
 bJh:=mg_of X G (by kernel_rfl)
 aXt:=⟨by kernel_rfl,by kernel_rfl,by kernel_rfl,by kernel_rfl⟩
 bDa:=⟨by kernel_rfl,by kernel_rfl,by kernel_rfl,by kernel_rfl⟩
 aMj:=⟨by kernel_rfl,by kernel_rfl,by kernel_rfl⟩
 aK7:=⟨by kernel_rfl,by kernel_rfl,by kernel_rfl⟩
 aY8:=mg_of X G (by kernel_rfl)
 aPh:=⟨by kernel_rfl,by kernel_rfl,by kernel_rfl,by kernel_rfl⟩
 aUp:=⟨by kernel_rfl,by kernel_rfl,by kernel_rfl,by kernel_rfl⟩
 aJx:=⟨by kernel_rfl,by kernel_rfl,by kernel_rfl⟩
 aI0:=⟨by kernel_rfl,by kernel_rfl,by kernel_rfl⟩
 aZa:=mg_of X G (by kernel_rfl)
 aPj:=⟨by kernel_rfl,by kernel_rfl,by kernel_rfl,by kernel_rfl⟩
 aUr:=⟨by kernel_rfl,by kernel_rfl,by kernel_rfl,by kernel_rfl⟩
 aJz:=⟨by kernel_rfl,by kernel_rfl,by kernel_rfl⟩
 aI2:=⟨by kernel_rfl,by kernel_rfl,by kernel_rfl⟩
 aY9:=mg_of X G (by kernel_rfl)
 aPi:=⟨by kernel_rfl,by kernel_rfl,by kernel_rfl,by kernel_rfl⟩
 aUq:=⟨by kernel_rfl,by kernel_rfl,by kernel_rfl,by kernel_rfl⟩
 aJy:=⟨by kernel_rfl,by kernel_rfl,by kernel_rfl⟩
 aI1:=⟨by kernel_rfl,by kernel_rfl,by kernel_rfl⟩
 bEd:=mg_of X G (by kernel_rfl)
 aTf:=⟨by kernel_rfl,by kernel_rfl,by kernel_rfl,by kernel_rfl⟩
 aYq:=⟨by kernel_rfl,by kernel_rfl,by kernel_rfl,by kernel_rfl⟩
 aK8:=⟨by kernel_rfl,by kernel_rfl,by kernel_rfl⟩
 aJ0:=⟨by kernel_rfl,by kernel_rfl,by kernel_rfl⟩
 aLb:=mg_of X G (by kernel_rfl)
 aPx:=by kernel_rfl
 bEc:=mg_of X G (by kernel_rfl)
 aX1:=by kernel_rfl
 aS2:=mg_of X G (by kernel_rfl)
 aTp:=by kernel_rfl
 aFw:=by kernel_rfl
 aFb:=by kernel_rfl
 aF8:=by kernel_rfl
 aFv:=by kernel_rfl
 aIf:=by kernel_rfl
 aNl:=by kernel_rfl
 aIo:=by kernel_rfl
 aPw:=by kernel_rfl
 aIn:=by kernel_rfl
 aJp:=by kernel_rfl
 aGt:=by kernel_rfl
 aJs:=by decide
 aIz:=by decide
 aOk:=by decide
 aSq:=fun C hC=>by
  simp only[cs,Bool.or_eq_true,decide_eq_true_eq] at hC;rcases hC with (((rfl | rfl) | rfl) | rfl) | rfl
  all_goals exact⟨⟨by kernel_rfl,by kernel_rfl,by kernel_rfl,by kernel_rfl⟩,by unfold aGm;kernel_rfl⟩
 aFh:=fun C hC=>by
  simp only[cs,Bool.or_eq_true,decide_eq_true_eq] at hC;rcases hC with (((rfl | rfl) | rfl) | rfl) | rfl
  all_goals exact⟨⟨by kernel_rfl,by kernel_rfl,by kernel_rfl,by kernel_rfl⟩,by unfold aGm;kernel_rfl⟩
 aMi:=fun C hC=>by
  simp only[cs,Bool.or_eq_true,decide_eq_true_eq] at hC;rcases hC with (((rfl | rfl) | rfl) | rfl) | rfl
  all_goals exact⟨⟨by kernel_rfl,by kernel_rfl,by kernel_rfl,by kernel_rfl⟩,by unfold aGm;kernel_rfl⟩
 aDj:=fo (m:="whence.plain") (mt:=246) (c:=64) ["thing","least"] (by kernel_rfl) (by kernel_rfl) (by kernel_rfl) fun _ _ _ _ _ _ us hl=>by obtain⟨_,_,rfl⟩:=PU.ar2 us hl;rfl
 aRc:=mg_of X G (by kernel_rfl)
 aDf:=fo (m:="whence.plain") (mt:=246) (c:=69) ["way","marks"] (by kernel_rfl) (by kernel_rfl) (by kernel_rfl) fun _ _ _ _ _ _ us hl=>by obtain⟨_,_,rfl⟩:=PU.ar2 us hl;rfl
 aQ8:=mg_of X G (by kernel_rfl)
 aJd:=fo (m:="whence.sums") (mt:=262) (c:=83) ["self"] (by kernel_rfl) (by kernel_rfl) (by kernel_rfl) fun _ _ _ _ _ _ us hl=>by obtain⟨_,rfl⟩:=PU.ar1 us hl;rfl
 aPs:=fo (m:="whence.sums") (mt:=262) (c:=90) ["self","a","b"] (by kernel_rfl) (by kernel_rfl) (by kernel_rfl) fun _ _ _ _ _ _ us hl=>by obtain⟨_,_,_,rfl⟩:=PU.ar3 us hl;rfl
 aMr:=fo (m:="whence.sums") (mt:=262) (c:=97) ["self","a","b"] (by kernel_rfl) (by kernel_rfl) (by kernel_rfl) fun _ _ _ _ _ _ us hl=>by obtain⟨_,_,_,rfl⟩:=PU.ar3 us hl;rfl
 aJ4:=fo (m:="whence.sums") (mt:=262) (c:=118) ["name"] (by kernel_rfl) (by kernel_rfl) (by kernel_rfl) fun _ _ _ _ _ _ us hl=>by obtain⟨_,rfl⟩:=PU.ar1 us hl;rfl
 bJg:=mg_of X G (by kernel_rfl)
 aAl:=fo (m:="whence.sums") (mt:=262) (c:=125) ["way","many","mark"] (by kernel_rfl) (by kernel_rfl) (by kernel_rfl) fun _ _ _ _ _ _ us hl=>by obtain⟨_,_,_,rfl⟩:=PU.ar3 us hl;rfl
 aMk:=mg_of X G (by kernel_rfl)
 aCg:=fo (m:="whence.sums") (mt:=262) (c:=130) ["some","way","marks"] (by kernel_rfl) (by kernel_rfl) (by kernel_rfl) fun _ _ _ _ _ _ us hl=>by obtain⟨_,_,_,rfl⟩:=PU.ar3 us hl;rfl
 bEb:=mg_of X G (by kernel_rfl)
 aBo:=fo (m:="whence.sums") (mt:=262) (c:=137) ["some","marks"] (by kernel_rfl) (by kernel_rfl) (by kernel_rfl) fun _ _ _ _ _ _ us hl=>by obtain⟨_,_,rfl⟩:=PU.ar2 us hl;rfl
 aLa:=mg_of X G (by kernel_rfl)
 aBb:=fo (m:="whence.sums") (mt:=262) (c:=144) ["product","way","marks"] (by kernel_rfl) (by kernel_rfl) (by kernel_rfl) fun _ _ _ _ _ _ us hl=>by obtain⟨_,_,_,rfl⟩:=PU.ar3 us hl;rfl
 aI3:=mg_of X G (by kernel_rfl)
 aDg:=fo (m:="whence.sums") (mt:=262) (c:=151) ["some"] (by kernel_rfl) (by kernel_rfl) (by kernel_rfl) fun _ _ _ _ _ _ us hl=>by obtain⟨_,rfl⟩:=PU.ar1 us hl;rfl
 aQ9:=mg_of X G (by kernel_rfl)
 aHw:=fo (m:="whence.ways") (mt:=382) (c:=165) ["self"] (by kernel_rfl) (by kernel_rfl) (by kernel_rfl) fun _ _ _ _ _ _ us hl=>by obtain⟨_,rfl⟩:=PU.ar1 us hl;rfl
 aLg:=fo (m:="whence.ways") (mt:=382) (c:=172) ["self","a","b"] (by kernel_rfl) (by kernel_rfl) (by kernel_rfl) fun _ _ _ _ _ _ us hl=>by obtain⟨_,_,_,rfl⟩:=PU.ar3 us hl;rfl
 aJ5:=fo (m:="whence.ways") (mt:=382) (c:=179) ["self","a","b"] (by kernel_rfl) (by kernel_rfl) (by kernel_rfl) fun _ _ _ _ _ _ us hl=>by obtain⟨_,_,_,rfl⟩:=PU.ar3 us hl;rfl
 aHy:=fo (m:="whence.ways") (mt:=382) (c:=207) ["self"] (by kernel_rfl) (by kernel_rfl) (by kernel_rfl) fun _ _ _ _ _ _ us hl=>by obtain⟨_,rfl⟩:=PU.ar1 us hl;rfl
 aLi:=fo (m:="whence.ways") (mt:=382) (c:=214) ["self","a","b"] (by kernel_rfl) (by kernel_rfl) (by kernel_rfl) fun _ _ _ _ _ _ us hl=>by obtain⟨_,_,_,rfl⟩:=PU.ar3 us hl;rfl
 aJ7:=fo (m:="whence.ways") (mt:=382) (c:=221) ["self","a","b"] (by kernel_rfl) (by kernel_rfl) (by kernel_rfl) fun _ _ _ _ _ _ us hl=>by obtain⟨_,_,_,rfl⟩:=PU.ar3 us hl;rfl
 aHx:=fo (m:="whence.ways") (mt:=382) (c:=249) ["self","many"] (by kernel_rfl) (by kernel_rfl) (by kernel_rfl) fun _ _ _ _ _ _ us hl=>by obtain⟨_,_,rfl⟩:=PU.ar2 us hl;rfl
 aLh:=fo (m:="whence.ways") (mt:=382) (c:=256) ["self","a","b"] (by kernel_rfl) (by kernel_rfl) (by kernel_rfl) fun _ _ _ _ _ _ us hl=>by obtain⟨_,_,_,rfl⟩:=PU.ar3 us hl;rfl
 aJ6:=fo (m:="whence.ways") (mt:=382) (c:=263) ["self","a","b"] (by kernel_rfl) (by kernel_rfl) (by kernel_rfl) fun _ _ _ _ _ _ us hl=>by obtain⟨_,_,_,rfl⟩:=PU.ar3 us hl;rfl
 aIk:=fo (m:="whence.ways") (mt:=382) (c:=291) ["self"] (by kernel_rfl) (by kernel_rfl) (by kernel_rfl) fun _ _ _ _ _ _ us hl=>by obtain⟨_,rfl⟩:=PU.ar1 us hl;rfl
 aMs:=fo (m:="whence.ways") (mt:=382) (c:=298) ["self","a","b"] (by kernel_rfl) (by kernel_rfl) (by kernel_rfl) fun _ _ _ _ _ _ us hl=>by obtain⟨_,_,_,rfl⟩:=PU.ar3 us hl;rfl
 aLj:=fo (m:="whence.ways") (mt:=382) (c:=305) ["self","a","b"] (by kernel_rfl) (by kernel_rfl) (by kernel_rfl) fun _ _ _ _ _ _ us hl=>by obtain⟨_,_,_,rfl⟩:=PU.ar3 us hl;rfl
 aC6:=fo (m:="law_whence_k11_worth") (mt:=606) (c:=326) ["_law_script","_law_k"] (by kernel_rfl) (by kernel_rfl) (by kernel_rfl) fun _ _ _ _ _ _ us hl=>by obtain⟨_,_,rfl⟩:=PU.ar2 us hl;rfl
 aY7:=mg_of X G (by kernel_rfl)
 aAo:=fo (m:="law_whence_k11_worth") (mt:=606) (c:=333) ["_law_found","_law_due"] (by kernel_rfl) (by kernel_rfl) (by kernel_rfl) fun _ _ _ _ _ _ us hl=>by obtain⟨_,_,rfl⟩:=PU.ar2 us hl;rfl
 aL3:=mg_of X G (by kernel_rfl)
 aAv:=fo (m:="law_whence_k11_worth") (mt:=606) (c:=340) ["_law_cell"] (by kernel_rfl) (by kernel_rfl) (by kernel_rfl) fun _ _ _ _ _ _ us hl=>by obtain⟨_,rfl⟩:=PU.ar1 us hl;rfl
 aMl:=mg_of X G (by kernel_rfl)
 aD9:=fo (m:="law_whence_k11_worth") (mt:=606) (c:=347) ["_law_cell"] (by kernel_rfl) (by kernel_rfl) (by kernel_rfl) fun _ _ _ _ _ _ us hl=>by obtain⟨_,rfl⟩:=PU.ar1 us hl;rfl
 aU3:=mg_of X G (by kernel_rfl)
 aDh:=fo (m:="law_whence_k11_worth") (mt:=606) (c:=354) ["_law_style","_law_k"] (by kernel_rfl) (by kernel_rfl) (by kernel_rfl) fun _ _ _ _ _ _ us hl=>by obtain⟨_,_,rfl⟩:=PU.ar2 us hl;rfl
 aRa:=mg_of X G (by kernel_rfl)
 aDi:=fo (m:="law_whence_k11_worth") (mt:=606) (c:=361) ["_law_cell"] (by kernel_rfl) (by kernel_rfl) (by kernel_rfl) fun _ _ _ _ _ _ us hl=>by obtain⟨_,rfl⟩:=PU.ar1 us hl;rfl
 aRb:=mg_of X G (by kernel_rfl)
 aD8:=fo (m:="law_whence_k11_worth") (mt:=606) (c:=368) ["_law_names","_law_cell"] (by kernel_rfl) (by kernel_rfl) (by kernel_rfl) fun _ _ _ _ _ _ us hl=>by obtain⟨_,_,rfl⟩:=PU.ar2 us hl;rfl
 aU2:=mg_of X G (by kernel_rfl)
 aBv:=fo (m:="law_whence_k11_worth") (mt:=606) (c:=375) ["_law_some","_law_marks"] (by kernel_rfl) (by kernel_rfl) (by kernel_rfl) fun _ _ _ _ _ _ us hl=>by obtain⟨_,_,rfl⟩:=PU.ar2 us hl;rfl
 aO9:=mg_of X G (by kernel_rfl)
 aA8:=fo (m:="law_whence_k11_worth") (mt:=606) (c:=380) ["_law_some","_law_costs"] (by kernel_rfl) (by kernel_rfl) (by kernel_rfl) fun _ _ _ _ _ _ us hl=>by obtain⟨_,_,rfl⟩:=PU.ar2 us hl;rfl
 aIi:=mg_of X G (by kernel_rfl)
 aBn:=fo (m:="law_whence_k11_worth") (mt:=606) (c:=387) ["_law_some","_law_marks"] (by kernel_rfl) (by kernel_rfl) (by kernel_rfl) fun _ _ _ _ _ _ us hl=>by obtain⟨_,_,rfl⟩:=PU.ar2 us hl;rfl
 aK9:=mg_of X G (by kernel_rfl)
 aCh:=fo (m:="law_whence_k11_worth") (mt:=606) (c:=394) ["_law_many","_law_count_here","_law_cost_here","_law_name_here"] (by kernel_rfl) (by kernel_rfl) (by kernel_rfl) fun _ _ _ _ _ _ us hl=>by obtain⟨_,_,_,_,rfl⟩:=PU.ar4 us hl;rfl
 aO8:=mg_of X G (by kernel_rfl)
 bQ5:=fo (m:="law_whence_k11_worth") (mt:=606) (c:=399) ["_law_script"] (by kernel_rfl) (by kernel_rfl) (by kernel_rfl) fun _ _ _ _ _ _ us hl=>by obtain⟨_,rfl⟩:=PU.ar1 us hl;rfl
 bQb:=mg_of X G (by kernel_rfl)
 aMq:=mg_none_of X G (by kernel_rfl)
 bQy:=mg_none_of X G (by kernel_rfl)
 aZl:=mg_none_of X G (by kernel_rfl)
 bFe:=mg_none_of X G (by kernel_rfl)
 bIc:=mg_none_of X G (by kernel_rfl)
 aA7:=mg_none_of X G (by kernel_rfl)
 aM7:=mg_none_of X G (by kernel_rfl)
 aVu:=mg_none_of X G (by kernel_rfl)
 bQx:=mg_none_of X G (by kernel_rfl)
 aKi:=mg_none_of X G (by kernel_rfl)
 bQw:=mg_none_of X G (by kernel_rfl)
 aH9:=mg_none_of X G (by kernel_rfl)
 bM0:=mg_none_of X G (by kernel_rfl)
 bMz:=mg_none_of X G (by kernel_rfl)
 aH8:=mg_none_of X G (by kernel_rfl)
 aG6:=by decide
 aG8:=by decide
 aG7:=by decide
 aH3:=by decide
 aQf:=by decide
 aM3:=by decide
 aM2:=by decide
 aOl:=by decide
 aQh:=by decide
 aFt:=by decide
 aM4:=by decide
 aOn:=by decide
 aQg:=by decide
 aFr:=by decide
 aFs:=by decide
 aOm:=by decide
 aSr:=by decide
 aGe:=by decide
 aGg:=by decide
 aGf:=by decide
end K11
namespace K11
open PySem PySem.Spec PyProof.Rows L2 L2.PU
def bRw (K:PySem.W.Frag):Sp:=fun vs H Q _=> ∃(a:Addr) (ns:List Int),vs=[.ref a]/\SqL K H a (ns.map V.int)/\ns.length<=63/\∀H',Q (.bl true) H'
theorem walk {l:PySem.W.OpenLaw}{q:Program}{loose:List Str}{XP:(Str->Option Value)->Heap->Prop}{YP:World->Heap->Prop}{d:DefRec}{K:Params->PySem.W.Frag}(hn:l.most=some 63)(hdf:d.params.defaults=[])(hnm:d.name="law")
  (hY: ∀(w:World) (h:Heap),YP w h->(K w.params).In h)
  (T: ∀(w:World) (mg:Str->Option Value) (h:Heap),(K w.params).In h->h.Ns mainGlobals mg->∃t,Txt (K w.params) mg t):
  PySem.W.WalkO q loose XP YP l.row.toRowW d [] (fun f vs=>PySem.call f vs):=by
 refine L2.bJ2 (n:=63) (k:=10) (x:="_law_script") (CX:=fun w=>CXD l.prog w) (sp:=fun w=>bRw (K w.params)) hn (by decide) hdf ⟨rfl,by decide,by decide⟩ hY (fun w mg fa h KX G hmg=> ?_) (fun _ _ a ns hl _ hS=>⟨a,ns,rfl,hS,hl,fun _=>rfl⟩) (fun w H s e s' ⟨_,_,_,_,_,_,_,_,z⟩=>z);obtain⟨t,T⟩:=T w mg h KX G;have e:=hmg.symm.trans ((congrArg mg hnm).trans T.bQb);cases e;obtain⟨fd,Fu,bi⟩:=T.bQ5;refine⟨fd,fun s v=> ?_,fun base _ _=> ?_⟩
 ·obtain⟨oc,od,kV,doc,pm,an,cdv,ct,osl,rfl,lk,hcd⟩:=Fu.ex
  exact .of_eq rfl
 ·refine (bPx (P:=l.prog) (w:=w) (base:=base) T Fu).imp fun vs H Q E ⟨a,ns,e1,hS,hl,q⟩=> ?_
  subst e1;refine⟨[.lst (ns.map D.int)],.cons (.lst hS (aYz ns)) .nil,rfl,?_⟩;rw[bRk (show bKj _ from⟨ns,rfl,hl⟩)];intro v H' s' i';cases i';exact q H'
end K11
open PySem PySem.W PyProof.Rows
set_option maxRecDepth 100000 in
set_option maxHeartbeats 0 in
theorem PySem.Challenge.cw_whence_k11_worth_holds : PySem.Challenge.rw_whence_k11_worth.Holds := by
 w_on;o_law
 refine L2.HD.holds_of (l:=PySem.Challenge.rw_whence_k11_worth) (q:=K11.vw) K11.left (by first | assumption | decide+kernel) (by rfl) (by rfl) (by rfl) (by rfl) (by decide+kernel) ⟨rfl,rfl,rfl,rfl,rfl,by decide+kernel⟩ ?hw ?hc
 (case hw=>w_witness2)
 exact K11.walk (l:=PySem.Challenge.rw_whence_k11_worth) rfl rfl rfl (fun w h Y=>PySem.W.kIn_of Y) fun w mg h KX G=>⟨_,K11.txt KX G⟩
