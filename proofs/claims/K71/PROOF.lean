import PyProof.Rows.All
import Wide.All
import OpenK.AllK
import Wide.FinOn
import Lean
import PyProof.EqAt
import PyProof.EqKinds
import PyProof.TupleCall
import PySem.Challenge.RW_whence_k71_shows
set_option Elab.async false
set_option linter.all false
set_option bootstrap.genMatcherCode false
set_option maxRecDepth 100000
namespace L2
open PySem PySem.Spec PyProof.Rows
noncomputable abbrev Key:=Sum Int Str
noncomputable def keyIs:Key→Value→Bool
 | .inl k,v=>Value.isInt k v
 | .inr x,v=>Value.isStrOf x v
noncomputable def keyH (w:World):Key→Int
 | .inl k=>hashInt k
 | .inr x=>hashStr w x
theorem aCm: ∀{k:Key} {v:Value},keyIs k v=true→(∃i t,k=Sum.inl i∧v=Value.int i t)∨(∃x t,k=Sum.inr x∧v=Value.str x t)
 | .inl i,v,h=>by
  obtain⟨t,e⟩:=Value.isInt_shape (k:=i) (v:=v) h
  exact .inl ⟨i,t,rfl,e⟩
 | .inr x,v,h=>by
  obtain⟨t,e⟩:=Value.isStrOf_shape (x:=x) (v:=v) h
  exact .inr ⟨x,t,rfl,e⟩
theorem key_ll (a b:Int):decide ((Sum.inl a:Key)=Sum.inl b)=(a==b):=by
 by_cases e:a=b
 ·subst e;simp
 ·have h:¬(Sum.inl a:Key)=Sum.inl b:=fun q=>e (Sum.inl.inj q)
  rw[decide_eq_false h]
  exact (beq_eq_false_iff_ne.mpr e).symm
theorem key_rr (a b:Str):decide ((Sum.inr a:Key)=Sum.inr b)=decide (a=b):=by
 by_cases e:a=b
 ·subst e;simp
 ·have h:¬(Sum.inr a:Key)=Sum.inr b:=fun q=>e (Sum.inr.inj q)
  rw[decide_eq_false h,decide_eq_false e]
theorem key_lr (a:Int) (b:Str):decide ((Sum.inl a:Key)=Sum.inr b)=false:=decide_eq_false (fun q=>nomatch q)
theorem key_rl (a:Str) (b:Int):decide ((Sum.inr a:Key)=Sum.inl b)=false:=decide_eq_false (fun q=>nomatch q)
noncomputable def mixKind (prog:Program) (w:World):PySem.KeyKind prog w Key where
 is:=keyIs
 hash:=keyH w
 inj:=fun v a b ha hb=>by
  rcases aCm ha with⟨i,t,rfl,rfl⟩ |⟨x,t,rfl,rfl⟩
  ·rcases aCm hb with⟨j,u,rfl,e⟩ |⟨y,u,rfl,e⟩
   ·injection e with e1 _;rw[e1]
   ·exact nomatch e
  ·rcases aCm hb with⟨j,u,rfl,e⟩ |⟨y,u,rfl,e⟩
   ·exact nomatch e
   ·injection e with e1 _;rw[e1]
 byValue:=fun k v h=>by
  rcases aCm h with⟨i,t,rfl,rfl⟩ |⟨x,t,rfl,rfl⟩<;>rfl
 pyHash:=fun hv h=>by
  rcases aCm hv with⟨i,t,rfl,rfl⟩ |⟨x,t,rfl,rfl⟩
  ·exact wpAny_pyHash_int h
  ·exact wpAny_pyHash_str h
 eqBool:=fun hu hv h=>by
  rcases aCm hu with⟨i,t,rfl,rfl⟩ |⟨x,t,rfl,rfl⟩
  ·rcases aCm hv with⟨j,u,rfl,rfl⟩ |⟨y,u,rfl,rfl⟩
   ·rw[key_ll] at h;exact wpAny_eqBool_int h
   ·rw[key_lr] at h;exact SeqAt.EqAt.int_str i t y u _ _ _ _ h
  ·rcases aCm hv with⟨j,u,rfl,rfl⟩ |⟨y,u,rfl,rfl⟩
   ·rw[key_rl] at h;exact SeqAt.EqAt.str_int x t j u _ _ _ _ h
   ·rw[key_rr] at h;exact wpAny_eqBool_str h
 «strs»:=fun k x t v h=>by
  rcases aCm h with⟨i,u,rfl,e⟩ |⟨y,u,rfl,e⟩
  ·exact nomatch e
  ·injection e with e1 _
   subst e1
   cases v<;>rfl
inductive V where
 | non | bl (b:Bool) | int (i:Int) | str (x:Str) | byt (b:Array UInt8) | flt (b:UInt64) | ref (a:Addr) | ty (n:String)
 deriving DecidableEq
noncomputable def RelV:V→Value→Prop
 | .non,u=>u=Value.none
 | .bl b,u=>u=Value.bool b
 | .int i,u=> ∃t,u=Value.int i t
 | .str x,u=> ∃t,u=Value.str x t
 | .byt b,u=> ∃t,u=Value.bytes b t
 | .flt b,u=> ∃t,u=Value.float b t
 | .ref a,u=>u=Value.ref a
 | .ty n,u=>u=Value.type n
noncomputable abbrev Vals:List V→List Value→Prop:=Paired RelV
theorem Vals.length {xs:List V} {us:List Value} (r:Vals xs us):xs.length=us.length:=Paired.length r
theorem Vals.get: ∀{xs:List V} {us:List Value} {i:Nat} {x:V},Vals xs us→xs[i]? =some x→∃u,us[i]? =some u∧RelV x u
 | _,_,_,_,.nil,e=>by simp at e
 | _,_,0,_,.cons r _,e=>by simp at e;subst e;exact⟨_,rfl,r⟩
 | _,_,i+1,x,.cons _ t,e=>by
  obtain⟨u,h1,h2⟩:=Vals.get (i:=i) (x:=x) t (by simpa using e)
  exact⟨u,by simpa using h1,h2⟩
theorem Vals.append: ∀{xs ys:List V} {us ws:List Value},Vals xs us→Vals ys ws→Vals (xs++ys) (us++ws)
 | _,_,_,_,.nil,s=>s
 | _,_,_,_,.cons r t,s=> .cons r (Vals.append t s)
theorem Vals.take: ∀{xs:List V} {us:List Value} (n:Nat),Vals xs us→Vals (xs.take n) (us.take n)
 | _,_,0,_=> .nil
 | _,_,_+1,.nil=> .nil
 | _,_,n+1,.cons r t=> .cons r (Vals.take n t)
theorem Vals.drop: ∀{xs:List V} {us:List Value} (n:Nat),Vals xs us→Vals (xs.drop n) (us.drop n)
 | _,_,0,r=>r
 | _,_,_+1,.nil=> .nil
 | _,_,n+1,.cons _ t=>Vals.drop n t
noncomputable def RelO:Option V→Option Value→Prop
 | some v,some u=>RelV v u
 | none,none=>True
 | _,_=>False
noncomputable def KV {κ:Type}:List (κ×V)→List (κ×Value)→Prop:=Paired fun (p:κ×V) (q:κ×Value)=>p.1=q.1∧RelV p.2 q.2
noncomputable def kV:Key→V
 | .inl i=> .int i
 | .inr x=> .str x
inductive HO where
 | lst (xs:List V)
 | tup (xs:List V)
 | dK (kvs:List (Key×V)) | dT (kvs:List (List Key×V))
 | set (S:Str→Bool) (n:Nat)
 | ins (C dx:Addr) (fs:List (Str×V))
 | own (x:Addr)
 | xd (fs:List (Str×V))
 | met (f x:Addr)
 | rng (lo hi:Int)
 | frz (o:Obj) (u:HO)
 | tbl (ps:Array Value)
 | ext (φ:Heap→Prop)
noncomputable abbrev Hp:=Addr→Option HO
noncomputable def upd (H:Hp) (a:Addr) (o:HO):Hp:=fun b=>if b=a then some o else H b
theorem aA6 {H:Hp} {a:Addr} {o:HO}:upd H a o a=some o:=by unfold upd;rw[if_pos rfl]
theorem aB5 {H:Hp} {a b:Addr} {o:HO} (h:b≠a):upd H a o b=H b:=by unfold upd;rw[if_neg h]
theorem aEd {H:Hp} {a b:Addr} {o:HO} (h:H a=some o) (h':H b=none):a≠b:=by
 intro e;subst e;rw[h] at h';cases h'
noncomputable def TxtO (w:World) (o:Obj):Prop:= ∃es ep t,o.data= .set es ep t∧(w.params.followText "set-order"=true∨t.led=true)∧(es.size=0∨t.plain=false)
noncomputable def Txts (w:World) (h:Heap) (a:Addr):Prop:= ∃o,h.get? a=some o∧TxtO w o
noncomputable def TupD (h:Heap) (a:Addr) (its:Array Value):Prop:= ∃o,h.get? a=some o∧o.cls= .type "tuple"∧(∃n,o.data= .seq its n)∧o.dict=none
theorem TupD.tup {h:Heap} {a:Addr} {its:Array Value} (x:TupD h a its):IsTup h a its:=let ⟨o,e,c,d,_⟩:=x;⟨o,e,c,d⟩
theorem TupD.lt {h:Heap} {a:Addr} {its:Array Value} (x:TupD h a its):a<h.objs.size:=let ⟨_,e,_⟩:=x;Heap.lt_size e
theorem TupD.new (h:Heap) (its:Array Value):TupD (h.push {cls:= .type "tuple",data:= .seq its}) h.objs.size its:=⟨_,Heap.get?_push_size _ rfl,rfl,⟨_,rfl⟩,rfl⟩
section
variable (P:Program) (w:World)
noncomputable def aDs (H:Hp) (h:Heap) (a:Addr):HO→Prop
 | .lst xs=>xs.length≤sizeLine∧∃(its:List Value) (n:Nat),Vals xs its∧h.get? a=some {cls:= .type "list",data:= .seq its.toArray n}
 | .tup xs=>xs.length≤sizeLine∧∃its:List Value,Vals xs its∧TupD h a its.toArray
 | .dK kvs=>kvs.length≤sizeLine∧(a==sysModules)=false∧∃vs,KV kvs vs∧h.DictOf (mixKind P w) a vs
 | .dT kvs=>kvs.length≤sizeLine∧(a==sysModules)=false∧∃xs:List (List Key×Addr×Value),
   Paired (fun (p:List Key×V) (q:List Key×Addr×Value)=>p.1=q.1∧H q.2.1=some (.tup (p.1.map kV))∧RelV p.2 q.2.2) kvs xs∧
   ∃o es ep,h.get? a=some o∧o.ExactDict∧o.data= .dict es ep∧es.toList=xs.map (entryOfKey (tupleKind (mixKind P w)))∧(xs.map (·.1)).Nodup
 | .set S n=>h.SetOf (PySem.strKind P w) a S n∧Txts w h a
 | .ins C dx fs=>H dx=some (.own a)∧fs.length≤1000∧dx≠a∧h.get? a=some (PySem.W.instObj C dx)∧
   ∃mA,h.Ns1 dx mA∧(∀f,RelO (fs.lookup f) (mA f))∧PySem.Within mA (fs.map (·.1))
 | .own _=> ∃o,h.get? a=some o
 | .xd fs=> ∃mA,h.Ns1 a mA∧∀f,RelO (fs.lookup f) (mA f)
 | .rng lo hi=> ∃t u v,h.get? a=some {cls:= .type "range",data:= .fields #[.int lo t,.int hi u,.int 1 v]}
 | .frz o u=>h.get? a=some o∧aDs H h a u
 | .tbl ps=>h.get? a=some {cls:= .none,data:= .fields ps}
 | .met f x=>h.get? a=some (PySem.W.methodObj (.ref f) (.ref x))
 | .ext φ=>φ h∧(∃o,h.get? a=some o)∧∀h1 h2:Heap,φ h1→(∀o,h1.get? a=some o→h2.get? a=some o)→φ h2
noncomputable def HOk (H:Hp) (h:Heap):Prop:= ∀a o,H a=some o→aDs P w H h a o
end
section
variable {P:Program} {w:World} {H H':Hp} {h h':Heap} {a:Addr} {o:HO}
theorem aDs.lt (x:aDs P w H h a o):a<h.objs.size:=by
 cases o with
 | lst xs=>obtain⟨_,_,_,_,e⟩:=x;exact Heap.lt_size e
 | tup xs=>obtain⟨_,_,_,p⟩:=x;exact p.lt
 | dK kvs=>obtain⟨_,_,_,_,o,_,_,e,_⟩:=x;exact Heap.lt_size e
 | dT kvs=>obtain⟨_,_,_,_,o,_,_,e,_⟩:=x;exact Heap.lt_size e
 | set S n=>obtain⟨⟨o,_,_,_,e,_⟩,_⟩:=x;exact Heap.lt_size e
 | ins C dx fs=>obtain⟨_,_,_,e,_⟩:=x;exact Heap.lt_size e
 | own y=>obtain⟨_,e⟩:=x;exact Heap.lt_size e
 | xd fs=>obtain⟨_,⟨_,_,_,e,_⟩,_⟩:=x;exact Heap.lt_size e
 | rng lo hi=>obtain⟨_,_,_,e⟩:=x;exact Heap.lt_size e
 | frz ob u=>obtain⟨e,_⟩:=x;exact Heap.lt_size e
 | tbl ps=>exact Heap.lt_size (show h.get? a=some _ from x)
 | met f y=>exact Heap.lt_size (show h.get? a=some _ from x)
 | ext φ=>obtain⟨_,⟨_,e⟩,_⟩:=x;exact Heap.lt_size e
theorem Paired.mapP {α β:Type} {F G:α→β→Prop}: ∀{l₁:List α} {l₂:List β},Paired F l₁ l₂→(∀a b,F a b→G a b)→Paired G l₁ l₂
 | _,_,.nil,_=> .nil
 | _,_,.cons r t,f=> .cons (f _ _ r) (Paired.mapP t f)
theorem aDs.stay (x:aDs P w H h a o) (k: ∀b u,(b=a∨H b=some (.own a))→h.get? b=some u→h'.get? b=some u)
  (ho: ∀b,H b=some (.own a)→H' b=some (.own a)) (ht: ∀b xs,H b=some (.tup xs)→H' b=some (.tup xs)):aDs P w H' h' a o:=by
 induction o with
 | lst xs=>obtain⟨z,its,n,r,e⟩:=x;exact⟨z,its,n,r,k _ _ (.inl rfl) e⟩
 | tup xs=>obtain⟨z,its,r,ob,e,c⟩:=x;exact⟨z,its,r,ob,k _ _ (.inl rfl) e,c⟩
 | dK kvs=>obtain⟨z,y,vs,r,ob,es,ep,e,c⟩:=x;exact⟨z,y,vs,r,ob,es,ep,k _ _ (.inl rfl) e,c⟩
 | dT kvs=>
  obtain⟨z,y,xs,r,ob,es,ep,e,c⟩:=x
  exact⟨z,y,xs,Paired.mapP r fun p q z=>⟨z.1,ht _ _ z.2.1,z.2.2⟩,ob,es,ep,k _ _ (.inl rfl) e,c⟩
 | set S n=>obtain⟨⟨ob,es,ep,t,e,c⟩,o',e',c'⟩:=x;exact⟨⟨ob,es,ep,t,k _ _ (.inl rfl) e,c⟩,o',k _ _ (.inl rfl) e',c'⟩
 | ins C dx fs=>
  obtain⟨d,z,ne,e,mA,⟨od,es,ep,e2,c⟩,r⟩:=x
  exact⟨ho _ d,z,ne,k _ _ (.inl rfl) e,mA,⟨od,es,ep,k _ _ (.inr d) e2,c⟩,r⟩
 | own y=>obtain⟨ob,e⟩:=x;exact⟨ob,k _ _ (.inl rfl) e⟩
 | xd fs=>obtain⟨mA,⟨od,es,ep,e,c⟩,r⟩:=x;exact⟨mA,⟨od,es,ep,k _ _ (.inl rfl) e,c⟩,r⟩
 | rng lo hi=>obtain⟨t,u,v,e⟩:=x;exact⟨t,u,v,k _ _ (.inl rfl) e⟩
 | frz ob u ih=>obtain⟨e,q⟩:=x;exact⟨k _ _ (.inl rfl) e,ih q⟩
 | tbl ps=>
  have e:h.get? a=some {cls:= .none,data:= .fields ps}:=x
  show h'.get? a=some {cls:= .none,data:= .fields ps}
  exact k a _ (.inl rfl) e
 | met f y=>
  have e:h.get? a=some (PySem.W.methodObj (.ref f) (.ref y)):=x
  show h'.get? a=some (PySem.W.methodObj (.ref f) (.ref y))
  exact k a _ (.inl rfl) e
 | ext φ=>obtain⟨p,⟨o,e⟩,st⟩:=x;exact⟨st _ _ p fun o q=>k _ _ (.inl rfl) q,⟨o,k _ _ (.inl rfl) e⟩,st⟩
theorem HOk.lt (x:HOk P w H h) (e:H a=some o):a<h.objs.size:=(x a o e).lt
theorem HOk.fresh (x:HOk P w H h) (e:h.objs.size≤a):H a=none:=by
 cases q:H a with
 | none=>rfl
 | some u=>exact absurd (Nat.lt_of_lt_of_le (x.lt q) e) (Nat.lt_irrefl _)
theorem HOk.kept (x:HOk P w H h) (k: ∀b u,h.get? b=some u→h'.get? b=some u):HOk P w H h':=fun a o e=>
 (x a o e).stay (fun b u _ q=>k b u q) (fun _ q=>q) fun _ _ q=>q
theorem HOk.laid (x:HOk P w H h) (k: ∀b u,h.get? b=some u→h'.get? b=some u) (hp:h.objs.size≤a) (new:aDs P w (upd H a o) h' a o):HOk P w (upd H a o) h':=fun b u e=>by
 have hn:=x.fresh hp
 by_cases hb:b=a
 ·subst hb;rw[aA6] at e;cases e;exact new
 ·rw[aB5 hb] at e
  exact (x b u e).stay (fun c v _ q=>k c v q) (fun c q=>by rw[aB5 (aEd q hn)];exact q) fun c xs q=>by rw[aB5 (aEd q hn)];exact q
end
noncomputable def Rd (H:Hp) (a:Addr) (u:HO):Prop:=H a=some u∨∃o,H a=some (.frz o u)
theorem Rd.ok {P:Program} {w:World} {H:Hp} {h:Heap} {a:Addr} {u:HO} (r:Rd H a u) (x:HOk P w H h):aDs P w H h a u:=by
 rcases r with r |⟨o,r⟩
 ·exact x a u r
 ·obtain⟨_,q⟩:=x a _ r
  exact q
noncomputable def Mut:Option HO→Prop
 | some (.lst _)=>True
 | some (.dK _)=>True
 | some (.dT _)=>True
 | some (.set _ _)=>True
 | some (.ins _ _ _)=>True
 | some (.ext _)=>True
 | _=>False
section
variable {P:Program} {w:World} {H:Hp} {h h':Heap} {x e:Addr} {o':HO}
theorem HOk.write (ok:HOk P w H h) (mu:Mut (H x)) (he:e=x∨H e=some (.own x)) (k: ∀b u,b≠e→h.get? b=some u→h'.get? b=some u) (heo: ∃u,h'.get? e=some u)
  (new:aDs P w (upd H x o') h' x o'):HOk P w (upd H x o') h':=fun b u q=>by
 have nown: ∀c y,H c=some (.own y)→c≠x:=fun c y r z=>by subst z;rw[r] at mu;exact mu
 have ntup: ∀c xs,H c=some (.tup xs)→c≠x:=fun c xs r z=>by subst z;rw[r] at mu;exact mu
 by_cases hb:b=x
 ·subst hb;rw[aA6] at q;cases q;exact new
 ·rw[aB5 hb] at q
  by_cases hbe:b=e
  ·have q':H b=some (.own x):=by
    rcases he with z | z
    ·exact absurd (hbe.trans z) hb
    ·rw[hbe];exact z
   rw[q] at q';cases q'
   obtain⟨v,hv⟩:=heo
   exact⟨v,by rw[hbe];exact hv⟩
  ·refine (ok b u q).stay (fun c v hc r=>k c v ?_ r) (fun c r=>by rw[aB5 (nown c b r)];exact r) fun c xs r=>by rw[aB5 (ntup c xs r)];exact r
   rcases hc with rfl | hc
   ·exact hbe
   ·rintro rfl
    rcases he with z | z
    ·exact nown c b hc z
    ·rw[hc] at z;cases z;exact hb rfl
end
structure Un (fs ex:List Addr) (H H':Hp) (h h':Heap):Prop where
 keep: ∀b o,h.get? b=some o→H b=none→b∉fs→b∉ex→h'.get? b=some o
 slot: ∀b o,h.get? b=some o→H b=none→b∈fs→b∉ex→∃sl,h'.get? b=some {o with slots:=sl}
 free: ∀b o,h.get? b=some o→H b=none→b∉ex→H' b=none
 there: ∀b o,h.get? b=some o→b∉ex→∃o',h'.get? b=some o'
 tups: ∀b xs,H b=some (.tup xs)→H' b=some (.tup xs)
 frzs: ∀b o u,H b=some (.frz o u)→H' b=some (.frz o u)
 tbls: ∀b ps,H b=some (.tbl ps)→∃more,H' b=some (.tbl (ps++more))
section
variable {fs fs' ex ex':List Addr} {H H1 H2:Hp} {h h1 h2 h':Heap} {a x e:Addr} {o:HO}
theorem Un.any (u:Un fs ex H H1 h h1) {b:Addr} {ob:Obj} (q:h.get? b=some ob) (n:H b=none) (hx:b∉ex): ∃sl,h1.get? b=some {ob with slots:=sl}:=by
 by_cases hb:b∈fs
 ·exact u.slot b ob q n hb hx
 ·exact⟨ob.slots,u.keep b ob q n hb hx⟩
theorem Un.trans (a:Un fs ex H H1 h h1) (b:Un fs ex H1 H2 h1 h2):Un fs ex H H2 h h2 where
 keep:=fun c ob q n hc hx=>b.keep c ob (a.keep c ob q n hc hx) (a.free c ob q n hx) hc hx
 slot:=fun c ob q n hc hx=>by
  obtain⟨sl,e1⟩:=a.slot c ob q n hc hx
  obtain⟨sl',e2⟩:=b.slot c _ e1 (a.free c ob q n hx) hc hx
  exact⟨sl',e2⟩
 free:=fun c ob q n hx=>by
  obtain⟨o',e1⟩:=a.there c ob q hx
  exact b.free c o' e1 (a.free c ob q n hx) hx
 there:=fun c ob q hx=>by
  obtain⟨o',e1⟩:=a.there c ob q hx
  exact b.there c o' e1 hx
 tups:=fun c xs q=>b.tups c xs (a.tups c xs q)
 frzs:=fun c ob xs q=>b.frzs c ob xs (a.frzs c ob xs q)
 tbls:=fun c ps q=>by
  obtain⟨m1,e1⟩:=a.tbls c ps q
  obtain⟨m2,e2⟩:=b.tbls c _ e1
  exact⟨m1++m2,by rw[e2,Array.append_assoc]⟩
theorem Un.kept (k: ∀b u,h.get? b=some u→h'.get? b=some u):Un fs ex H H h h':=
 ⟨fun b ob q _ _ _=>k b ob q,fun b ob q _ _ _=>⟨ob.slots,k b ob q⟩,fun _ _ _ n _=>n,fun b ob q _=>⟨ob,k b ob q⟩,fun _ _ q=>q,fun _ _ _ q=>q,fun _ ps q=>⟨#[],by rw[q];simp⟩⟩
theorem Un.refl:Un fs ex H H h h:=Un.kept fun _ _ q=>q
theorem Un.laid (k: ∀b u,h.get? b=some u→h'.get? b=some u) (hp:h.objs.size≤a) (hn:H a=none):Un fs ex H (upd H a o) h h' where
 keep:=fun b u q _ _ _=>k b u q
 slot:=fun b u q _ _ _=>⟨u.slots,k b u q⟩
 free:=fun b u q n _=>by rw[aB5 (Nat.ne_of_lt (Nat.lt_of_lt_of_le (Heap.lt_size q) hp))];exact n
 there:=fun b u q _=>⟨u,k b u q⟩
 tups:=fun b xs q=>by rw[aB5 (aEd q hn)];exact q
 frzs:=fun b u xs q=>by rw[aB5 (aEd q hn)];exact q
 tbls:=fun b ps q=>⟨#[],by rw[aB5 (aEd q hn),q];simp⟩
theorem Un.write (mu:Mut (H x)) (he:e=x∨H e=some (.own x)) (k: ∀b u,b≠e→h.get? b=some u→h'.get? b=some u) (heo: ∃u,h'.get? e=some u):Un fs ex H (upd H x o) h h':=by
 have hx: ∀b,H b=none→b≠x:=fun b n z=>by subst z;rw[n] at mu;exact mu
 have hb: ∀b,H b=none→b≠e:=fun b n z=>by
  subst z
  rcases he with r | r
  ·exact hx b n r
  ·rw[n] at r;cases r
 have hm: ∀b u,H b=some u→¬Mut (some u)→b≠x:=fun b u q nm z=>by subst z;rw[q] at mu;exact nm mu
 refine⟨fun b u q n _ _=>k b u (hb b n) q,fun b u q n _ _=>⟨u.slots,k b u (hb b n) q⟩,fun b u q n _=>by rw[aB5 (hx b n)];exact n,fun b u q _=> ?_,
  fun b xs q=>by rw[aB5 (hm b _ q fun z=>z)];exact q,fun b u xs q=>by rw[aB5 (hm b _ q fun z=>z)];exact q,fun b ps q=>⟨#[],by rw[aB5 (hm b _ q fun z=>z),q];simp⟩⟩
 by_cases hbe:b=e
 ·subst hbe;exact heo
 ·exact⟨u,k b u hbe q⟩
theorem Un.mono (u:Un fs ex H H1 h h1) (hs: ∀b∈fs,b∈fs') (hx: ∀b∈ex,b∈ex'):Un fs' ex' H H1 h h1:=
 ⟨fun b ob q n hb he=>u.keep b ob q n (fun z=>hb (hs b z)) fun z=>he (hx b z),fun _ _ q n _ he=>u.any q n fun z=>he (hx _ z),fun b ob q n he=>u.free b ob q n fun z=>he (hx b z),fun b ob q he=>u.there b ob q fun z=>he (hx b z),u.tups,u.frzs,u.tbls⟩
end
noncomputable def trk (h:Heap) (H:Hp):List Addr:=(List.range h.objs.size).filter fun a=>(H a).isSome
noncomputable def hidT (h:Heap) (H:Hp):Heap:=PySem.W.hideAll h (trk h H)
theorem hidT_size (h:Heap) (H:Hp):(hidT h H).objs.size=h.objs.size:=PySem.W.hideAll_size _ _
theorem hidT_get {h:Heap} {H:Hp} {b:Addr} {o:Obj} (e:h.get? b=some o) (n:H b=none):(hidT h H).get? b=some o:=
 PySem.W.hideAll_get _ e fun hm=>by
  have q:(H b).isSome=true:=(List.mem_filter.mp hm).2
  rw[n] at q;simp at q
theorem of_hidT {h:Heap} {H:Hp} {b:Addr} {o:Obj} (e:(hidT h H).get? b=some o):h.get? b=some o∧H b=none:=by
 have e':h.get? b=some o:=PySem.W.of_hideAll (trk h H) e
 refine⟨e',?_⟩
 cases q:H b with
 | none=>rfl
 | some x=>
  have hm:b∈trk h H:=List.mem_filter.mpr ⟨List.mem_range.mpr (Heap.lt_size e'),by simp[q]⟩
  have z:(hidT h H).get? b=none:=PySem.W.hideAll_none (trk h H) hm
  rw[z] at e;cases e
noncomputable def allNews (g h:Heap) (L:Addr):List (Addr×Obj):=(List.range h.objs.size).filterMap fun a=>if a=L∨(g.get? a).isSome=true then none else (h.get? a).map fun o=>(a,o)
noncomputable def rest (g h:Heap) (L d:Addr):List (Addr×Obj):=(allNews g h L).filter fun p=>decide (p.1≠d)
structure Mod (K:PySem.W.Frag) (mg:Str→Option Value) (base:Heap):Prop where
 kin:K.In base
 glob:base.Ns mainGlobals mg
 blt: ∃mb,base.Ns builtinsNs mb∧∀x:Str,x≠"__name__"→mb x=bootBuiltins x
 nolimit:base.NoLimit
structure Cx where
 prog:Program
 w:World
 K:PySem.W.Frag
 mg:Str→Option Value
 base:Heap
 A:Around
 N:List Str
 s₀:Shared
 H₀:Hp
 env:Env
 outer:List Env
 stack:List Env
 ex:List Addr
 fn:Str→Bool
 calm:Bool
 pn:List (Addr×Obj)
 xe:Value→Shared→Prop
noncomputable def frs (l:List Env):List Addr:=l.filterMap (·.frame)
noncomputable abbrev Cx.fs (X:Cx):List Addr:=frs X.outer
noncomputable def Vis (sc:Scope) (x:Str):Prop:=sc.names.lookup x=some .local∨sc.names.lookup x=some .cell∨sc.names.lookup x=some .free
noncomputable def Loc (sc:Scope) (x:Str):Prop:=sc.names.lookup x=some .local∨sc.names.lookup x=some .cell
noncomputable def Look (env:Env) (h:Heap) (m:Str→Option Value) (x:Str) (u:Value):Prop:=
 (env.kindOf x=some .local∧m x=some u)∨((env.kindOf x=some .cell∨env.kindOf x=some .free)∧∃c,env.cells.lookup x=some c∧h.IsCell c (some u))
structure Cx.Ok (X:Cx):Prop where
 mod:Mod X.K X.mg X.base
 kind:X.env.scope.kind= .function
 glob:X.env.globals=mainGlobals
 blt:X.env.builtins=builtinsNs
 above:X.s₀.heap.objs.size≤X.env.locals
 inj: ∀x y c,X.env.cells.lookup x=some c→X.env.cells.lookup y=some c→x=y
 has: ∀x,(X.env.kindOf x=some .cell∨X.env.kindOf x=some .free)→∃c,X.env.cells.lookup x=some c
 cab: ∀x c,X.fn x=true→X.env.cells.lookup x=some c→X.s₀.heap.objs.size≤c
 hd:X.calm=true→X.A.handled=none
 frames:X.A.frames=some X.stack
 stk:X.stack=X.outer∨(X.stack=X.env::X.outer∧X.env.frame=some X.env.locals)
 exf: ∀b∈X.ex,b≠X.env.locals∧∀x c,X.env.cells.lookup x=some c→c≠b
 bs: ∀b o,X.base.get? b=some o→X.s₀.heap.get? b=some o∧X.H₀ b=none
 bsz:X.base.objs.size≤X.s₀.heap.objs.size
 noex: ∀b o,X.base.get? b=some o→b∉X.ex
 exfs: ∀b∈X.ex,b∉X.fs
 funs:X.s₀.heap.FunFrames X.base X.outer
 frf: ∀b∈X.fs,X.H₀ b=none
structure Inv (X:Cx) (pins:List (Addr×Obj)) (σ:List (Option V)) (H:Hp) (s:Shared):Prop where
 ok:X.Ok
 os:s.os=X.s₀.os
 bare:AllBare s.gens
 base:Un X.fs X.ex X.H₀ H X.s₀.heap s.heap
 loc: ∃m,s.heap.Ns X.env.locals m∧∀(i:Nat) (x:Str) (v:V),X.N[i]? =some x→σ[i]? =some (some v)→Vis X.env.scope x→∃u,RelV v u∧Look X.env s.heap m x u
 cell: ∀x c,X.env.cells.lookup x=some c→∃v,s.heap.IsCell c v
 free:H X.env.locals=none
 freeC: ∀x c,X.env.cells.lookup x=some c→H c=none
 pin: ∀p∈X.pn++pins,s.heap.get? p.1=some p.2∧H p.1=none∧p.1≠X.env.locals∧p.1∉X.fs∧∀v,p.2.data≠ .cell v
 hok:HOk X.prog X.w H s.heap
 len:σ.length=X.N.length
section
variable {X:Cx} {pins:List (Addr×Obj)} {σ:List (Option V)} {H H':Hp} {s:Shared} {h':Heap}
theorem Cx.Ok.nofr (ok:X.Ok) {b:Addr} {o:Obj} (e:X.base.get? b=some o):b∉X.fs:=fun hb=>by
 have:=(ok.funs.mem hb).1
 rw[e] at this;cases this
theorem Inv.bs (I:Inv X pins σ H s): ∀b o,X.base.get? b=some o→s.heap.get? b=some o∧H b=none:=fun b o e=>
 ⟨I.base.keep b o (I.ok.bs b o e).1 (I.ok.bs b o e).2 (I.ok.nofr e) (I.ok.noex b o e),I.base.free b o (I.ok.bs b o e).1 (I.ok.bs b o e).2 (I.ok.noex b o e)⟩
theorem Inv.bk (I:Inv X pins σ H s): ∀b o,X.base.get? b=some o→s.heap.get? b=some o:=fun b o e=>(I.bs b o e).1
theorem Inv.mod (I:Inv X pins σ H s):Mod X.K X.mg X.base:=I.ok.mod
theorem Inv.kIn (I:Inv X pins σ H s):X.K.In s.heap:=I.ok.mod.kin.keeps I.bk
theorem Inv.lt (I:Inv X pins σ H s):X.env.locals<s.heap.objs.size:=let ⟨_,hn,_⟩:=I.loc;hn.lt
theorem Inv.sz (I:Inv X pins σ H s):X.s₀.heap.objs.size≤s.heap.objs.size:=Nat.le_trans I.ok.above (Nat.le_of_lt I.lt)
theorem Inv.nofs (I:Inv X pins σ H s) {a:Addr} (h:s.heap.objs.size≤a):a∉X.fs:=fun hb=>by
 obtain⟨_,o,ho,_⟩:=I.ok.funs.mem hb
 exact absurd (Nat.lt_of_lt_of_le (Heap.lt_size ho) (Nat.le_trans I.sz h)) (Nat.lt_irrefl _)
theorem Inv.cne (I:Inv X pins σ H s): ∀x c,X.env.cells.lookup x=some c→c≠X.env.locals:=fun x c e z=>by
 obtain⟨v,o,ho,hd⟩:=I.cell x c e
 obtain⟨m,⟨o',es,ep,ho',hd',_⟩,_⟩:=I.loc
 rw[z,ho'] at ho;cases ho;rw[hd'] at hd;cases hd
theorem Inv.funs (I:Inv X pins σ H s):s.heap.FunFrames X.base X.outer:=by
 have all: ∀(l:List Env),(∀b∈frs l,b∈X.fs)→X.s₀.heap.FunFrames X.base l→s.heap.FunFrames X.base l:=by
  intro l
  induction l with
  | nil=>intro _ _;trivial
  | cons env r ih=>
   intro hs hl
   obtain⟨hk,⟨L,o,hf,hn,ho,hd⟩,hr⟩:=hl
   have hL:L∈X.fs:=hs L (by unfold frs;rw[List.filterMap_cons,hf];exact List.mem_cons_self)
   obtain⟨sl,e⟩:=I.base.slot L o ho (I.ok.frf L hL) hL fun z=>I.ok.exfs L z hL
   exact⟨hk,⟨L,_,hf,hn,e,hd⟩,ih (fun b hb=>hs b (by unfold frs;rw[List.filterMap_cons,hf];exact List.mem_cons_of_mem _ hb)) hr⟩
 exact all X.outer (fun _ hb=>hb) I.ok.funs
theorem Inv.stack (I:Inv X pins σ H s):s.heap.FunFrames X.base X.stack:=by
 rcases I.ok.stk with e |⟨e,hf⟩
 ·rw[e];exact I.funs
 ·rw[e]
  obtain⟨m,hn,_⟩:=I.loc
  refine .cons (by rw[I.ok.kind];decide) hf hn ?_ I.funs
  exact Heap.get?_none_of_le (Nat.le_trans I.ok.bsz I.ok.above)
theorem Inv.stkSub (I:Inv X pins σ H s): ∀b∈frs X.stack,b∈X.env.locals::X.fs:=fun b hb=>by
 rcases I.ok.stk with e |⟨e,hf⟩
 ·rw[e] at hb;exact List.mem_cons_of_mem _ hb
 ·rw[e] at hb
  unfold frs at hb
  rw[List.filterMap_cons,hf] at hb
  exact hb
theorem Inv.stkFree (I:Inv X pins σ H s): ∀b∈frs X.stack,H b=none:=fun b hb=>by
 rcases List.mem_cons.mp (I.stkSub b hb) with e | hb
 ·rw[e];exact I.free
 ·obtain⟨_,o,ho,_⟩:=I.ok.funs.mem hb
  exact I.base.free b o ho (I.ok.frf b hb) fun z=>I.ok.exfs b z hb
theorem Inv.step {g':Array GenState} {t':Nat} {d':Drawn} {ch:List Addr} (I:Inv X pins σ H s)
  (hch: ∀b∈ch,(b∈X.ex∨X.s₀.heap.objs.size≤b)∧b≠X.env.locals∧(∀x c,X.env.cells.lookup x=some c→c≠b)∧∀p∈X.pn++pins,p.1≠b)
  (keep: ∀b o,b≠X.env.locals→b∉X.fs→b∉ch→s.heap.get? b=some o→H b=none→h'.get? b=some o)
  (slot: ∀b o,b≠X.env.locals→b∈X.fs→b∉ch→s.heap.get? b=some o→H b=none→∃sl,h'.get? b=some {o with slots:=sl}) (free: ∀b o,b∉ch→s.heap.get? b=some o→H b=none→H' b=none)
  (there: ∀b o,b∉ch→s.heap.get? b=some o→∃o',h'.get? b=some o')
  (tups: ∀b xs,H b=some (.tup xs)→H' b=some (.tup xs)) (frzs: ∀b o u,H b=some (.frz o u)→H' b=some (.frz o u)) (tbls: ∀b ps,H b=some (.tbl ps)→∃more,H' b=some (.tbl (ps++more)))
  (ns: ∀m,s.heap.Ns X.env.locals m→h'.Ns X.env.locals m) (hok:HOk X.prog X.w H' h') (hg:AllBare g'):
  Inv X pins σ H' {s with heap:=h',gens:=g',drawn:=d',toks:=t'}:=by
 have neL: ∀b o,X.s₀.heap.get? b=some o→b≠X.env.locals:=fun b o e=>Nat.ne_of_lt (Nat.lt_of_lt_of_le (Heap.lt_size e) I.ok.above)
 have neC: ∀b o,X.s₀.heap.get? b=some o→b∉X.ex→b∉ch:=fun b o e hx hb=>by
  rcases (hch b hb).1 with z | z
  ·exact hx z
  ·exact absurd (Nat.lt_of_lt_of_le (Heap.lt_size e) z) (Nat.lt_irrefl _)
 have cellK: ∀x c,X.env.cells.lookup x=some c→∀v,s.heap.IsCell c v→h'.IsCell c v:=fun x c e v ⟨o,ho,hd⟩=>by
  have nch:c∉ch:=fun z=>(hch c z).2.2.1 x c e rfl
  by_cases hc:c∈X.fs
  ·obtain⟨sl,q⟩:=slot c o (I.cne x c e) hc nch ho (I.freeC x c e)
   exact⟨_,q,hd⟩
  ·exact⟨o,keep c o (I.cne x c e) hc nch ho (I.freeC x c e),hd⟩
 refine⟨I.ok,I.os,hg,⟨fun b o e n hb hx=> ?_,fun b o e n hb hx=> ?_,fun b o e n hx=> ?_,fun b o e hx=> ?_,fun b xs e=>tups b xs (I.base.tups b xs e),fun b o xs e=>frzs b o xs (I.base.frzs b o xs e),fun b ps e=> ?_⟩,?_,fun x c e=> ?_,?_,fun x c e=> ?_,fun p hp=> ?_,hok,I.len⟩
 ·exact keep b o (neL b o e) hb (neC b o e hx) (I.base.keep b o e n hb hx) (I.base.free b o e n hx)
 ·obtain⟨sl,e1⟩:=I.base.slot b o e n hb hx
  obtain⟨sl',e2⟩:=slot b _ (neL b o e) hb (neC b o e hx) e1 (I.base.free b o e n hx)
  exact⟨sl',e2⟩
 ·obtain⟨o',e1⟩:=I.base.there b o e hx
  exact free b o' (neC b o e hx) e1 (I.base.free b o e n hx)
 ·obtain⟨o',e1⟩:=I.base.there b o e hx
  exact there b o' (neC b o e hx) e1
 ·obtain⟨m1,e1⟩:=I.base.tbls b ps e
  obtain⟨m2,e2⟩:=tbls b _ e1
  exact⟨m1++m2,by rw[e2,Array.append_assoc]⟩
 ·obtain⟨m,hn,hl⟩:=I.loc
  refine⟨m,ns m hn,fun i x v e1 e2 e3=> ?_⟩
  obtain⟨u,r,l⟩:=hl i x v e1 e2 e3
  refine⟨u,r,?_⟩
  rcases l with l |⟨k,c,e,z⟩
  ·exact .inl l
  ·exact .inr ⟨k,c,e,cellK x c e _ z⟩
 ·obtain⟨v,z⟩:=I.cell x c e
  exact⟨v,cellK x c e v z⟩
 ·obtain⟨m,⟨o,_,_,ho,_⟩,_⟩:=I.loc
  exact free _ o (fun z=>(hch _ z).2.1 rfl) ho I.free
 ·obtain⟨v,o,ho,hd⟩:=I.cell x c e
  exact free c o (fun z=>(hch c z).2.2.1 x c e rfl) ho (I.freeC x c e)
 ·obtain⟨e,n,ne,nf,d⟩:=I.pin p hp
  have nch:p.1∉ch:=fun z=>(hch p.1 z).2.2.2 p hp rfl
  exact⟨keep p.1 p.2 ne nf nch e n,free p.1 p.2 nch e n,ne,nf,d⟩
theorem Inv.un {t':Nat} (I:Inv X pins σ H s) (u:Un X.fs [] H H' s.heap h') (hok:HOk X.prog X.w H' h'):Inv X pins σ H' {s with heap:=h',toks:=t'}:=by
 obtain⟨m,⟨o,es,ep,ho,r⟩,_⟩:=id I.loc
 obtain⟨sl,hL⟩:=u.any ho I.free (by simp)
 exact I.step (g':=s.gens) (d':=s.drawn) (ch:=[]) (fun _ z=>nomatch z) (fun b o _ hb _ e n=>u.keep b o e n hb (by simp)) (fun b o _ hb _ e n=>u.slot b o e n hb (by simp)) (fun b o _ e n=>u.free b o e n (by simp)) (fun b o _ e=>u.there b o e (by simp)) u.tups u.frzs u.tbls (fun m' hm=>by
  obtain⟨o',es',ep',ho',r'⟩:=hm
  rw[ho] at ho';cases ho'
  exact⟨_,es',ep',hL,r'⟩) hok I.bare
theorem Inv.call {g':Array GenState} {t':Nat} {d':Drawn} {ch:List Addr} (I:Inv X pins σ H s) (u:Un (frs X.stack) ch H H' s.heap h') (hok:HOk X.prog X.w H' h') (hg:AllBare g')
  (hch: ∀b∈ch,(b∈X.ex∨X.s₀.heap.objs.size≤b)∧b≠X.env.locals∧(∀x c,X.env.cells.lookup x=some c→c≠b)∧∀p∈X.pn++pins,p.1≠b):
  Inv X pins σ H' {s with heap:=h',gens:=g',drawn:=d',toks:=t'}:=by
 obtain⟨m,⟨o,es,ep,ho,r⟩,_⟩:=id I.loc
 obtain⟨sl,hL⟩:=u.any ho I.free fun z=>(hch _ z).2.1 rfl
 exact I.step (ch:=ch) hch (fun b o hL hb hc e n=>u.keep b o e n (fun z=>(List.mem_cons.mp (I.stkSub b z)).elim hL hb) hc) (fun b o _ _ hc e n=>u.any e n hc) (fun b o hc e n=>u.free b o e n hc) (fun b o hc e=>u.there b o e hc) u.tups u.frzs u.tbls (fun m' hm=>by
  obtain⟨o',es',ep',ho',r'⟩:=hm
  rw[ho] at ho';cases ho'
  exact⟨_,es',ep',hL,r'⟩) hok hg
theorem Inv.turned {t':Nat} {it:Addr} (I:Inv X pins σ H s) (k: ∀b o,b≠it→s.heap.get? b=some o→h'.get? b=some o) (hn:H it=none) (hL:it≠X.env.locals)
  (h1:it∈X.ex∨X.s₀.heap.objs.size≤it) (h2: ∀x c,X.env.cells.lookup x=some c→c≠it) (h3: ∀p∈X.pn++pins,p.1≠it):Inv X pins σ H {s with heap:=h',toks:=t'}:=by
 have nit: ∀b u,H b=some u→b≠it:=fun b u e z=>by rw[z,hn] at e;cases e
 refine I.step (g':=s.gens) (d':=s.drawn) (ch:=[it]) (fun b hb=> ?_) (fun b o _ _ hc e _=>k b o (fun z=>hc (by simp[z])) e) (fun b o _ _ hc e _=>⟨o.slots,k b o (fun z=>hc (by simp[z])) e⟩) (fun _ _ _ _ n=>n)
  (fun b o hc e=>⟨o,k b o (fun z=>hc (by simp[z])) e⟩) (fun _ _ e=>e) (fun _ _ _ e=>e) (fun b ps e=>⟨#[],by rw[e];simp⟩) (fun m hm=> ?_) (fun b u e=> ?_) I.bare
 ·have e:b=it:=by simpa using hb
  subst e
  exact⟨h1,hL,h2,h3⟩
 ·obtain⟨o,es,ep,ho,r⟩:=hm
  exact⟨o,es,ep,k _ o (Ne.symm hL) ho,r⟩
 ·refine (I.hok b u e).stay (fun c v hc q=>k c v ?_ q) (fun _ q=>q) fun _ _ q=>q
  rcases hc with z | z
  ·rw[z];exact nit b u e
  ·exact nit c _ z
theorem Inv.tok (I:Inv X pins σ H s) (t:Nat):Inv X pins σ H {s with toks:=t}:=I.un (h':=s.heap) (t':=t) Un.refl I.hok
theorem Inv.kept {t':Nat} (I:Inv X pins σ H s) (k: ∀b u,s.heap.get? b=some u→h'.get? b=some u):Inv X pins σ H {s with heap:=h',toks:=t'}:=I.un (Un.kept k) (I.hok.kept k)
theorem Inv.laid {a:Addr} {o:HO} {t':Nat} (I:Inv X pins σ H s) (k: ∀b u,s.heap.get? b=some u→h'.get? b=some u) (hp:s.heap.objs.size≤a) (new:aDs X.prog X.w (upd H a o) h' a o):
  Inv X pins σ (upd H a o) {s with heap:=h',toks:=t'}:=I.un (Un.laid k hp (I.hok.fresh hp)) (I.hok.laid k hp new)
theorem Inv.write {x e:Addr} {o:HO} {t':Nat} (I:Inv X pins σ H s) (mu:Mut (H x)) (he:e=x∨H e=some (.own x)) (k: ∀b u,b≠e→s.heap.get? b=some u→h'.get? b=some u) (heo: ∃u,h'.get? e=some u)
  (new:aDs X.prog X.w (upd H x o) h' x o):Inv X pins σ (upd H x o) {s with heap:=h',toks:=t'}:=I.un (Un.write mu he k heo) (I.hok.write mu he k heo new)
theorem Inv.weak {σ':List (Option V)} (I:Inv X pins σ H s) (hl:σ'.length=σ.length) (w: ∀(i:Nat) v,σ'[i]? =some (some v)→σ[i]? =some (some v)):Inv X pins σ' H s:=
 ⟨I.ok,I.os,I.bare,I.base,let ⟨m,hn,hl'⟩:=I.loc;⟨m,hn,fun i x v e1 e2 e3=>hl' i x v e1 (w i v e2) e3⟩,I.cell,I.free,I.freeC,I.pin,I.hok,hl.trans I.len⟩
theorem Inv.pins_of {pins':List (Addr×Obj)} (I:Inv X pins σ H s) (h: ∀p∈pins',s.heap.get? p.1=some p.2∧H p.1=none∧p.1≠X.env.locals∧p.1∉X.fs∧∀v,p.2.data≠ .cell v):Inv X pins' σ H s:=
 ⟨I.ok,I.os,I.bare,I.base,I.loc,I.cell,I.free,I.freeC,fun p hp=>(List.mem_append.mp hp).elim (fun z=>I.pin p (List.mem_append_left _ z)) (h p),I.hok,I.len⟩
theorem nodup_ix {N:List Str} (hN:N.Nodup) {i j:Nat} {x:Str} (a:N[i]? =some x) (b:N[j]? =some x):i=j:=by
 obtain⟨h1,e1⟩:=List.getElem?_eq_some_iff.mp a
 obtain⟨h2,e2⟩:=List.getElem?_eq_some_iff.mp b
 exact (List.getElem_inj hN).mp (e1.trans e2.symm)
theorem store_ok2 {M:Model} {A:Around} {E:Value→Shared→Prop} {i:Nat} {x:Str} {v:V} {u:Value} {Q:Unit→Shared→Prop} (I:Inv X pins σ H s) (hN:X.N.Nodup) (hi:X.N[i]? =some x) (hx:Loc X.env.scope x) (r:RelV v u)
  (h: ∀s',Inv X pins (σ.set i (some v)) H s'→(∃a,Heap.SameBut a s.heap s'.heap∧(a=X.env.locals∨X.env.cells.lookup x=some a))→Q () s') (hf:X.fn x=true∨X.env.scope.names.lookup x=some .local):wpAny M A (storeName X.env x u) Q E s:=by
 obtain⟨m,hn,hl⟩:=id I.loc
 have hcls:(X.env.scope.kind== .class ||(X.env.scope.kind== .module&&X.env.locals !=X.env.globals))=false:=by rw[I.ok.kind];rfl
 have hiσ:i<σ.length:=by rw[I.len];exact (List.getElem?_eq_some_iff.mp hi).1
 have cne:=I.cne
 have tracked: ∀{a:Addr} {h':Heap},(∃o,s.heap.get? a=some o∧H a=none)→Heap.SameBut a s.heap h'→HOk X.prog X.w H h':=fun {a h'} ha hs b ob e=>by
  obtain⟨_,_,hfree⟩:=ha
  refine (I.hok b ob e).stay (fun c w' hc q=>(hs.2 c ?_).trans q) (fun _ q=>q) fun _ _ q=>q
  rintro rfl
  rcases hc with rfl | hc
  ·rw[hfree] at e;cases e
  ·rw[hfree] at hc;cases hc
 rcases hx with hk | hk
 ·refine wpAny_storeName_local hk hn (fun h' hn' hs=> ?_) hcls
  obtain⟨oL,_,_,hoL,_⟩:=id hn
  refine h _ ⟨I.ok,I.os,I.bare,⟨fun b o e n hb hx=> ?_,fun b o e n hb hx=> ?_,I.base.free,fun b o e hx=> ?_,I.base.tups,I.base.frzs,I.base.tbls⟩,⟨_,hn',fun j y v' e1 e2 e3=> ?_⟩,fun y c e=> ?_,I.free,I.freeC,fun p hp=> ?_,tracked ⟨oL,hoL,I.free⟩ hs,by simpa using I.len⟩ ⟨_,hs,.inl rfl⟩
  ·exact (hs.2 b (Nat.ne_of_lt (Nat.lt_of_lt_of_le (Heap.lt_size e) I.ok.above))).trans (I.base.keep b o e n hb hx)
  ·obtain⟨sl,e1⟩:=I.base.slot b o e n hb hx
   exact⟨sl,(hs.2 b (Nat.ne_of_lt (Nat.lt_of_lt_of_le (Heap.lt_size e) I.ok.above))).trans e1⟩
  ·obtain⟨o',e1⟩:=I.base.there b o e hx
   exact⟨o',(hs.2 b (Nat.ne_of_lt (Nat.lt_of_lt_of_le (Heap.lt_size e) I.ok.above))).trans e1⟩
  ·by_cases hj:j=i
   ·subst hj
    rw[hi] at e1;cases e1
    rw[List.getElem?_set_self hiσ] at e2
    cases e2
    exact⟨u,r,.inl ⟨hk,by simp⟩⟩
   ·rw[List.getElem?_set_ne (Ne.symm hj)] at e2
    obtain⟨u',r',q⟩:=hl j y v' e1 e2 e3
    refine⟨u',r',?_⟩
    rcases q with⟨k,e⟩ |⟨k,c,e,z⟩
    ·refine .inl ⟨k,?_⟩
     have:y≠x:=fun e=>hj (nodup_ix hN e1 (e▸hi))
     simp[this,e]
    ·exact .inr ⟨k,c,e,z.sameBut hs (cne y c e)⟩
  ·obtain⟨w',z⟩:=I.cell y c e
   exact⟨w',z.sameBut hs (cne y c e)⟩
  ·obtain⟨e,n,ne,nf,d⟩:=I.pin p hp
   exact⟨(hs.2 p.1 ne).trans e,n,ne,nf,d⟩
 ·have hfn:X.fn x=true:=by
   rcases hf with z | z
   ·exact z
   ·rw[z] at hk;cases hk
  obtain⟨c,hc⟩:=I.ok.has x (.inl hk)
  obtain⟨w',z⟩:=I.cell x c hc
  refine wpAny_storeName_cell I.ok.kind hk hc z (fun h' hc' hs=> ?_)
  obtain⟨oc,hoc,hocd⟩:=id z
  refine h {s with heap:=h'} ⟨I.ok,I.os,I.bare,⟨fun b o e n hb hx=> ?_,fun b o e n hb hx=> ?_,I.base.free,fun b o e hx=> ?_,I.base.tups,I.base.frzs,I.base.tbls⟩,⟨m,hn.sameBut hs (Ne.symm (cne x c hc)),fun j y v' e1 e2 e3=> ?_⟩,fun y c' e=> ?_,I.free,I.freeC,fun p hp=> ?_,tracked ⟨oc,hoc,I.freeC x c hc⟩ hs,by simpa using I.len⟩ ⟨c,hs,.inr hc⟩
  ·exact (hs.2 b (Nat.ne_of_lt (Nat.lt_of_lt_of_le (Heap.lt_size e) (I.ok.cab x c hfn hc)))).trans (I.base.keep b o e n hb hx)
  ·obtain⟨sl,e1⟩:=I.base.slot b o e n hb hx
   exact⟨sl,(hs.2 b (Nat.ne_of_lt (Nat.lt_of_lt_of_le (Heap.lt_size e) (I.ok.cab x c hfn hc)))).trans e1⟩
  ·obtain⟨o',e1⟩:=I.base.there b o e hx
   exact⟨o',(hs.2 b (Nat.ne_of_lt (Nat.lt_of_lt_of_le (Heap.lt_size e) (I.ok.cab x c hfn hc)))).trans e1⟩
  ·by_cases hj:j=i
   ·subst hj
    rw[hi] at e1;cases e1
    rw[List.getElem?_set_self hiσ] at e2
    cases e2
    exact⟨u,r,.inr ⟨.inl hk,c,hc,hc'⟩⟩
   ·rw[List.getElem?_set_ne (Ne.symm hj)] at e2
    obtain⟨u',r',q⟩:=hl j y v' e1 e2 e3
    refine⟨u',r',?_⟩
    rcases q with q |⟨k,c',e,z'⟩
    ·exact .inl q
    ·refine .inr ⟨k,c',e,z'.sameBut hs ?_⟩
     rintro rfl
     exact hj (nodup_ix hN e1 (I.ok.inj _ _ _ e hc▸hi))
  ·by_cases hcc:c'=c
   ·subst hcc;exact⟨_,hc'⟩
   ·obtain⟨w2,z2⟩:=I.cell y c' e
    exact⟨w2,z2.sameBut hs hcc⟩
  ·obtain⟨e,n,ne,nf,d⟩:=I.pin p hp
   refine⟨(hs.2 p.1 ?_).trans e,n,ne,nf,d⟩
   intro q
   rw[q,hoc] at e
   have q':oc=p.2:=Option.some.inj e
   exact d w' (by rw[←q'];exact hocd)
theorem store_ok {M:Model} {A:Around} {E:Value→Shared→Prop} {i:Nat} {x:Str} {v:V} {u:Value} {Q:Unit→Shared→Prop} (I:Inv X pins σ H s) (hN:X.N.Nodup) (hi:X.N[i]? =some x) (hx:Loc X.env.scope x) (r:RelV v u)
  (h: ∀s',Inv X pins (σ.set i (some v)) H s'→Q () s') (hf:X.fn x=true∨X.env.scope.names.lookup x=some .local:=by first | exact .inl rfl | exact .inr rfl | assumption):wpAny M A (storeName X.env x u) Q E s:=
 store_ok2 I hN hi hx r (fun s' I' _=>h s' I') hf
theorem Inv.call' {s':Shared} {ch:List Addr} (I:Inv X pins σ H s) (ho:s'.os=s.os) (u:Un (frs X.stack) ch H H' s.heap s'.heap) (hok:HOk X.prog X.w H' s'.heap) (hg:AllBare s'.gens)
  (hch: ∀b∈ch,(b∈X.ex∨X.s₀.heap.objs.size≤b)∧b≠X.env.locals∧(∀x c,X.env.cells.lookup x=some c→c≠b)∧∀p∈X.pn++pins,p.1≠b):Inv X pins σ H' s':=by
 obtain⟨h',g',d',t',o'⟩:=s'
 have e:o'=s.os:=ho
 subst e
 exact I.call (g':=g') (t':=t') (d':=d') u hok hg hch
end
noncomputable abbrev XK:=Value→Option Addr→Hp→Prop
noncomputable abbrev St:=List (Option V)
noncomputable abbrev VK:=V→Hp→Prop
noncomputable abbrev TE:=St→Hp→VK→Prop
noncomputable abbrev TT:=St→Hp→(Bool→Hp→Prop)→Prop
noncomputable abbrev TA:=St→Hp→(List V→Hp→Prop)→Prop
structure Ends where
 nx:St→Hp→Prop
 rt:VK
 bk:St→Hp→Prop:=fun _ _=>False
 ct:St→Hp→Prop:=fun _ _=>False
noncomputable abbrev TS:=Ends→St→Hp→Prop
noncomputable def EP (X:Cx) (pins:List (Addr×Obj)) (σ:St) (Q:VK) (u:Value) (s':Shared):Prop:= ∃v H',Inv X pins σ H' s'∧RelV v u∧Q v H'
noncomputable def TP (X:Cx) (pins:List (Addr×Obj)) (σ:St) (Q:Bool→Hp→Prop) (b:Bool) (s':Shared):Prop:= ∃H',Inv X pins σ H' s'∧Q b H'
noncomputable def AP (X:Cx) (pins:List (Addr×Obj)) (σ:St) (Q:List V→Hp→Prop) (us:List Value) (s':Shared):Prop:= ∃vs H',Inv X pins σ H' s'∧Vals vs us∧Q vs H'
noncomputable def SP (X:Cx) (pins:List (Addr×Obj)) (D:Ends) (f:Flow) (s':Shared):Prop:=
 match f with
 | .next=> ∃σ' H',Inv X pins σ' H' s'∧D.nx σ' H'
 | .brk=> ∃σ' H',Inv X pins σ' H' s'∧D.bk σ' H'
 | .cont=> ∃σ' H',Inv X pins σ' H' s'∧D.ct σ' H'
 | .ret u=> ∃v σ' H',Inv X pins σ' H' s'∧RelV v u∧D.rt v H'
noncomputable def PE (X:Cx) (e:Expr) (t:TE):Prop:=
 ∀(pins:List (Addr×Obj)) (s:Shared) (σ:St) (H:Hp) (Q:VK),Inv X pins σ H s→t σ H Q→wpAny (model X.prog X.w) X.A (eval e X.env) (EP X pins σ Q) X.xe s
noncomputable def PT (X:Cx) (e:Expr) (t:TT):Prop:=
 ∀(pins:List (Addr×Obj)) (s:Shared) (σ:St) (H:Hp) (Q:Bool→Hp→Prop),Inv X pins σ H s→t σ H Q→wpAny (model X.prog X.w) X.A (isTrue e X.env (eval e X.env)) (TP X pins σ Q) X.xe s
noncomputable def PW (X:Cx) (e:Expr) (t:TT):Prop:=
 ∀(whole:Sem Value) (pins:List (Addr×Obj)) (s:Shared) (σ:St) (H:Hp) (Q:Bool→Hp→Prop),Inv X pins σ H s→t σ H Q→wpAny (model X.prog X.w) X.A (isTrue e X.env whole) (TP X pins σ Q) X.xe s
theorem PW.pt {X:Cx} {e:Expr} {t:TT} (h:PW X e t):PT X e t:=h _
noncomputable def PA (X:Cx) (es:List Expr) (t:TA):Prop:=
 ∀(pos:Pos) (pins:List (Addr×Obj)) (s:Shared) (σ:St) (H:Hp) (Q:List V→Hp→Prop),Inv X pins σ H s→t σ H Q→wpAny (model X.prog X.w) X.A (spliced (backTo pos (starEach es X.env))) (AP X pins σ Q) X.xe s
noncomputable def PS (X:Cx) (st:Stmt) (t:TS):Prop:=
 ∀(pins:List (Addr×Obj)) (s:Shared) (σ:St) (H:Hp) (D:Ends),Inv X pins σ H s→t D σ H→wpAny (model X.prog X.w) X.A (exec st X.env) (SP X pins D) X.xe s
noncomputable def PSs (X:Cx) (st:List Stmt) (t:TS):Prop:=
 ∀(pins:List (Addr×Obj)) (s:Shared) (σ:St) (H:Hp) (D:Ends),Inv X pins σ H s→t D σ H→wpAny (model X.prog X.w) X.A (execs st X.env) (SP X pins D) X.xe s
theorem thn {α:Type} {t:Sem α} {Q Q':α→Shared→Prop} {M:Model} {A:Around} {E:Value→Shared→Prop} {s:Shared} (h:wpAny M A t Q E s) (hQ: ∀a s,Q a s→Q' a s):wpAny M A t Q' E s:=wpAny_mono h hQ fun _ _ x=>x
section
variable {X:Cx}
noncomputable def tVar (i:Nat):TE:=fun σ H Q=> ∃v,σ[i]? =some (some v)∧Q v H
noncomputable def tC (v:V):TE:=fun _ H Q=>Q v H
theorem pe_var {i:Nat} {x:Str} {pos:Pos} (hN:X.N[i]? =some x) (hv:Vis X.env.scope x) (hd:(x==("__debug__":Str))=false:=by decide) (hcd:(x==("__classdict__":Str))=false:=by decide):PE X (.Name x pos) (tVar i):=by
 intro pins s σ H Q I h
 obtain⟨v,e,h⟩:=h
 obtain⟨m,hn,hl⟩:=I.loc
 obtain⟨u,r,l⟩:=hl i x v hN e hv
 have fin:EP X pins σ Q u s:=⟨v,H,I,r,h⟩
 rcases l with⟨hk,hm⟩ |⟨hk,c,hc,hcell⟩
 ·exact wpAny_Name (wpAny_loadName_local I.ok.kind hk hn hm fin) hd
 ·rcases hk with hk | hk
  ·exact wpAny_Name (wpAny_loadName_cell I.ok.kind hk hc hcell fin) hd
  ·exact wpAny_Name (wpAny_loadName_free I.ok.kind hk hc hcell fin hcd) hd
theorem pe_int {i j pos}:PE X (.Constant (.int i) j pos) (tC (.int i)):=fun _ _ _ H _ I h=>wpAny_Constant_int ⟨.int i,H,I.tok _,⟨_,rfl⟩,h⟩
theorem pe_bl {b j pos}:PE X (.Constant (.bool b) j pos) (tC (.bl b)):=fun _ _ _ H _ I h=>Constant_bool ⟨.bl b,H,I,rfl,h⟩
theorem pe_str {x j pos}:PE X (.Constant (.str x) j pos) (tC (.str x)):=fun _ _ _ H _ I h=>Calls.Constant_str ⟨.str x,H,I.tok _,⟨_,rfl⟩,h⟩
noncomputable def Gl (X:Cx) (x:Str):Prop:=X.env.kindOf x=some .globalImplicit
theorem ld_glob {E:Value→Shared→Prop} {pins:List (Addr×Obj)} {s:Shared} {σ:St} {H:Hp} {x:Str} {u:Value} {pos:Pos} {Q:Value→Shared→Prop} (I:Inv X pins σ H s) (hg:Gl X x) (hm:X.mg x=some u) (h:Q u s)
  (hd:(x==("__debug__":Str))=false:=by decide):wpAny (model X.prog X.w) X.A (eval (.Name x pos) X.env) Q E s:=
 Calls.Name_function_global I.ok.kind hg (Calls.loadGlobal_global (by rw[I.ok.glob];exact I.mod.glob.keeps I.bk) hm h) hd
theorem ld_blt {E:Value→Shared→Prop} {pins:List (Addr×Obj)} {s:Shared} {σ:St} {H:Hp} {x:Str} {u:Value} {pos:Pos} {Q:Value→Shared→Prop} (I:Inv X pins σ H s) (hg:Gl X x) (hm:X.mg x=none) (hv:bootBuiltins x=some u) (h:Q u s)
  (hn:x≠"__name__":=by decide) (hd:(x==("__debug__":Str))=false:=by decide):wpAny (model X.prog X.w) X.A (eval (.Name x pos) X.env) Q E s:=by
 obtain⟨mb,h1,h2⟩:=I.mod.blt
 exact Calls.Name_function_global I.ok.kind hg (Calls.loadGlobal_builtin (by rw[I.ok.glob];exact I.mod.glob.keeps I.bk) hm (by rw[I.ok.blt];exact h1.keeps I.bk) ((h2 x hn).trans hv) h) hd
theorem pe_bltn {x:Str} {v:V} {u:Value} {pos:Pos} (hg:Gl X x) (hm:X.mg x=none) (hv:bootBuiltins x=some u) (r:RelV v u) (hn:x≠"__name__":=by decide) (hd:(x==("__debug__":Str))=false:=by decide):PE X (.Name x pos) (tC v):=
 fun _ _ _ H _ I h=>ld_blt I hg hm hv ⟨v,H,I,r,h⟩ hn hd
variable {a b:Expr} {ta tb:TE} {pos:Pos}
variable {tA tB':TT} {rest:List Expr}
noncomputable def tAnd (t u:TT):TT:=fun σ H Q=>t σ H fun c H1=>if c=true then u σ H1 Q else Q false H1
noncomputable def tOr (t u:TT):TT:=fun σ H Q=>t σ H fun c H1=>if c=true then Q true H1 else u σ H1 Q
noncomputable def tNot (t:TT):TT:=fun σ H Q=>t σ H fun c H1=>Q (!c) H1
theorem pw_and1 (ha:PT X a tA):PW X (.BoolOp .And [a] pos) tA:=by
 intro wh pins s σ H Q I h
 refine isTrue_and (thn (ha pins s σ H Q I h) fun c s1 e=> ?_)
 cases c with
 | true=>exact isTrue_and_nil e
 | false=>exact e
theorem pw_or1 (ha:PT X a tA):PW X (.BoolOp .Or [a] pos) tA:=by
 intro wh pins s σ H Q I h
 refine isTrue_or (thn (ha pins s σ H Q I h) fun c s1 e=> ?_)
 cases c with
 | false=>exact isTrue_or_nil e
 | true=>exact e
theorem pw_and (ha:PT X a tA) (hb:PW X (.BoolOp .And (b::rest) pos) tB'):PW X (.BoolOp .And (a::b::rest) pos) (tAnd tA tB'):=by
 intro wh pins s σ H Q I h
 refine isTrue_and (thn (ha pins s σ H _ I h) fun c s1 ⟨H1,I1,q1⟩=> ?_)
 cases c with
 | true=>exact hb wh pins s1 σ H1 Q I1 q1
 | false=>exact⟨H1,I1,q1⟩
theorem pw_or (ha:PT X a tA) (hb:PW X (.BoolOp .Or (b::rest) pos) tB'):PW X (.BoolOp .Or (a::b::rest) pos) (tOr tA tB'):=by
 intro wh pins s σ H Q I h
 refine isTrue_or (thn (ha pins s σ H _ I h) fun c s1 ⟨H1,I1,q1⟩=> ?_)
 cases c with
 | true=>exact⟨H1,I1,q1⟩
 | false=>exact hb wh pins s1 σ H1 Q I1 q1
theorem pt_not (ha:PT X a tA):PT X (.UnaryOp .Not a pos) (tNot tA):=by
 intro pins s σ H Q I h
 exact isTrue_not (ha pins s σ H (fun c H1=>Q (!c) H1) I h)
noncomputable def tAndV (ta tb:TE):TE:=fun σ H Q=>ta σ H fun x H1=> ∃c,x= .bl c∧if c=true then tb σ H1 Q else Q (.bl false) H1
theorem pe_one {op} {t:TE} (h:PE X a t):PE X (.BoolOp op [a] pos) t:=fun pins s σ H Q I hw=>BoolOp_one (h pins s σ H Q I hw)
theorem pe_and (ha:PE X a ta) (hb:PE X (.BoolOp .And (b::rest) pos) tb):PE X (.BoolOp .And (a::b::rest) pos) (tAndV ta tb):=by
 intro pins s σ H Q I h
 refine BoolOp_and (thn (ha pins s σ H _ I h) fun v s1 ⟨x,H1,I1,r1,q1⟩=> ?_)
 obtain⟨c,rfl,q1⟩:=q1
 cases r1
 refine wpAny_truthy_bool ?_
 cases c with
 | true=>exact hb pins s1 σ H1 Q I1 q1
 | false=>exact⟨.bl false,H1,I1,rfl,q1⟩
end
noncomputable def SqL (K:PySem.W.Frag) (H:Hp) (a:Addr) (xs:List V):Prop:=
 Rd H a (.lst xs)∨
  ∃(o:Obj) (its:Array Value) (n:Nat),K.lookup a=some o∧o.cls= .type "list"∧o.dict=none∧o.data= .seq its n∧its.size≤sizeLine∧Vals xs its.toList
noncomputable def SqT (K:PySem.W.Frag) (H:Hp) (a:Addr) (xs:List V):Prop:=
 Rd H a (.tup xs)∨
  ∃(o:Obj) (its:Array Value) (n:Nat),K.lookup a=some o∧o.cls= .type "tuple"∧o.dict=none∧o.data= .seq its n∧its.size≤sizeLine∧Vals xs its.toList
noncomputable def absV:Value→Option V
 | .none=>some .non
 | .bool b=>some (.bl b)
 | .int i _=>some (.int i)
 | .str x _=>some (.str x)
 | .bytes b _=>some (.byt b)
 | .float b _=>some (.flt b)
 | .ref a=>some (.ref a)
 | .type n=>some (.ty n)
 | _=>none
theorem RelV.abs {x:V} {u:Value} (r:RelV x u):absV u=some x:=by
 cases x with
 | non=>cases r;rfl
 | bl _=>cases r;rfl
 | int _=>obtain⟨t,rfl⟩:=r;rfl
 | str _=>obtain⟨t,rfl⟩:=r;rfl
 | byt _=>obtain⟨t,rfl⟩:=r;rfl
 | flt _=>obtain⟨t,rfl⟩:=r;rfl
 | ref _=>cases r;rfl
 | ty _=>cases r;rfl
theorem RelV.inj {x y:V} {u:Value} (r:RelV x u) (q:RelV y u):x=y:=Option.some.inj (r.abs.symm.trans q.abs)
theorem Vals.inj: ∀{xs ys:List V} {us:List Value},Vals xs us→Vals ys us→xs=ys
 | _,_,_,.nil,.nil=>rfl
 | _,_,_,.cons r t,.cons r' t'=>by rw[r.inj r',Vals.inj t t']
section
variable {X:Cx} {pins:List (Addr×Obj)} {σ:St} {H:Hp} {s:Shared} {a:Addr} {xs ys:List V}
theorem SqL.of {K:PySem.W.Frag} (h:H a=some (.lst xs)):SqL K H a xs:= .inl (.inl h)
theorem SqT.of {K:PySem.W.Frag} (h:H a=some (.tup xs)):SqT K H a xs:= .inl (.inl h)
theorem Inv.list (I:Inv X pins σ H s) (h:SqL X.K H a xs): ∃its:List Value,Vals xs its∧PlainL s.heap a its.toArray∧xs.length≤sizeLine:=by
 rcases h with h |⟨o,its,n,hk,hc,hd,hs,hz,r⟩
 ·obtain⟨z,its,n,r,e⟩:=h.ok I.hok
  exact⟨its,r,⟨_,n,e,rfl,rfl,rfl⟩,z⟩
 ·refine⟨its.toList,r,⟨o,n,I.kIn a o hk,hc,hd,by simpa using hs⟩,?_⟩
  have e:=r.length
  simp only[Array.length_toList] at e
  omega
theorem Inv.tuple (I:Inv X pins σ H s) (h:SqT X.K H a xs): ∃its:List Value,Vals xs its∧IsTup s.heap a its.toArray∧xs.length≤sizeLine:=by
 rcases h with h |⟨o,its,n,hk,hc,_,hs,hz,r⟩
 ·obtain⟨z,its,r,p⟩:=h.ok I.hok
  exact⟨its,r,p.tup,z⟩
 ·refine⟨its.toList,r,⟨o,I.kIn a o hk,hc,n,by simpa using hs⟩,?_⟩
  have e:=r.length
  simp only[Array.length_toList] at e
  omega
theorem Inv.list_inj (I:Inv X pins σ H s) (h:SqL X.K H a xs) (h':SqL X.K H a ys):xs=ys:=by
 obtain⟨its,r,⟨o,n,e,_,_,d⟩,_⟩:=I.list h
 obtain⟨its',r',⟨o',n',e',_,_,d'⟩,_⟩:=I.list h'
 rw[e] at e';cases e'
 rw[d] at d'
 injection d' with d1 _
 have:its=its':=by simpa using congrArg Array.toList d1
 subst this
 exact r.inj r'
theorem Inv.tuple_inj (I:Inv X pins σ H s) (h:SqT X.K H a xs) (h':SqT X.K H a ys):xs=ys:=by
 obtain⟨its,r,⟨o,e,_,n,d⟩,_⟩:=I.tuple h
 obtain⟨its',r',⟨o',e',_,n',d'⟩,_⟩:=I.tuple h'
 rw[e] at e';cases e'
 rw[d] at d'
 injection d' with d1 _
 have:its=its':=by simpa using congrArg Array.toList d1
 subst this
 exact r.inj r'
end
noncomputable abbrev Cx.wish (X:Cx) (E:Value→Shared→Prop):Cx:={X with xe:=E}
noncomputable abbrev Cx.nox (X:Cx):Cx:=X.wish fun _ _=>False
theorem Cx.Ok.wish {X:Cx} (ok:X.Ok) (E:Value→Shared→Prop):(X.wish E).Ok:=
 ⟨ok.mod,ok.kind,ok.glob,ok.blt,ok.above,ok.inj,ok.has,ok.cab,ok.hd,ok.frames,ok.stk,ok.exf,ok.bs,ok.bsz,ok.noex,ok.exfs,ok.funs,ok.frf⟩
theorem Cx.Ok.unwish {X:Cx} {E:Value→Shared→Prop} (ok:(X.wish E).Ok):X.Ok:=
 ⟨ok.mod,ok.kind,ok.glob,ok.blt,ok.above,ok.inj,ok.has,ok.cab,ok.hd,ok.frames,ok.stk,ok.exf,ok.bs,ok.bsz,ok.noex,ok.exfs,ok.funs,ok.frf⟩
section
variable {X:Cx} {pins:List (Addr×Obj)} {σ:St} {H:Hp} {s:Shared} {E:Value→Shared→Prop}
theorem Inv.wish (I:Inv X pins σ H s) (E:Value→Shared→Prop):Inv (X.wish E) pins σ H s:=⟨I.ok.wish E,I.os,I.bare,I.base,I.loc,I.cell,I.free,I.freeC,I.pin,I.hok,I.len⟩
theorem Inv.unwish (I:Inv (X.wish E) pins σ H s):Inv X pins σ H s:=⟨I.ok.unwish,I.os,I.bare,I.base,I.loc,I.cell,I.free,I.freeC,I.pin,I.hok,I.len⟩
theorem SP.unwish {D:Ends} {f:Flow} {s':Shared} (h:SP (X.wish E) pins D f s'):SP X pins D f s':=by
 cases f with
 | next=>obtain⟨σ',H',I,q⟩:=h;exact⟨σ',H',I.unwish,q⟩
 | brk=>obtain⟨σ',H',I,q⟩:=h;exact⟨σ',H',I.unwish,q⟩
 | cont=>obtain⟨σ',H',I,q⟩:=h;exact⟨σ',H',I.unwish,q⟩
 | ret u=>obtain⟨v,σ',H',I,r,q⟩:=h;exact⟨v,σ',H',I.unwish,r,q⟩
theorem PSs.nox {st:List Stmt} {t:TS} (h:PSs X.nox st t):PSs X st t:=fun pins s σ H D I hw=>
 wpAny_mono (h pins s σ H D (I.wish _) hw) (fun _ _ q=>q.unwish) fun _ _ z=>False.elim z
end
section
variable {X:Cx} {st:Stmt} {rest:List Stmt} {t u:TS} {e:Expr} {te:TE} {pos:Pos}
noncomputable def tNext:TS:=fun D σ H=>D.nx σ H
noncomputable def tSeq (t u:TS):TS:=fun D σ H=>t {D with nx:=u D} σ H
theorem pss_nil:PSs X [] tNext:=fun _ _ σ H _ I h=>wpAny_execs_nil ⟨σ,H,I,h⟩
theorem pss_cons (h1:PS X st t) (h2:PSs X rest u):PSs X (st::rest) (tSeq t u):=by
 intro pins s σ H D I h
 refine wpAny_execs_cons (thn (h1 pins s σ H {D with nx:=u D} I h) fun f s1 q=> ?_)
 cases f with
 | next=>
  obtain⟨σ',H',I',q⟩:=q
  exact h2 pins s1 σ' H' D I' q
 | ret v=>exact q
 | brk=>exact q
 | cont=>exact q
theorem Inv.quiet {pins:List (Addr×Obj)} {σ:St} {H:Hp} {s:Shared} (I:Inv X pins σ H s):interactive X.env=false:=by simp[interactive,I.ok.kind]
noncomputable def tDrop (te:TE):TS:=fun D σ H=>te σ H fun _ H1=>D.nx σ H1
theorem ps_expr (he:PE X e te) (hs:swapsWith e none pos.line X.env=pure false:=by rfl):PS X (.Expr e pos) (tDrop te):=by
 intro pins s σ H D I h
 exact wpAny_Expr_any (thn (he pins s σ H _ I h) fun v s1 ⟨x,H1,I1,r1,q1⟩=>⟨σ,H1,I1,q1⟩) I.quiet hs
noncomputable def tRet (te:TE):TS:=fun D σ H=>te σ H D.rt
theorem ps_ret (he:PE X e te):PS X (.Return (some e) pos) (tRet te):=by
 intro pins s σ H D I h
 exact wpAny_Return_some (thn (he pins s σ H _ I h) fun v s1 ⟨x,H1,I1,r1,q1⟩=>⟨x,σ,H1,I1,r1,q1⟩)
noncomputable def tIfS (c:TT) (t u:TS):TS:=fun D σ H=>c σ H fun b H1=>if b=true then t D σ H1 else u D σ H1
theorem ps_if {c:Expr} {a b:List Stmt} {tc:TT} (hc:PT X c tc) (ha:PSs X a t) (hb:PSs X b u):PS X (.If c a b pos) (tIfS tc t u):=by
 intro pins s σ H D I h
 refine wpAny_If (thn (hc pins s σ H _ I h) fun d s1 ⟨H1,I1,q1⟩=> ?_)
 cases d with
 | true=>exact ha pins s1 σ H1 D I1 q1
 | false=>exact hb pins s1 σ H1 D I1 q1
end
noncomputable abbrev TG:=V→St→Hp→(St→Hp→Prop)→Prop
noncomputable abbrev TGs:=List V→St→Hp→(St→Hp→Prop)→Prop
noncomputable def PG (X:Cx) (target:Expr) (t:TG):Prop:=
 ∀(pins:List (Addr×Obj)) (s:Shared) (σ:St) (H:Hp) (v:V) (u:Value) (Q:St→Hp→Prop),Inv X pins σ H s→RelV v u→t v σ H Q→
  wpAny (model X.prog X.w) X.A (assign target X.env u) (fun _ s'=> ∃σ' H',Inv X pins σ' H' s'∧Q σ' H') X.xe s
noncomputable def PGs (X:Cx) (ts:List Expr) (t:TGs):Prop:=
 ∀(pins:List (Addr×Obj)) (s:Shared) (σ:St) (H:Hp) (vs:List V) (us:List Value) (Q:St→Hp→Prop),Inv X pins σ H s→Vals vs us→t vs σ H Q→
  wpAny (model X.prog X.w) X.A (assignInOrder ((assignEach ts X.env).map (·.2)) us) (fun _ s'=> ∃σ' H',Inv X pins σ' H' s'∧Q σ' H') X.xe s
noncomputable abbrev TSet:=V→V→V→Hp→(Hp→Prop)→Prop
section
variable {X:Cx} {pos:Pos}
noncomputable def gName (i:Nat):TG:=fun v σ H Q=>Q (σ.set i (some v)) H
theorem pg_name {i:Nat} {x:Str} (hN:X.N.Nodup) (hi:X.N[i]? =some x) (hx:Loc X.env.scope x) (hf:X.fn x=true∨X.env.scope.names.lookup x=some .local:=by first | exact .inl rfl | exact .inr rfl | assumption):PG X (.Name x pos) (gName i):=by
 intro pins s σ H v u Q I r h
 exact wpAny_assign_Name (store_ok I hN hi hx r (fun s' I'=>⟨_,H,I',h⟩) hf)
noncomputable def gNil:TGs:=fun vs σ H Q=>vs=[]∧Q σ H
noncomputable def gCons (t:TG) (u:TGs):TGs:=fun vs σ H Q=> ∃v r,vs=v::r∧t v σ H fun σ' H'=>u r σ' H' Q
theorem pgs_nil:PGs X [] gNil:=by
 intro pins s σ H vs us Q I r h
 obtain⟨e,h⟩:=h
 subst e
 cases r
 exact assignInOrder_nil ⟨σ,H,I,h⟩
theorem pgs_cons {e:Expr} {es:List Expr} {t:TG} {u:TGs} (h1:PG X e t) (h2:PGs X es u)
  (hs:(assignEach (e::es) X.env).map (·.2)=assign e X.env::(assignEach es X.env).map (·.2):=by rfl):PGs X (e::es) (gCons t u):=by
 intro pins s σ H vs us Q I r h
 obtain⟨v,vr,e1,h⟩:=h
 subst e1
 cases r with
 | cons r rr=>
  rw[hs]
  refine assignInOrder_cons (thn (h1 pins s σ H _ _ _ I r h) fun _ s1 ⟨σ1,H1,I1,q1⟩=> ?_)
  exact h2 pins s1 σ1 H1 _ _ Q I1 rr q1
noncomputable def gTup (K:PySem.W.Frag) (n:Nat) (t:TGs):TG:=fun v σ H Q=> ∃a xs,v= .ref a∧SqT K H a xs∧xs.length=n∧t xs σ H Q
theorem pg_tup {es:List Expr} {k:Nat} {t:TGs} {n:Nat} (hc:X.calm=true) (h:PGs X es t)
  (hn:(assignEach es X.env).length=n:=by rfl) (hst:(assignEach es X.env).findIdx? (·.1)=none:=by rfl):PG X (.Tuple es k pos) (gTup X.K n t):=by
 intro pins s σ H v u Q I r hw
 obtain⟨a,xs,e1,hq,hl,hw⟩:=hw
 subst e1
 cases r
 obtain⟨its,rv,ht,hz⟩:=I.tuple hq
 refine assign_Tuple_tuple (I.ok.hd hc) ht (by simp[hn,←hl,rv.length]) hst fun h' hx=> ?_
 have I1:Inv X pins σ H {s with heap:=h'}:=I.kept (t':=s.toks) fun b o e=>hx b o (Nat.ne_of_lt (Heap.lt_size e)) e
 exact h pins _ σ H xs _ Q I1 (by simpa using rv) hw
noncomputable def gSub (to ti:TE) (t:TSet):TG:=fun v σ H Q=>to σ H fun o H1=>ti σ H1 fun i H2=>t o i v H2 fun H3=>Q σ H3
noncomputable def tAsg (te:TE) (g:TG):TS:=fun D σ H=>te σ H fun x H1=>g x σ H1 D.nx
theorem ps_set {i:Nat} {x:Str} {e:Expr} {te:TE} {pos':Pos} (hN:X.N.Nodup) (hi:X.N[i]? =some x) (hx:Loc X.env.scope x) (he:PE X e te) (hs:swapsWith e (some (.Name x pos')) pos.line X.env=pure false:=by rfl) (hf:X.fn x=true∨X.env.scope.names.lookup x=some .local:=by first | exact .inl rfl | exact .inr rfl | assumption):
  PS X (.Assign [.Name x pos'] e pos) (tAsg te (gName i)):=by
 intro pins s σ H D I h
 refine wpAny_Assign_Name (thn (he pins s σ H _ I h) fun v s1 ⟨y,H1,I1,r1,q1⟩=> ?_) hs
 exact store_ok I1 hN hi hx r1 (fun s2 I2=>⟨_,H1,I2,q1⟩) hf
end
structure It where
 go:Nat→Hp→Prop
 yld:Nat→Hp→V→Hp→Prop
 stop:Nat→Hp→Prop
noncomputable def FpOk (X:Cx) (pins:List (Addr×Obj)) (H:Hp) (b:Addr):Prop:=
 H b=none∧b≠X.env.locals∧b∉X.fs∧(b∈X.ex∨X.s₀.heap.objs.size≤b)∧(∀x c,X.env.cells.lookup x=some c→c≠b)∧∀p∈X.pn++pins,p.1≠b
theorem Inv.fpOk {X:Cx} {pins:List (Addr×Obj)} {σ:St} {H H':Hp} {s:Shared} {b:Addr} (I:Inv X pins σ H s) (hb:s.heap.objs.size≤b) (hn:H' b=none):FpOk X pins H' b:=by
 refine⟨hn,Nat.ne_of_gt (Nat.lt_of_lt_of_le I.lt hb),I.nofs hb,.inr (Nat.le_trans I.sz hb),fun x c e z=> ?_,fun p hp z=> ?_⟩
 ·obtain⟨v,q⟩:=I.cell x c e
  exact absurd (Nat.lt_of_lt_of_le q.lt (by rw[z];exact hb)) (Nat.lt_irrefl _)
 ·exact absurd (Nat.lt_of_lt_of_le (Heap.lt_size (I.pin p hp).1) (by rw[z];exact hb)) (Nat.lt_irrefl _)
structure Turn (P:Program) (w:World) (K:PySem.W.Frag) (tg:Expr) (J:It) (fp:List Addr) (it:Addr) (tn:Nat→Heap→Prop):Prop where
 mem:it∈fp
 obj: ∀i h,tn i h→∀b∈fp,∃o,h.get? b=some o∧∀v,o.data≠ .cell v
 keep: ∀i h h',tn i h→(∀b∈fp,∀o,h.get? b=some o→h'.get? b=some o)→tn i h'
 item: ∀(X:Cx),X.prog=P→X.w=w→X.K=K→X.calm=true→∀(i:Nat) (pins:List (Addr×Obj)) (s:Shared) (σ:St) (H:Hp) (E:Value→Shared→Prop),Inv X pins σ H s→(∀b∈fp,FpOk X pins H b)→tn i s.heap→J.go i H→
  wpAny (model P w) X.A (pyNext (.ref it)) (fun r s1=> ∃u,r=some u∧
   wpAny (model P w) X.A (letOwnedTupleGo tg (.ref it) u) (fun _ s2=> ∃x H',Inv X pins σ H' s2∧RelV x u∧J.yld i H x H'∧tn (i+1) s2.heap∧∀b∈fp,H' b=none) E s1) E s
 done: ∀(X:Cx),X.prog=P→X.w=w→X.K=K→X.calm=true→∀(i:Nat) (pins:List (Addr×Obj)) (s:Shared) (σ:St) (H:Hp) (E:Value→Shared→Prop),Inv X pins σ H s→(∀b∈fp,FpOk X pins H b)→tn i s.heap→J.stop i H→
  wpAny (model P w) X.A (pyNext (.ref it)) (fun r s1=>r=none∧Inv X pins σ H s1) E s
 self: ∀(A:Around) (i:Nat) (s:Shared) (Q:Value→Shared→Prop) (E:Value→Shared→Prop),tn i s.heap→Q (.ref it) s→wpAny (model P w) A (pyIter (.ref it)) Q E s
noncomputable abbrev TI:=St→Hp→(It→Hp→Prop)→Prop
noncomputable def PIE (X:Cx) (pins:List (Addr×Obj)) (σ:St) (tg:Expr) (R:It→Hp→Prop) (itv:Value) (s2:Shared):Prop:=
 ∃(it:Addr) (fp:List Addr) (tn:Nat→Heap→Prop) (J:It) (H':Hp),itv= .ref it∧Inv X pins σ H' s2∧Turn X.prog X.w X.K tg J fp it tn∧tn 0 s2.heap∧(∀b∈fp,FpOk X pins H' b)∧R J H'
noncomputable def PI (X:Cx) (tg iter:Expr) (wi:TI):Prop:=
 ∀(pins:List (Addr×Obj)) (s:Shared) (σ:St) (H:Hp) (R:It→Hp→Prop),Inv X pins σ H s→wi σ H R→
  wpAny (model X.prog X.w) X.A (eval iter X.env) (fun v s1=>wpAny (model X.prog X.w) X.A (pyIter v) (PIE X pins σ tg R) X.xe s1) X.xe s
theorem go_of {M:Model} {A:Around} {E:Value→Shared→Prop} {s:Shared} {tg:Expr} {it:Addr} {u:Value} {o:Obj} {n:String} {vs:Array Value} {Q:Unit→Shared→Prop} (ho:s.heap.get? it=some o) (hc:o.cls= .type n) (hd:o.data= .fields vs)
  (hn:["enumerate","zip","dict_itemiterator","dict_reverseitemiterator","odict_iterator","itertools.zip_longest","itertools.pairwise"].contains n=false) (hQ:Q () s):wpAny M A (letOwnedTupleGo tg (.ref it) u) Q E s:=by
 unfold letOwnedTupleGo
 cases tg<;>first
  | exact wpAny_pure hQ
  |(cases u<;>first
    | exact wpAny_pure hQ
    |(refine wpAny_bind (wpAny_load ho ?_)
      rw[hc,hd]
      show wpAny M A (if (["enumerate","zip","dict_itemiterator","dict_reverseitemiterator","odict_iterator","itertools.zip_longest","itertools.pairwise"].contains n&&vs[0]? ==some (rawInt _))=true then _ else _) Q E s
      rw[if_neg (by intro h;rw[hn,Bool.false_and] at h;cases h)]
      exact wpAny_pure hQ))
noncomputable def Itl (K:PySem.W.Frag) (a:Addr):It:=
 ⟨fun i H=> ∃xs x,SqL K H a xs∧xs[i]? =some x,fun i H x H'=>H'=H∧∀xs,SqL K H a xs→xs[i]? =some x,fun i H=> ∃xs,SqL K H a xs∧xs.length≤i⟩
noncomputable def Itt (K:PySem.W.Frag) (a:Addr):It:=
 ⟨fun i H=> ∃xs x,SqT K H a xs∧xs[i]? =some x,fun i H x H'=>H'=H∧∀xs,SqT K H a xs→xs[i]? =some x,fun i H=> ∃xs,SqT K H a xs∧xs.length≤i⟩
noncomputable def Itr (lo:Int) (n:Nat):It:=⟨fun i _=>i<n,fun i H x H'=>H'=H∧x= .int (lo+i),fun i _=>n≤i⟩
theorem turn_list {P:Program} {w:World} {K:PySem.W.Frag} {tg:Expr} (a it:Addr):Turn P w K tg (Itl K a) [it] it (fun i h=>h.IsListIter it a i) where
 mem:=by simp
 obj:=fun i h st b hb=>by
  have e:b=it:=by simpa using hb
  subst e
  obtain⟨o,e,c,d⟩:=st
  exact⟨o,e,fun v z=>by rw[d] at z;cases z⟩
 keep:=fun i h h' st k=>st.at fun o e=>k it (by simp) o e
 item:=by
  intro X hP hw hK hc i pins s σ H E I hf st hg
  subst hP hw hK
  obtain⟨xs,x,hq,hx⟩:=hg
  obtain⟨its,rv,p,hz⟩:=I.list hq
  obtain⟨u,hu,ru⟩:=rv.get hx
  obtain⟨f0,f1,f2,f3,f4,f5⟩:=hf it (by simp)
  refine wpAny_pyNext_list_item st p.isList (x:=u) (by simpa using hu) fun h' st' sb=> ?_
  have I1:Inv X pins σ H {s with heap:=h'}:=I.turned (t':=s.toks) (fun b o hb e=>(sb.2 b hb).trans e) f0 f1 f3 f4 f5
  obtain⟨o,e,c,d⟩:=id st'
  exact⟨u,rfl,go_of (s:={s with heap:=h'}) e c d (by decide) ⟨x,H,I1,ru,⟨rfl,fun ys hy=>by rw[I.list_inj hy hq];exact hx⟩,st',fun b hb=>(hf b hb).1⟩⟩
 done:=by
  intro X hP hw hK hc i pins s σ H E I hf st hg
  subst hP hw hK
  obtain⟨xs,hq,hx⟩:=hg
  obtain⟨its,rv,p,hz⟩:=I.list hq
  obtain⟨f0,f1,f2,f3,f4,f5⟩:=hf it (by simp)
  have hl:=rv.length
  exact wpAny_pyNext_list_end (I.ok.hd hc) st p.isList (by simp;omega) fun h' eb=>⟨rfl,I.turned (t':=s.toks) (fun b o hb e=>eb b o hb e) f0 f1 f3 f4 f5⟩
 self:=fun _ _ _ _ _ st h=>wpAny_pyIter_listiter st h
theorem turn_tuple {P:Program} {w:World} {K:PySem.W.Frag} {tg:Expr} (a it:Addr):Turn P w K tg (Itt K a) [it] it (fun i h=>h.IsTupleIter it a i) where
 mem:=by simp
 obj:=fun i h st b hb=>by
  have e:b=it:=by simpa using hb
  subst e
  obtain⟨o,e,c,d⟩:=st
  exact⟨o,e,fun v z=>by rw[d] at z;cases z⟩
 keep:=fun i h h' st k=>st.at fun o e=>k it (by simp) o e
 item:=by
  intro X hP hw hK hc i pins s σ H E I hf st hg
  subst hP hw hK
  obtain⟨xs,x,hq,hx⟩:=hg
  obtain⟨its,rv,p,hz⟩:=I.tuple hq
  obtain⟨u,hu,ru⟩:=rv.get hx
  obtain⟨f0,f1,f2,f3,f4,f5⟩:=hf it (by simp)
  refine wpAny_pyNext_tuple_item st (show s.heap.IsTuple a its.toArray from p) (x:=u) (by simpa using hu) fun h' st' sb=> ?_
  have I1:Inv X pins σ H {s with heap:=h'}:=I.turned (t':=s.toks) (fun b o hb e=>(sb.2 b hb).trans e) f0 f1 f3 f4 f5
  obtain⟨o,e,c,d⟩:=id st'
  exact⟨u,rfl,go_of (s:={s with heap:=h'}) e c d (by decide) ⟨x,H,I1,ru,⟨rfl,fun ys hy=>by rw[I.tuple_inj hy hq];exact hx⟩,st',fun b hb=>(hf b hb).1⟩⟩
 done:=by
  intro X hP hw hK hc i pins s σ H E I hf st hg
  subst hP hw hK
  obtain⟨xs,hq,hx⟩:=hg
  obtain⟨its,rv,p,hz⟩:=I.tuple hq
  obtain⟨f0,f1,f2,f3,f4,f5⟩:=hf it (by simp)
  have hl:=rv.length
  exact wpAny_pyNext_tuple_end (I.ok.hd hc) st (show s.heap.IsTuple a its.toArray from p) (by simp;omega) fun h' eb=>⟨rfl,I.turned (t':=s.toks) (fun b o hb e=>eb b o hb e) f0 f1 f3 f4 f5⟩
 self:=fun _ _ _ _ _ st h=>wpAny_pyIter_tupleiter st h
theorem turn_range {P:Program} {w:World} {K:PySem.W.Frag} {tg:Expr} (it:Addr) (lo:Int) (n:Nat):Turn P w K tg (Itr lo n) [it] it (fun i h=>IsRangeIter h it (lo+(i:Nat)*1) ((n:Int)-(i:Nat)) 1) where
 mem:=by simp
 obj:=fun i h st b hb=>by
  have e:b=it:=by simpa using hb
  subst e
  exact⟨_,st,fun v z=>by
   have z':Data.fields _=Data.cell v:=z
   cases z'⟩
 keep:=fun i h h' st k=>k it (by simp) _ st
 item:=by
  intro X hP hw hK hc i pins s σ H E I hf st hg
  subst hP hw hK
  obtain⟨f0,f1,f2,f3,f4,f5⟩:=hf it (by simp)
  have W:=Walks.range (prog:=X.prog) (w:=X.w) (I.ok.hd hc) it lo 1 n
  refine W.item i s _ _ hg st fun v h' tk hv st' kk=> ?_
  obtain⟨t,rfl⟩:=hv
  have I1:Inv X pins σ H {s with heap:=h',toks:=tk}:=I.turned (fun b o hb e=>kk b o (by simpa using hb) e) f0 f1 f3 f4 f5
  refine⟨_,rfl,go_of (s:={s with heap:=h',toks:=tk}) (n:="range_iterator") st' rfl rfl (by decide) ⟨.int (lo+i),H,I1,⟨t,?_⟩,⟨rfl,rfl⟩,st',fun b hb=>(hf b hb).1⟩⟩
  rw[Int.mul_one]
 done:=by
  intro X hP hw hK hc i pins s σ H E I hf st hg
  subst hP hw hK
  obtain⟨f0,f1,f2,f3,f4,f5⟩:=hf it (by simp)
  exact wpAny_pyNext_range_end (I.ok.hd hc) st (by have:n≤i:=hg;omega) fun h' eb=>⟨rfl,I.turned (t':=s.toks) (fun b o hb e=>eb b o hb e) f0 f1 f3 f4 f5⟩
 self:=fun _ _ _ _ _ st h=>wpAny_pyIter_rangeiter st h
section
variable {X:Cx} {tg:Expr}
theorem range_it {pins:List (Addr×Obj)} {σ:St} {H:Hp} {s:Shared} {R:It→Hp→Prop} {E:Value→Shared→Prop} {lo hi:Int} {t u v:Tok} {tk:Nat} (I:Inv X pins σ H s) (h1: -(2^62)≤lo) (h2:lo<2^62) (h3: -(2^62)≤hi) (h4:hi<2^62)
  (q:R (Itr lo (hi-lo).toNat) H):wpAny (model X.prog X.w) X.A (pyIter (.ref s.heap.objs.size)) (PIE X pins σ tg R) E {s with heap:=s.heap.push {cls:= .type "range",data:= .fields #[.int lo t,.int hi u,.int 1 v]},toks:=tk}:=by
 refine wpAny_pyIter_range (IsRange.new ..) (small_one h1 h2 h3 h4) ?_
 have I1:Inv X pins σ H {s with heap:=s.heap.push {cls:= .type "range",data:= .fields #[.int lo t,.int hi u,.int 1 v]},toks:=tk}:=I.kept fun b o e=>Heap.get?_push_of_some _ e
 refine⟨(s.heap.push {cls:= .type "range",data:= .fields #[.int lo t,.int hi u,.int 1 v]}).objs.size,[(s.heap.push {cls:= .type "range",data:= .fields #[.int lo t,.int hi u,.int 1 v]}).objs.size],_,_,H,rfl,
  I1.kept (t':=tk) fun b o e=>Heap.get?_push_of_some _ e,turn_range _ lo (hi-lo).toNat,?_,fun b hb=> ?_,q⟩
 ·have e1:lo+((0:Nat):Int)*1=lo:=by simp
  have e2:(((hi-lo).toNat:Nat):Int)-((0:Nat):Int)=Builtin.Range.rangeSize lo hi 1:=by rw[rangeSize_one];split<;>omega
  show IsRangeIter _ _ (lo+((0:Nat):Int)*1) ((((hi-lo).toNat:Nat):Int)-((0:Nat):Int)) 1
  rw[e1,e2]
  exact Heap.get?_push_size _ rfl
 ·have e:b=(s.heap.push {cls:= .type "range",data:= .fields #[.int lo t,.int hi u,.int 1 v]}).objs.size:=by simpa using hb
  subst e
  exact I1.fpOk (Nat.le_refl _) (I1.hok.fresh (Nat.le_refl _))
noncomputable def iRng1 (ta:TA):TI:=fun σ H R=>ta σ H fun vs H1=> ∃j:Int,vs=[.int j]∧ -(2^62)≤j∧j<2^62∧R (Itr 0 j.toNat) H1
theorem pi_range1 {a:Expr} {ta:TA} {p pos:Pos} (hg:Gl X "range") (hm:X.mg "range"=none) (ha:PA X [a] ta) (hs:starEach [a] X.env=[(false,eval a X.env)]:=by rfl):PI X tg (.Call (.Name "range" p) [a] [] pos) (iRng1 ta):=by
 intro pins s σ H R I h
 refine Call_ (ld_blt I hg hm boot_range (PyProof.Rows.callWith_type1 (thn (ha pos pins s σ H _ I h) fun us s1 ⟨vs,H1,I1,r1,q1⟩=> ?_) hs rfl))
 obtain⟨j,e,q1,q2,q⟩:=q1
 subst e
 cases r1 with
 | cons r rr=>
  cases rr
  obtain⟨t,rfl⟩:=r
  exact call_range_1 (range_it I1 (by omega) (by omega) q1 q2 (by simpa using q))
noncomputable def tFor (wi:TI) (g:TG) (tb:TS):TS:=fun D σ H=>wi σ H fun J H1=> ∃W:Nat→Nat→St→Hp→Prop,(∃m,W 0 m σ H1)∧∀i m σ H,W i m σ H→
 (J.stop i H∧D.nx σ H)∨(J.go i H∧∃N:St→Hp→Prop,(∀σ' H',N σ' H'→∃m',m'<m∧W (i+1) m' σ' H')∧∀x H',J.yld i H x H'→g x σ H' fun σ2 H2=>tb {D with nx:=N,ct:=N,bk:=D.nx} σ2 H2)
noncomputable def pinsAt (fp:List Addr) (h:Heap):List (Addr×Obj):=fp.filterMap fun b=>(h.get? b).map fun o=>(b,o)
theorem mem_pinsAt {fp:List Addr} {h:Heap} {b:Addr} {o:Obj} (hb:b∈fp) (e:h.get? b=some o):(b,o)∈pinsAt fp h:=List.mem_filterMap.mpr ⟨b,hb,by rw[e];rfl⟩
theorem of_pinsAt {fp:List Addr} {h:Heap} {p:Addr×Obj} (hp:p∈pinsAt fp h):p.1∈fp∧h.get? p.1=some p.2:=by
 obtain⟨b,hb,e⟩:=List.mem_filterMap.mp hp
 cases q:h.get? b with
 | none=>rw[q] at e;cases e
 | some o=>
  rw[q] at e
  have e':(b,o)=p:=Option.some.inj e
  subst e'
  exact⟨hb,q⟩
theorem Inv.pinned {pins:List (Addr×Obj)} {σ:St} {H:Hp} {s:Shared} {fp:List Addr} (I:Inv X pins σ H s) (hf: ∀b∈fp,FpOk X pins H b) (ho: ∀b∈fp,∃o,s.heap.get? b=some o∧∀v,o.data≠ .cell v):Inv X (pins++pinsAt fp s.heap) σ H s:=
 I.pins_of fun p hp=>(List.mem_append.mp hp).elim (fun z=>I.pin p (List.mem_append_right _ z)) fun z=>by
  obtain⟨hb,e⟩:=of_pinsAt z
  obtain⟨f0,f1,f2,_⟩:=hf p.1 hb
  obtain⟨o,e',d⟩:=ho p.1 hb
  rw[e] at e';cases e'
  exact⟨e,f0,f1,f2,d⟩
theorem Inv.unpinned {pins pl:List (Addr×Obj)} {σ:St} {H:Hp} {s:Shared} (I:Inv X (pins++pl) σ H s):Inv X pins σ H s:=I.pins_of fun p hp=>I.pin p (List.mem_append_right _ (List.mem_append_left _ hp))
theorem ps_for {iter:Expr} {body:List Stmt} {wi:TI} {g:TG} {tb:TS} {pos:Pos} (hp:PassesOwn (model X.prog X.w) X.A X.env X.xe) (hc:X.calm=true) (hi:PI X tg iter wi) (hg:PG X tg g) (hb:PSs X body tb)
  (hs: ∀x,foldedSetIterable iter X.env x=pure x:=by intro _;rfl):PS X (.For tg iter body [] pos) (tFor wi g tb):=by
 intro pins s σ H D I h
 refine wpAny_For (thn (hi pins s σ H _ I h) fun v s1 h1=>thn h1 fun itv s2 h2=> ?_) hs
 obtain⟨it,fp,tn,J,H2,e,I2,T,st2,f2,W,⟨m0,w0⟩,turn⟩:=h2
 subst e
 have stat: ∀{H':Hp},(∀b∈fp,H' b=none)→∀b∈fp,FpOk X pins H' b:=fun hn b hb=>⟨hn b hb,(f2 b hb).2⟩
 refine codeAny_forLoop_any (fun n s'=> ∃i σ' H',Inv X pins σ' H' s'∧tn i s'.heap∧(∀b∈fp,H' b=none)∧W i n σ' H') ?_ m0 ⟨0,σ,H2,I2,st2,fun b hb=>(f2 b hb).1,w0⟩
 rintro n s3 ⟨i,σ3,H3,I3,st3,fr3,w3⟩
 rcases turn i n σ3 H3 w3 with⟨stop,qn⟩ |⟨go,N,hN,step⟩
 ·refine wpAny_passesOwn hp (thn (T.done X rfl rfl rfl hc i pins s3 σ3 H3 X.xe I3 (stat fr3) st3 stop) fun r s4 ⟨hr,I4⟩=> ?_)
  subst hr
  exact wpAny_execs_nil ⟨σ3,H3,I4,qn⟩
 ·refine wpAny_passesOwn hp (thn (T.item X rfl rfl rfl hc i pins s3 σ3 H3 X.xe I3 (stat fr3) st3 go) fun r s4 ⟨u,hr,h4⟩=> ?_)
  subst hr
  refine wpAny_passesOwn hp (thn h4 fun _ s5 ⟨x,H5,I5,r5,y5,st5,fr5⟩=> ?_)
  have I5':=I5.pinned (stat fr5) (T.obj _ _ st5)
  refine wpAny_passesOwn hp (thn (hg _ s5 σ3 H5 x u _ I5' r5 (step x H5 y5)) fun _ s6 ⟨σ6,H6,I6,q6⟩=> ?_)
  refine wpAny_passesOwn hp (thn (hb _ s6 σ6 H6 _ I6 q6) fun f s7 q7=> ?_)
  have again: ∀{σ7:St} {H7:Hp},Inv X (pins++pinsAt fp s5.heap) σ7 H7 s7→N σ7 H7→∃m,m<n∧∃i σ' H',Inv X pins σ' H' s7∧tn i s7.heap∧(∀b∈fp,H' b=none)∧W i m σ' H':=fun {σ7 H7} I7 n7=>by
   obtain⟨m',hm,w7⟩:=hN σ7 H7 n7
   refine⟨m',hm,i+1,σ7,H7,I7.unpinned,T.keep _ _ _ st5 fun b hb o e=>(I7.pin (b,o) (List.mem_append_right _ (List.mem_append_right _ (mem_pinsAt hb e)))).1,fun b hb=> ?_,w7⟩
   obtain⟨o,e,d⟩:=T.obj _ _ st5 b hb
   exact (I7.pin (b,o) (List.mem_append_right _ (List.mem_append_right _ (mem_pinsAt hb e)))).2.1
  cases f with
  | next=>obtain⟨σ7,H7,I7,n7⟩:=q7;exact again I7 n7
  | cont=>obtain⟨σ7,H7,I7,n7⟩:=q7;exact again I7 n7
  | brk=>obtain⟨σ7,H7,I7,q7⟩:=q7;exact⟨σ7,H7,I7.unpinned,q7⟩
  | ret v=>obtain⟨x7,σ7,H7,I7,r7,q7⟩:=q7;exact⟨x7,σ7,H7,I7.unpinned,r7,q7⟩
end
noncomputable abbrev R2:=V→V→Hp→VK→Prop
noncomputable def OpR (X:Cx) (f:Value→Value→Sem Value) (r:R2):Prop:=
 ∀(pins:List (Addr×Obj)) (s:Shared) (σ:St) (H:Hp) (x y:V) (v u:Value) (Q:VK),Inv X pins σ H s→RelV x v→RelV y u→r x y H Q→
  wpAny (model X.prog X.w) X.A (f v u) (EP X pins σ Q) X.xe s
noncomputable def CallR (X:Cx) (f:Value) (r:List V→Hp→VK→Prop):Prop:=
 ∀(pins:List (Addr×Obj)) (s:Shared) (σ:St) (H:Hp) (xs:List V) (us:List Value) (Q:VK),Inv X pins σ H s→Vals xs us→r xs H Q→
  wpAny (model X.prog X.w) X.A (call f us) (EP X pins σ Q) X.xe s
noncomputable def TruR (X:Cx) (r:V→Hp→(Bool→Hp→Prop)→Prop):Prop:=
 ∀(pins:List (Addr×Obj)) (s:Shared) (σ:St) (H:Hp) (x:V) (v:Value) (Q:Bool→Hp→Prop),Inv X pins σ H s→RelV x v→r x H Q→
  wpAny (model X.prog X.w) X.A (truthy v) (TP X pins σ Q) X.xe s
noncomputable def tOp (r:R2) (ta tb:TE):TE:=fun σ H Q=>ta σ H fun x H1=>tb σ H1 fun y H2=>r x y H2 Q
noncomputable def rI (C:Int→Int→Prop) (g:Int→Int→V):R2:=fun x y H Q=> ∃i j,x= .int i∧y= .int j∧C i j∧Q (g i j) H
noncomputable def rI0 (g:Int→Int→V):R2:=fun x y H Q=> ∃i j,x= .int i∧y= .int j∧Q (g i j) H
section
variable {X:Cx} {a b c:Expr} {ta tb tc:TE} {pos:Pos}
theorem binT (ha:PE X a ta) (hb:PE X b tb) {pins:List (Addr×Obj)} {s:Shared} {σ:St} {H:Hp} {R:V→V→Hp→Prop} (I:Inv X pins σ H s)
  (h:ta σ H fun x H1=>tb σ H1 fun y H2=>R x y H2) {Q:Value→Shared→Prop} {f:Value→Value→Sem Value}
  (hf: ∀v u s2 x y H2,Inv X pins σ H2 s2→RelV x v→RelV y u→R x y H2→wpAny (model X.prog X.w) X.A (f v u) Q X.xe s2):
  wpAny (model X.prog X.w) X.A (eval a X.env) (fun v s₁=>wpAny (model X.prog X.w) X.A (eval b X.env) (fun u s₂=>wpAny (model X.prog X.w) X.A (f v u) Q X.xe s₂) X.xe s₁) X.xe s:=by
 refine thn (ha pins s σ H _ I h) fun v s1 ⟨x,H1,I1,r1,q1⟩=> ?_
 refine thn (hb pins s1 σ H1 _ I1 q1) fun u s2 ⟨y,H2,I2,r2,q2⟩=> ?_
 exact hf v u s2 x y H2 I2 r1 r2 q2
theorem pe_op {op:Operator} {r:R2} (ho:OpR X (binaryOp op) r) (ha:PE X a ta) (hb:PE X b tb):PE X (.BinOp a op b pos) (tOp r ta tb):=by
 intro pins s σ H Q I h
 exact wpAny_BinOp (binT ha hb I h fun v u s2 x y H2 I2 rx ry q=>ho pins s2 σ H2 x y v u Q I2 rx ry q)
theorem opI {f:Value→Value→Sem Value} {C:Int→Int→Prop} {g:Int→Int→Int}
  (rule: ∀(i j:Int) (t u:Tok) (s:Shared) (Q:Value→Shared→Prop) (E:Value→Shared→Prop),C i j→Q (.int (g i j) s.toks) {s with toks:=s.toks+1}→wpAny (model X.prog X.w) X.A (f (.int i t) (.int j u)) Q E s):
  OpR X f (rI C fun i j=> .int (g i j)):=by
 intro pins s σ H x y v u Q I rx ry h
 obtain⟨i,j,rfl,rfl,hc,q⟩:=h
 obtain⟨t,rfl⟩:=rx
 obtain⟨t',rfl⟩:=ry
 exact rule i j t t' s _ _ hc ⟨.int (g i j),H,I.tok _,⟨_,rfl⟩,q⟩
theorem opI0 {f:Value→Value→Sem Value} {g:Int→Int→Int}
  (rule: ∀(i j:Int) (t u:Tok) (s:Shared) (Q:Value→Shared→Prop) (E:Value→Shared→Prop),Q (.int (g i j) s.toks) {s with toks:=s.toks+1}→wpAny (model X.prog X.w) X.A (f (.int i t) (.int j u)) Q E s):
  OpR X f (rI0 fun i j=> .int (g i j)):=by
 intro pins s σ H x y v u Q I rx ry h
 obtain⟨i,j,rfl,rfl,q⟩:=h
 obtain⟨t,rfl⟩:=rx
 obtain⟨t',rfl⟩:=ry
 exact rule i j t t' s _ _ ⟨.int (g i j),H,I.tok _,⟨_,rfl⟩,q⟩
theorem opB0 {f:Value→Value→Sem Value} {g:Int→Int→Bool}
  (rule: ∀(i j:Int) (t u:Tok) (s:Shared) (Q:Value→Shared→Prop) (E:Value→Shared→Prop),Q (.bool (g i j)) s→wpAny (model X.prog X.w) X.A (f (.int i t) (.int j u)) Q E s):
  OpR X f (rI0 fun i j=> .bl (g i j)):=by
 intro pins s σ H x y v u Q I rx ry h
 obtain⟨i,j,rfl,rfl,q⟩:=h
 obtain⟨t,rfl⟩:=rx
 obtain⟨t',rfl⟩:=ry
 exact rule i j t t' s _ _ ⟨.bl (g i j),H,I,rfl,q⟩
noncomputable def CDiv (i j:Int):Prop:=0<j∧j<1073741824
noncomputable def CPow (i j:Int):Prop:=0≤j∧j≤1000000∧i.natAbs<2^64
theorem op_add:OpR X (binaryOp .Add) (rI0 fun i j=> .int (i+j)):=opI0 fun _ _ _ _ _ _ _ q=>add_int q
theorem op_sub:OpR X (binaryOp .Sub) (rI0 fun i j=> .int (i-j)):=opI0 fun _ _ _ _ _ _ _ q=>sub_int q
theorem op_fdiv:OpR X (binaryOp .FloorDiv) (rI CDiv fun i j=> .int (i/j)):=opI fun i j _ _ _ _ _ hc q=>by
 have h1:(0:Int)<j:=hc.1
 have h2:j<1073741824:=hc.2
 exact floordiv_int (by omega) (by rw[Int.fdiv_eq_ediv_of_nonneg i (by omega)];exact q) (.inl (PyProof.noPylong_small (by omega)))
theorem op_mod:OpR X (binaryOp .Mod) (rI (fun _ j=>0<j) fun i j=> .int (i%j)):=opI fun i j _ _ _ _ _ hc q=>by
 have h1:(0:Int)<j:=hc
 exact mod_int' (by omega) (by rw[Int.fmod_eq_emod_of_nonneg i (by omega)];exact q)
theorem op_pow:OpR X (binaryOp .Pow) (rI CPow fun i j=> .int (i^j.toNat)):=opI fun _ _ _ _ _ _ _ hc q=>pow_int_small hc.1 hc.2.1 hc.2.2 q
end
noncomputable def scal:V→V→Bool
 | .non,.non=>true | .non,.int _=>true | .int _,.non=>true | .non,.bl _=>true | .bl _,.non=>true | .non,.str _=>true | .str _,.non=>true
 | .int _,.int _=>true | .bl _,.bl _=>true | .str _,.str _=>true | .byt _,.byt _=>true
 | .int _,.str _=>true | .str _,.int _=>true | .bl _,.str _=>true | .str _,.bl _=>true
 | _,_=>false
noncomputable def rEq:R2:=fun x y H Q=>scal x y=true∧Q (.bl (decide (x=y))) H
noncomputable def rNe:R2:=fun x y H Q=>scal x y=true∧Q (.bl (!decide (x=y))) H
theorem dec_int {i j:Int}:decide (V.int i=V.int j)=(i==j):=by
 rw[Bool.eq_iff_iff]
 simp
theorem dec_bl {i j:Bool}:decide (V.bl i=V.bl j)=(i==j):=by
 rw[Bool.eq_iff_iff]
 simp
theorem dec_str {i j:Str}:decide (V.str i=V.str j)=(i==j):=by
 rw[Bool.eq_iff_iff]
 simp
theorem dec_byt {i j:Array UInt8}:decide (V.byt i=V.byt j)=(i.toList==j.toList):=by
 rw[Bool.eq_iff_iff]
 cases i
 cases j
 simp
section
variable {X:Cx} {a b c:Expr} {ta tb tc:TE} {pos:Pos}
theorem aB6 {pins:List (Addr×Obj)} {σ:St} {H:Hp} {s:Shared} {Q:VK} {k k':Bool} (I:Inv X pins σ H s) (q:Q (.bl k) H) (e:k=k'):EP X pins σ Q (.bool k') s:=by
 subst e
 exact⟨.bl k,H,I,rfl,q⟩
theorem op_eq:OpR X (compareOp .Eq) rEq:=by
 intro pins s σ H x y v u Q I rx ry h
 obtain⟨hs,q⟩:=h
 cases x with
 | non=>
  cases rx
  cases y with
  | non=>cases ry;exact PySem.EqNone.eq_none_none (aB6 I q (by simp))
  | bl j=>cases ry;exact PySem.EqNone.eq_none_bool (aB6 I q (by simp))
  | int j=>obtain⟨t',rfl⟩:=ry;exact PySem.EqNone.eq_none_int (aB6 I q (by simp))
  | str j=>obtain⟨t',rfl⟩:=ry;exact PySem.EqNone.eq_none_str (aB6 I q (by simp))
  | _=>exact absurd (show false=true from hs) Bool.false_ne_true
 | bl i=>
  cases rx
  cases y with
  | non=>cases ry;exact PySem.EqNone.eq_bool_none (aB6 I q (by simp))
  | bl j=>cases ry;exact eq_bool (aB6 I q dec_bl)
  | str j=>obtain⟨t',rfl⟩:=ry;exact PySem.EqMixed.eq_bool_str (aB6 I q (by simp))
  | _=>exact absurd (show false=true from hs) Bool.false_ne_true
 | int i=>
  obtain⟨t,rfl⟩:=rx
  cases y with
  | non=>cases ry;exact PySem.EqNone.eq_int_none (aB6 I q (by simp))
  | int j=>obtain⟨t',rfl⟩:=ry;exact eq_int (aB6 I q dec_int)
  | str j=>obtain⟨t',rfl⟩:=ry;exact PySem.EqMixed.eq_int_str (aB6 I q (by simp))
  | _=>exact absurd (show false=true from hs) Bool.false_ne_true
 | str i=>
  obtain⟨t,rfl⟩:=rx
  cases y with
  | non=>cases ry;exact PySem.EqNone.eq_str_none (aB6 I q (by simp))
  | bl j=>cases ry;exact PySem.EqMixed.eq_str_bool (aB6 I q (by simp))
  | int j=>obtain⟨t',rfl⟩:=ry;exact PySem.EqMixed.eq_str_int (aB6 I q (by simp))
  | str j=>obtain⟨t',rfl⟩:=ry;exact eq_str (aB6 I q dec_str)
  | _=>exact absurd (show false=true from hs) Bool.false_ne_true
 | byt i=>
  obtain⟨t,rfl⟩:=rx
  cases y with
  | byt j=>obtain⟨t',rfl⟩:=ry;exact PySem.W.eq_bytes (aB6 I q dec_byt)
  | _=>exact absurd (show false=true from hs) Bool.false_ne_true
 | _=>cases y<;>exact absurd (show false=true from hs) Bool.false_ne_true
theorem op_ne:OpR X (compareOp .NotEq) rNe:=by
 intro pins s σ H x y v u Q I rx ry h
 obtain⟨hs,q⟩:=h
 cases x with
 | non=>
  cases rx
  cases y with
  | non=>cases ry;exact PySem.EqNone.ne_none_none (aB6 I q (by simp))
  | bl j=>cases ry;exact PySem.EqNone.ne_none_bool (aB6 I q (by simp))
  | int j=>obtain⟨t',rfl⟩:=ry;exact PySem.EqNone.ne_none_int (aB6 I q (by simp))
  | str j=>obtain⟨t',rfl⟩:=ry;exact PySem.EqNone.ne_none_str (aB6 I q (by simp))
  | _=>exact absurd (show false=true from hs) Bool.false_ne_true
 | bl i=>
  cases rx
  cases y with
  | non=>cases ry;exact PySem.EqNone.ne_bool_none (aB6 I q (by simp))
  | bl j=>cases ry;exact ne_bool (aB6 I q (congrArg not dec_bl))
  | str j=>obtain⟨t',rfl⟩:=ry;exact PySem.EqMixed.ne_bool_str (aB6 I q (by simp))
  | _=>exact absurd (show false=true from hs) Bool.false_ne_true
 | int i=>
  obtain⟨t,rfl⟩:=rx
  cases y with
  | non=>cases ry;exact PySem.EqNone.ne_int_none (aB6 I q (by simp))
  | int j=>obtain⟨t',rfl⟩:=ry;exact ne_int (aB6 I q (congrArg not dec_int))
  | str j=>obtain⟨t',rfl⟩:=ry;exact PySem.EqMixed.ne_int_str (aB6 I q (by simp))
  | _=>exact absurd (show false=true from hs) Bool.false_ne_true
 | str i=>
  obtain⟨t,rfl⟩:=rx
  cases y with
  | non=>cases ry;exact PySem.EqNone.ne_str_none (aB6 I q (by simp))
  | bl j=>cases ry;exact PySem.EqMixed.ne_str_bool (aB6 I q (by simp))
  | int j=>obtain⟨t',rfl⟩:=ry;exact PySem.EqMixed.ne_str_int (aB6 I q (by simp))
  | str j=>obtain⟨t',rfl⟩:=ry;exact ne_str (aB6 I q (congrArg not dec_str))
  | _=>exact absurd (show false=true from hs) Bool.false_ne_true
 | byt i=>
  obtain⟨t,rfl⟩:=rx
  cases y with
  | byt j=>obtain⟨t',rfl⟩:=ry;exact PySem.W.ne_bytes (aB6 I q (congrArg not dec_byt))
  | _=>exact absurd (show false=true from hs) Bool.false_ne_true
 | _=>cases y<;>exact absurd (show false=true from hs) Bool.false_ne_true
theorem op_lt:OpR X (compareOp .Lt) (rI0 fun i j=> .bl (decide (i<j))):=opB0 fun _ _ _ _ _ _ _ q=>lt_int q
theorem op_gt:OpR X (compareOp .Gt) (rI0 fun i j=> .bl (decide (j<i))):=opB0 fun _ _ _ _ _ _ _ q=>gt_int q
theorem OpR.or {f:Value→Value→Sem Value} {r r':R2} (h:OpR X f r) (h':OpR X f r'):OpR X f (fun x y H Q=>r x y H Q∨r' x y H Q):=by
 intro pins s σ H x y v u Q I rx ry q
 rcases q with q | q
 ·exact h pins s σ H x y v u Q I rx ry q
 ·exact h' pins s σ H x y v u Q I rx ry q
theorem nomark (b:Expr) {op:CmpOp} (h:op≠ .In:=by decide) (h2:op≠ .NotIn:=by decide):behindInMarks op b=false:=by
 have e1:(op==CmpOp.In)=false:=by cases op<;>first | rfl | exact absurd rfl h
 have e2:(op==CmpOp.NotIn)=false:=by cases op<;>first | rfl | exact absurd rfl h2
 cases b<;>simp[behindInMarks,e1,e2]
theorem pe_cmpR {op:CmpOp} {r:R2} (ho:OpR X (compareOp op) r) (ha:PE X a ta) (hb:PE X b tb) (hm:behindInMarks op b=false):PE X (.Compare a [op] [b] pos) (tOp r ta tb):=by
 intro pins s σ H Q I h
 exact wpAny_Compare1 (binT ha hb I h fun v u s2 x y H2 I2 rx ry q=>ho pins s2 σ H2 x y v u Q I2 rx ry q) hm
noncomputable def tTest (t:TE):TT:=fun σ H Q=>t σ H fun x H'=> ∃k,x= .bl k∧Q k H'
theorem pt_cmpR {op:CmpOp} {r:R2} (ho:OpR X (compareOp op) r) (ha:PE X a ta) (hb:PE X b tb) (hm:behindInMarks op b=false):PT X (.Compare a [op] [b] pos) (tTest (tOp r ta tb)):=by
 intro pins s σ H Q I h
 refine wpAny_isTrue_Compare1 (thn (ha pins s σ H _ I h) fun v s1 ⟨x,H1,I1,r1,q1⟩=>thn (hb pins s1 σ H1 _ I1 q1) fun u s2 ⟨y,H2,I2,r2,q2⟩=>
  thn (ho pins s2 σ H2 x y v u _ I2 r1 r2 q2) fun c s3 ⟨z,H3,I3,r3,k,e,q3⟩=> ?_) hm
 subst e
 cases r3
 exact wpAny_truthy_bool ⟨H3,I3,q3⟩
noncomputable def TruV (K:PySem.W.Frag) (x:V) (H:Hp) (k:Bool):Prop:=
 match x with
 | .non=>k=false
 | .bl b=>k=b
 | .int i=>k=(i !=0)
 | .str y=>y.length≤sizeLine∧k=((y.length:Int) !=0)
 | .byt y=>y.size≤sizeLine∧k=((y.size:Int) !=0)
 | .ref p=>(∃xs,SqL K H p xs∧k= !xs.isEmpty)∨(∃xs,SqT K H p xs∧k= !xs.isEmpty)∨∃kvs,H p=some (.dK kvs)∧k= !kvs.isEmpty
 | _=>False
theorem isEmpty_kv {κ:Type} {kvs:List (κ×V)} {vs:List (κ×Value)} (r:KV kvs vs):(!vs.isEmpty)= !kvs.isEmpty:=by
 cases r<;>rfl
theorem isEmpty_of {xs:List V} {its:List Value} (r:Vals xs its):(!its.toArray.isEmpty)= !xs.isEmpty:=by
 cases r<;>simp
theorem line63:(sizeLine:Nat)<2^63:=by rw[sizeLine_eq];decide
theorem tru_ok:TruR X (fun x H Q=> ∃k,TruV X.K x H k∧Q k H):=by
 intro pins s σ H x v Q I rx h
 obtain⟨k,e,q⟩:=h
 have hl:=line63
 have hs:sizeLine=16777216:=sizeLine_eq
 cases x with
 | non=>
  cases rx
  have e':k=false:=e
  subst e'
  exact truthy_none ⟨H,I,q⟩
 | bl b=>
  cases rx
  have e':k=b:=e
  subst e'
  exact wpAny_truthy_bool ⟨H,I,q⟩
 | int i=>
  obtain⟨t,rfl⟩:=rx
  have e':k=(i !=0):=e
  subst e'
  exact PySem.P.truthy_int ⟨H,I,q⟩
 | str y=>
  obtain⟨t,rfl⟩:=rx
  obtain⟨hy,e'⟩:y.length≤sizeLine∧k=((y.length:Int) !=0):=e
  subst e'
  exact PySem.P.truthy_str (by omega) ⟨H,I.tok _,q⟩
 | byt y=>
  obtain⟨t,rfl⟩:=rx
  obtain⟨hy,e'⟩:y.size≤sizeLine∧k=((y.size:Int) !=0):=e
  subst e'
  exact PySem.W.truthy_bytes (by omega) ⟨H,I.tok _,q⟩
 | ref p=>
  cases rx
  have e':(∃xs,SqL X.K H p xs∧k= !xs.isEmpty)∨(∃xs,SqT X.K H p xs∧k= !xs.isEmpty)∨∃kvs,H p=some (.dK kvs)∧k= !kvs.isEmpty:=e
  rcases e' with⟨xs,hx,e'⟩ |⟨xs,hx,e'⟩ |⟨kvs,hx,e'⟩
  ·subst e'
   obtain⟨its,r,pl,hz⟩:=I.list hx
   have hlen:=r.length
   exact wpAny_truthy_list pl.isList (by simp only[List.size_toArray];omega) ⟨H,I.tok _,by rw[isEmpty_of r];exact q⟩
  ·subst e'
   obtain⟨its,r,pl,hz⟩:=I.tuple hx
   have hlen:=r.length
   exact truthy_tuple pl (by simp only[List.size_toArray];omega) ⟨H,I.tok _,by rw[isEmpty_of r];exact q⟩
  ·subst e'
   obtain⟨hz,hS,vs,r,m⟩:kvs.length≤sizeLine∧(p==sysModules)=false∧∃vs,KV kvs vs∧s.heap.DictOf (mixKind X.prog X.w) p vs:=I.hok p _ hx
   have hlen:kvs.length=vs.length:=Paired.length r
   exact wpAny_truthy_dict hS m (by omega) ⟨H,I.tok _,by rw[isEmpty_kv r];exact q⟩
 | _=>exact (show False from e).elim
theorem pt_truth (ha:PE X a ta) (he: ∀whole,isTrue a X.env whole=(do let v←whole;standAt a.pos;holding [v] (truthy v))):
  PT X a (fun σ H Q=>ta σ H fun x H'=> ∃k,TruV X.K x H' k∧Q k H'):=by
 intro pins s σ H Q I h
 exact isTrue_plain (thn (ha pins s σ H _ I h) fun v s1 ⟨x,H1,I1,r1,q1⟩=>tru_ok pins s1 σ H1 x v Q I1 r1 q1) (he _)
theorem op_add_str:OpR X (binaryOp .Add) (fun x y H Q=> ∃i j,x= .str i∧y= .str j∧i.length+j.length≤sizeLine∧Q (.str (i++j)) H):=by
 intro pins s σ H x y v u Q I rx ry h
 obtain⟨i,j,rfl,rfl,hz,q⟩:=h
 obtain⟨t,rfl⟩:=rx
 obtain⟨t',rfl⟩:=ry
 exact add_str (fun t' tk=>⟨.str (i++j),H,I.tok _,⟨_,rfl⟩,q⟩) hz
theorem vals1 {x:V} {us:List Value} (r:Vals [x] us): ∃u,us=[u]∧RelV x u:=by
 cases r with
 | cons r1 r2=>cases r2;exact⟨_,rfl,r1⟩
theorem vals2 {x y:V} {us:List Value} (r:Vals [x,y] us): ∃u w',us=[u,w']∧RelV x u∧RelV y w':=by
 cases r with
 | cons r1 r2=>
  cases r2 with
  | cons r3 r4=>cases r4;exact⟨_,_,rfl,r1,r3⟩
theorem call_min2 (hc:X.calm=true):CallR X (.builtin "min") (fun xs H Q=> ∃i j,xs=[.int i,.int j]∧Q (.int (if j<i then j else i)) H):=by
 intro pins s σ H xs us Q I r h
 obtain⟨i,j,rfl,q⟩:=h
 obtain⟨u,w',rfl,⟨t,rfl⟩,⟨t',rfl⟩⟩:=vals2 r
 refine min_two_ints (I.ok.hd hc) fun h' tk k=>⟨_,H,I.kept k,?_,q⟩
 by_cases hj:j<i
 ·rw[if_pos hj,if_pos hj];exact⟨_,rfl⟩
 ·rw[if_neg hj,if_neg hj];exact⟨_,rfl⟩
end
structure Room (k:Nat) (A:Around):Prop where
 hd:A.handled=none
 dp:A.depth+3*k+5<recursionLimit
 un:A.units+16*k+200<cLine
theorem Room.deeper {k:Nat} {A:Around} (r:Room (k+1) A) (env:Env):Room k (A.deeper env):=
 ⟨r.hd,by have:=r.dp;show A.depth+1+3*k+5<_;omega,by have:=r.un;show A.units+3+16*k+200<_;omega⟩
theorem Room.depth {k:Nat} {A:Around} (r:Room k A):A.depth<recursionLimit:=by have:=r.dp;omega
theorem Room.units0 {k:Nat} {A:Around} (r:Room k A):A.units<cLine:=by have:=r.un;omega
noncomputable def tNil:TA:=fun _ H Q=>Q [] H
noncomputable def tCons (ta:TE) (tr:TA):TA:=fun σ H Q=>ta σ H fun x H1=>tr σ H1 fun xs H2=>Q (x::xs) H2
section
variable {X:Cx} {e:Expr} {es:List Expr} {te:TE} {t:TA} {pos:Pos}
theorem aD9:PA X [] tNil:=fun _ _ _ _ H Q I h=>Calls.spliced_nil ⟨[],H,I,.nil,h⟩
theorem aCh (ha:PE X e te) (hr:PA X es t) (hs:starEach (e::es) X.env=(false,eval e X.env)::starEach es X.env:=by rfl):PA X (e::es) (tCons te t):=by
 intro pos pins s σ H Q I h
 rw[hs]
 show wpAny _ _ (spliced ((false,eval e X.env)::backTo pos (starEach es X.env))) _ _ s
 refine Calls.spliced_cons (thn (ha pins s σ H _ I h) fun u s1 ⟨x,H1,I1,r1,q1⟩=> ?_)
 exact thn (hr pos pins s1 σ H1 _ I1 q1) fun us s2 ⟨xs,H2,I2,r2,q2⟩=>⟨x::xs,H2,I2,.cons r1 r2,q2⟩
noncomputable def tTup (t:TA):TE:=fun σ H Q=>t σ H fun xs H1=>xs.length≤sizeLine∧∀p,H1 p=none→Q (.ref p) (upd H1 p (.tup xs))
noncomputable def tLst (t:TA):TE:=fun σ H Q=>t σ H fun xs H1=>xs.length≤sizeLine∧∀p,H1 p=none→Q (.ref p) (upd H1 p (.lst xs))
theorem pe_tup {x1} (h:PA X es t):PE X (.Tuple es x1 pos) (tTup t):=by
 intro pins s σ H Q I hq
 refine wpAny_Tuple_spliced (thn (h pos pins s σ H _ I hq) fun us s1 ⟨xs,H1,I1,r,z,q⟩=>⟨by rw[←r.length];exact z,?_⟩)
 have hf:H1 s1.heap.objs.size=none:=I1.hok.fresh (Nat.le_refl _)
 refine⟨.ref s1.heap.objs.size,upd H1 s1.heap.objs.size (.tup xs),I1.laid (t':=s1.toks) (fun b u e=>Heap.get?_push_of_some _ e) (Nat.le_refl _) ?_,rfl,q _ hf⟩
 exact⟨z,us,r,⟨_,Heap.get?_push_size _ rfl,rfl,⟨_,rfl⟩,rfl⟩⟩
theorem pe_lst (h:PA X es t):PE X (.List es pos) (tLst t):=by
 intro pins s σ H Q I hq
 refine wpAny_List_spliced (thn (h pos pins s σ H _ I hq) fun us s1 ⟨xs,H1,I1,r,z,q⟩=>⟨by rw[←r.length];exact z,?_⟩)
 have hf:H1 s1.heap.objs.size=none:=I1.hok.fresh (Nat.le_refl _)
 refine⟨.ref s1.heap.objs.size,upd H1 s1.heap.objs.size (.lst xs),I1.laid (t':=s1.toks) (fun b u e=>Heap.get?_push_of_some _ e) (Nat.le_refl _) ?_,rfl,q _ hf⟩
 exact⟨z,us,0,r,Heap.get?_push_size _ rfl⟩
end
noncomputable abbrev Sp:=List V→Hp→VK→XK→Prop
noncomputable abbrev CXT:=List Env→Hp→Shared→XK→Value→Shared→Prop
structure Env0 (P:Program) (w:World) (K:PySem.W.Frag) (mg:Str→Option Value) (base:Heap) (A:Around) (outer:List Env) (s:Shared) (H:Hp):Prop where
 frames:A.frames=some outer
 mod:Mod K mg base
 bs: ∀b o,base.get? b=some o→s.heap.get? b=some o∧H b=none
 bsz:base.objs.size≤s.heap.objs.size
 funs:s.heap.FunFrames base outer
 frf: ∀b∈frs outer,H b=none
 hok:HOk P w H s.heap
 bare:AllBare s.gens
noncomputable def CE (outer:List Env) (P:Program) (w:World) (H:Hp) (s:Shared) (Q:VK) (u:Value) (s':Shared):Prop:=
 ∃v H',s'.os=s.os∧AllBare s'.gens∧Un (frs outer) [] H H' s.heap s'.heap∧HOk P w H' s'.heap∧RelV v u∧Q v H'
noncomputable def CR (CX:CXT) (outer:List Env) (P:Program) (w:World) (H:Hp) (s:Shared) (Q:VK) (E:XK) (r:Result) (s':Shared):Prop:=
 match r with
 | .ok (.ret u)=>CE outer P w H s Q u s'
 | .ok _=>False
 | .error e=>CX outer H s E e s'
structure FnOk (P:Program) (w:World) (K:PySem.W.Frag) (mg:Str→Option Value) (base:Heap) (CX:CXT) (k:Nat) (f:Addr) (fd:FuncData) (ps:List Str) (sp:Sp):Prop where
 len: ∀vs H Q E,sp vs H Q E→vs.length=ps.length
 run: ∀(A:Around) (outer:List Env) (s:Shared) (H:Hp) (args:Args) (us:List Value) (vs:List V) (Q:VK) (E:XK),Room k A→Env0 P w K mg base A outer s H→BindsTo s fd args (ps.zip us)→Vals vs us→sp vs H Q E→
  codeAny (model P w) A (.call (.ref f) args) (CR CX outer P w H s Q E) s
theorem FnOk.imp {P:Program} {w:World} {K:PySem.W.Frag} {mg:Str→Option Value} {base:Heap} {CX:CXT} {k:Nat} {f:Addr} {fd:FuncData} {ps:List Str} {sp sp':Sp} (F:FnOk P w K mg base CX k f fd ps sp)
  (h: ∀vs H Q E,sp' vs H Q E→sp vs H Q E):FnOk P w K mg base CX k f fd ps sp':=
 ⟨fun vs H Q E q=>F.len vs H Q E (h _ _ _ _ q),fun A outer s H args us vs Q E hr he hb hv hs=>F.run A outer s H args us vs Q E hr he hb hv (h _ _ _ _ hs)⟩
section
variable {X:Cx} {pins:List (Addr×Obj)} {σ:St} {H:Hp} {s s':Shared}
theorem Inv.env0 (I:Inv X pins σ H s):Env0 X.prog X.w X.K X.mg X.base X.A X.stack s H:=
 ⟨I.ok.frames,I.ok.mod,I.bs,Nat.le_trans I.ok.bsz I.sz,I.stack,I.stkFree,I.hok,I.bare⟩
theorem Inv.after {Q:VK} {u:Value} (I:Inv X pins σ H s) (h:CE X.stack X.prog X.w H s Q u s'):EP X pins σ Q u s':=by
 obtain⟨v,H',os,bare,un,hok,r,q⟩:=h
 obtain⟨hh,g,d,t,os'⟩:=s'
 obtain rfl:os'=s.os:=os
 exact⟨v,H',I.call (h':=hh) (g':=g) (d':=d) (t':=t) (ch:=[]) un hok bare (fun b z=>absurd z (by simp)),r,q⟩
end
noncomputable def Binds (K:PySem.W.Frag) (fd:FuncData) (ps:List Str) (ds:List Value):Prop:=
 ∀(s:Shared) (us:List Value),K.In s.heap→(us++ds).length=ps.length→BindsTo s fd ⟨us,[]⟩ (ps.zip (us++ds))
theorem Binds.all {K:PySem.W.Frag} {fd:FuncData} {ps:List Str} (h: ∀us:List Value,us.length=ps.length→bindArgs fd ⟨us,[]⟩=pure (ps.zip us)):Binds K fd ps []:=fun s us _ hl=>by
 rw[List.append_nil] at hl⊢
 exact .of_eq (h us hl)
structure aBx (N P:List Str) (sc:Scope):Prop where
 kind:sc.kind= .function
 co:sc.isCoroutine=false
 gen:sc.isGenerator=false
 nd:N.Nodup
 pre:N.take P.length=P
 par: ∀x∈P,sc.names.lookup x=some .local∨sc.names.lookup x=some .cell
 nofree: ∀y∈sc.names,y.2≠ .free
theorem bindL_out {kindOf:Str→Option NameKind} {x:Str}: ∀{binds:List (Str×Value)} {m:Str→Option Value},(∀v,(x,v)∉binds)→bindL kindOf binds m x=m x
 | [],_,_=>rfl
 |(n,v)::r,m,h=>by
  unfold bindL
  rw[bindL_out fun w hw=>h w (List.mem_cons_of_mem _ hw)]
  split
  ·have:x≠n:=by rintro rfl;exact h v List.mem_cons_self
   simp[this]
  ·rfl
theorem bindC_out {kindOf:Str→Option NameKind} {x:Str}: ∀{binds:List (Str×Value)} {m:Str→Option Value},(∀v,(x,v)∉binds)→bindC kindOf binds m x=m x
 | [],_,_=>rfl
 |(n,v)::r,m,h=>by
  unfold bindC
  rw[bindC_out fun w hw=>h w (List.mem_cons_of_mem _ hw)]
  split
  ·rfl
  ·have:x≠n:=by rintro rfl;exact h v List.mem_cons_self
   simp[this]
theorem bindL_get {kindOf:Str→Option NameKind} {x:Str} {v:Value}: ∀{P:List Str} {vs:List Value} {i:Nat} {m:Str→Option Value},P.Nodup→P[i]? =some x→vs[i]? =some v→kindOf x=some .local→
  bindL kindOf (P.zip vs) m x=some v
 | [],_,_,_,_,h,_,_=>by simp at h
 | _::_,[],_,_,_,_,h,_=>by simp at h
 | p::P,w::vs,0,m,nd,h1,h2,hk=>by
  simp at h1 h2;subst h1;subst h2
  show bindL kindOf ((p,w)::P.zip vs) m p=_
  unfold bindL
  rw[bindL_out fun v hv=>(List.nodup_cons.mp nd).1 (List.of_mem_zip hv).1,if_pos hk]
  simp
 | p::P,w::vs,i+1,m,nd,h1,h2,hk=>by
  show bindL kindOf ((p,w)::P.zip vs) m x=_
  unfold bindL
  exact bindL_get (i:=i) (List.nodup_cons.mp nd).2 (by simpa using h1) (by simpa using h2) hk
theorem bindC_get {kindOf:Str→Option NameKind} {x:Str} {v:Value}: ∀{P:List Str} {vs:List Value} {i:Nat} {m:Str→Option Value},P.Nodup→P[i]? =some x→vs[i]? =some v→kindOf x≠some .local→
  bindC kindOf (P.zip vs) m x=some v
 | [],_,_,_,_,h,_,_=>by simp at h
 | _::_,[],_,_,_,_,h,_=>by simp at h
 | p::P,w::vs,0,m,nd,h1,h2,hk=>by
  simp at h1 h2;subst h1;subst h2
  show bindC kindOf ((p,w)::P.zip vs) m p=_
  unfold bindC
  rw[bindC_out fun v hv=>(List.nodup_cons.mp nd).1 (List.of_mem_zip hv).1,if_neg hk]
  simp
 | p::P,w::vs,i+1,m,nd,h1,h2,hk=>by
  show bindC kindOf ((p,w)::P.zip vs) m x=_
  unfold bindC
  exact bindC_get (i:=i) (List.nodup_cons.mp nd).2 (by simpa using h1) (by simpa using h2) hk
noncomputable def start (N:List Str) (vs:List V):St:=vs.map some++List.replicate (N.length-vs.length) none
noncomputable def cxOf (CX:CXT) (P:Program) (w:World) (K:PySem.W.Frag) (mg:Str→Option Value) (base:Heap) (N:List Str) (qual:Str) (scope:Scope) (f:Addr) (cd:Value) (A:Around) (outer:List Env) (s:Shared) (H:Hp) (E:XK):Cx where
 prog:=P
 w:=w
 K:=K
 mg:=mg
 base:=base
 A:=A.deeper (envOfC qual scope s.heap.objs.size f cd)
 N:=N
 s₀:=s
 H₀:=H
 env:=envOfC qual scope s.heap.objs.size f cd
 outer:=outer
 stack:=envOfC qual scope s.heap.objs.size f cd::outer
 ex:=[]
 calm:=true
 fn:=fun _=>true
 pn:=[]
 xe:=fun e s'=>wpAny (model P w) (A.deeper (envOfC qual scope s.heap.objs.size f cd)) (leaving (envOfC qual scope s.heap.objs.size f cd) e) (fun _ s''=>CX outer H s E e s'') (fun e' s''=>CX outer H s E e' s'') s'
theorem cell_has {sc:Scope} {n:Nat} {x:Str} (h:sc.names.lookup x=some .cell): ∃c,(cellsFrom n sc.names []).lookup x=some c:=by
 have q:=PySem.W.cellsFrom_some sc.names n [] (.inl h)
 exact Option.isSome_iff_exists.mp q
theorem inv_start {CX:CXT} {P:Program} {w:World} {K:PySem.W.Frag} {mg:Str→Option Value} {base:Heap} {N ps:List Str} {qual:Str} {scope:Scope} {f:Addr} {cd:Value} {A:Around} {outer:List Env} {s s1:Shared} {H:Hp} {E:XK} {us:List Value} {vs:List V}
  (S:aBx N ps scope) (hd:A.handled=none) (e0:Env0 P w K mg base A outer s H) (hl:vs.length=ps.length) (r:Vals vs us)
  (x:InCallC s s.heap.objs.size (bindL (envOfC qual scope s.heap.objs.size f cd).kindOf (ps.zip us) fun _=>none) (cellsFrom (s.heap.objs.size+1) scope.names []) (bindC (envOfC qual scope s.heap.objs.size f cd).kindOf (ps.zip us) fun _=>none) s1):
  Inv (cxOf CX P w K mg base N qual scope f cd A outer s H E) [] (start N vs) H s1:=by
 have hpl:ps.length≤N.length:=by have:=congrArg List.length S.pre;rw[List.length_take] at this;omega
 obtain⟨h1,tk,rfl,hk⟩:=x.done
 have noA: ∀b:Addr,b∉(cxOf CX P w K mg base N qual scope f cd A outer s H E).ex:=fun b z=>absurd (show b∈([]:List Addr) from z) (by simp)
 refine⟨⟨e0.mod,S.kind,rfl,rfl,Nat.le_refl _,fun y z c h1 h2=> ?_,fun y hy=> ?_,fun y c _ h=> ?_,fun _=>hd,Around.frames_deeper e0.frames,.inr ⟨rfl,rfl⟩,fun b z=>absurd z (noA b),e0.bs,e0.bsz,fun b _ _=>noA b,fun b z=>absurd z (noA b),e0.funs,e0.frf⟩,
  rfl,e0.bare,Un.kept hk,⟨_,x.toInCall.ns,fun i y v h1 h2 h3=> ?_⟩,fun y c h=>⟨_,x.cell y c h⟩,e0.hok.fresh (Nat.le_refl _),fun y c h=> ?_,fun p hp=>absurd (show p∈([]:List (Addr×Obj)) from hp) (by simp),e0.hok.kept hk,?_⟩
 ·exact name_of_addr x.apart (PySem.mem_of_lookup h1) (PySem.mem_of_lookup h2)
 ·have hy:scope.names.lookup y=some .cell∨scope.names.lookup y=some .free:=hy
  rcases hy with hy | hy
  ·exact cell_has hy
  ·exact absurd rfl (S.nofree _ (PySem.mem_of_lookup hy))
 ·exact Nat.le_of_lt (x.above y c (PySem.mem_of_lookup h))
 ·have hi:i<vs.length:=by
   unfold start at h2
   by_cases hi:i<vs.length
   ·exact hi
   ·rw[List.getElem?_append_right (by simpa using hi)] at h2
    rw[List.getElem?_replicate] at h2
    split at h2<;>cases h2
  have ha:vs[i]? =some v:=by
   unfold start at h2
   rw[List.getElem?_append_left (by simpa using hi),List.getElem?_map] at h2
   cases e:vs[i]? with
   | none=>rw[e] at h2;cases h2
   | some a=>rw[e] at h2;cases h2;rfl
  obtain⟨u,hu,rv⟩:=r.get ha
  have hp:ps[i]? =some y:=by
   rw[←S.pre,List.getElem?_take_of_lt (by omega)];exact h1
  have ndP:ps.Nodup:=by rw[←S.pre];exact S.nd.sublist (List.take_sublist _ _)
  refine⟨u,rv,?_⟩
  rcases S.par y (List.mem_of_getElem? hp) with k | k
  ·exact .inl ⟨k,bindL_get ndP hp hu k⟩
  ·obtain⟨c,e⟩:=cell_has (n:=s.heap.objs.size+1) k
   refine .inr ⟨.inl k,c,e,?_⟩
   have q:=x.cell y c e
   rw[bindC_get ndP hp hu (by show scope.names.lookup y≠_;rw[k];decide)] at q
   exact q
 ·exact e0.hok.fresh (Nat.le_of_lt (x.above y c (PySem.mem_of_lookup h)))
 ·unfold start
  show _=N.length
  rw[List.length_append,List.length_map,List.length_replicate]
  omega
theorem fn_of {CX:CXT} {P:Program} {w:World} {K:PySem.W.Frag} {mg:Str→Option Value} {base:Heap} {k:Nat} {f:Addr} {name qual:Str} {params:Arguments} {body:List Stmt} {scope:Scope} {dV kV doc pm cdv ct oc:Value} {an od:Option Addr}
  {osl:Array (Option Value)} {N ps:List Str} {sp:Sp} (lk:K.lookup f=some ⟨oc,od,.func (PySem.W.fnOf name qual params body scope dV kV doc pm an cdv ct),osl⟩) (hcd:PySem.W.codeIn K cdv qual=true) (S:aBx N ps scope)
  (len: ∀vs H Q E,sp vs H Q E→vs.length=ps.length)
  (hbody: ∀(A:Around) (outer:List Env) (s:Shared) (H:Hp) (vs:List V) (Q:VK) (E:XK),Room k (A.deeper (envOfC qual scope s.heap.objs.size f cdv))→sp vs H Q E→
   ∃t,PSs (cxOf CX P w K mg base N qual scope f cdv A outer s H E) body t∧t {nx:=fun _ H'=>Q .non H',rt:=Q} (start N vs) H):
  FnOk P w K mg base CX (k+1) f (PySem.W.fnOf name qual params body scope dV kV doc pm an cdv ct) ps sp:=by
 refine⟨len,fun A outer s H args us vs Q E hr e0 hb r hsp=> ?_⟩
 have hl:=len _ _ _ _ hsp
 have KX:K.In s.heap:=e0.mod.kin.keeps fun b o e=>(e0.bs b o e).1
 have lim:s.heap.NoLimit:=e0.mod.nolimit.keeps fun b o e=>(e0.bs b o e).1
 have hkind: ∀y∈ps.zip us,scope.names.lookup y.1=some .local∨(scope.names.lookup y.1=some .cell∧((cellsFrom (s.heap.objs.size+1) scope.names []).lookup y.1).isSome=true):=fun⟨n,v⟩ hy=>by
  rcases S.par n (List.of_mem_zip hy).1 with q | q
  ·exact .inl q
  ·exact .inr ⟨q,PySem.W.cellsFrom_some _ _ _ (.inl q)⟩
 refine codeAny_call_function hr.depth (KX _ _ lk) rfl S.co S.gen rfl (PySem.W.codeRec_of KX hcd) (hb _ _ _ _ ?_)
 refine wpAny_newFunctionEnv_cells S.kind hkind fun env he s1 x=> ?_
 subst he
 refine⟨lim.keeps x.toInCall.keep,codeAny_func ?_⟩
 obtain⟨t,ht,hq⟩:=hbody A outer s H vs Q E (hr.deeper _) hsp
 have I:Inv (cxOf CX P w K mg base N qual scope f cdv A outer s H E) [] (start N vs) H s1:=inv_start S hr.hd e0 hl r x
 refine wpAny_mono (ht [] s1 (start N vs) H _ I hq) (fun fl s' hs=> ?_) fun e s' hs=>hs
 have fin: ∀{σ':St} {H':Hp} {v:V} {u:Value},Inv (cxOf CX P w K mg base N qual scope f cdv A outer s H E) [] σ' H' s'→RelV v u→Q v H'→CE outer P w H s Q u s':=
  fun {σ' H' v u} J rv q=>⟨v,H',J.os,J.bare,J.base,J.hok,rv,q⟩
 cases fl with
 | ret u=>
  obtain⟨v,σ',H',J,rv,q⟩:=hs
  exact fin J rv q
 | next=>
  obtain⟨σ',H',J,q⟩:=hs
  exact fin (v:=V.non) (u:=Value.none) J rfl q
 | brk=>
  obtain⟨_,_,_,q⟩:=hs
  exact False.elim q
 | cont=>
  obtain⟨_,_,_,q⟩:=hs
  exact False.elim q
section
variable {X:Cx} {x:Str} {p pos:Pos} {e:Expr} {es:List Expr} {t:TA} {id T:String} {r:List V→Hp→VK→Prop}
noncomputable def tCB (r:List V→Hp→VK→Prop) (t:TA):TE:=fun σ H Q=>t σ H fun vs H1=>r vs H1 Q
theorem pe_callB (hc:CallR X (.builtin id) r) (hg:Gl X x) (hm:X.mg x=none) (hv:bootBuiltins x=some (.builtin id)) (ha:PA X (e::es) t) (hn:x≠"__name__":=by decide) (hdb:(x==("__debug__":Str))=false:=by decide)
  (he:starEach (e::es) X.env=(false,eval e X.env)::starEach es X.env:=by rfl) (hpl:(backTo pos (starEach es X.env)).any (·.1)=false:=by rfl):PE X (.Call (.Name x p) (e::es) [] pos) (tCB r t):=by
 intro pins s σ H Q I h
 refine wpAny_Call_Name_kw (ld_blt I hg hm hv ?_ hn hdb)
 exact PyProof.Rows.callWith_builtin1 (thn (ha pos pins s σ H _ I h) fun us s1 ⟨vs,H1,I1,r1,q1⟩=>hc pins s1 σ H1 vs us Q I1 r1 q1) he hpl
theorem pe_callTy (hc:CallR X (.type T) r) (hg:Gl X x) (hm:X.mg x=none) (hv:bootBuiltins x=some (.type T)) (ha:PA X (e::es) t) (hn:x≠"__name__":=by decide) (hdb:(x==("__debug__":Str))=false:=by decide)
  (he:starEach (e::es) X.env=(false,eval e X.env)::starEach es X.env:=by rfl) (hpl:(backTo pos (starEach es X.env)).any (·.1)=false:=by rfl):PE X (.Call (.Name x p) (e::es) [] pos) (tCB r t):=by
 intro pins s σ H Q I h
 refine wpAny_Call_Name_kw (ld_blt I hg hm hv ?_ hn hdb)
 exact PyProof.Rows.callWith_type1 (thn (ha pos pins s σ H _ I h) fun us s1 ⟨vs,H1,I1,r1,q1⟩=>hc pins s1 σ H1 vs us Q I1 r1 q1) he hpl
end
end L2
namespace HT
open PySem PyProof.Rows
section
variable {prog:Program} {w:World} {A:Around} {E:Value→Shared→Prop} {s:Shared}
theorem cat_tup {t b:Addr} {vs ws:List Value} {Q:Value→Shared→Prop} (ht:IsTup s.heap t vs.toArray) (hb:IsTup s.heap b ws.toArray) (hv:vs≠[])
  (h1:ws=[]→Q (.ref t) s) (h2:ws≠[]→Q (.ref s.heap.objs.size) {s with heap:=s.heap.push {cls:= .type "tuple",data:= .seq (vs++ws).toArray}})
  (hsz:vs.length+ws.length≤sizeLine):wpAny (model prog w) A (binaryOp .Add (.ref t) (.ref b)) Q E s:=by
 obtain⟨⟨cls,dd,data,sl⟩,ho,hc,n,hd⟩:=id ht
 obtain⟨⟨cls2,dd2,data2,sl2⟩,ho2,hc2,n2,hd2⟩:=id hb
 simp only at hc hd hc2 hd2
 subst hc hd hc2 hd2
 have e:vs.toArray++ws.toArray=(vs++ws).toArray:=by simp
 by_cases hw:ws=[]
 ·exact concat_meets ⟨_,ho,rfl⟩ ⟨_,ho2,rfl⟩ noFill_tuple_add seq_tuple_add PySem.F.slot_tuple_add PySem.F.entry_tuple_add (PySem.F.args_tuple_add_2 _ _)
   (tuple_addW1 t b vs.toArray ws.toArray n n2 dd dd2 sl sl2 (by simpa using hv) (by simp[hw])) ⟨ho,ho2,h1 hw⟩
 ·refine concat_meets ⟨_,ho,rfl⟩ ⟨_,ho2,rfl⟩ noFill_tuple_add seq_tuple_add PySem.F.slot_tuple_add PySem.F.entry_tuple_add (PySem.F.args_tuple_add_2 _ _)
   (tuple_addW2 t b vs.toArray ws.toArray n n2 dd dd2 sl sl2 (by simpa using hv) (by simpa using hw) (by rw[List.size_toArray,List.size_toArray];exact hsz)) ⟨ho,ho2,?_⟩
  rw[e]
  exact h2 hw
noncomputable def sIx (n d:Nat):Option Int→Nat
 | none=>d
 | some v=>if v<0 then (v+(n:Int)).toNat else min v.toNat n
theorem sIx_none (n d:Nat):sIx n d none=d:=rfl
theorem sIx_nat (n d k:Nat):sIx n d (some (k:Int))=min k n:=by
 show (if (k:Int)<0 then ((k:Int)+(n:Int)).toNat else min (k:Int).toNat n)=min k n
 rw[if_neg (by omega),Int.toNat_natCast]
theorem sIx_le (n d:Nat) (hd:d≤n) (o:Option Int):sIx n d o≤n:=by
 cases o with
 | none=>exact hd
 | some v=>
  show (if v<0 then (v+(n:Int)).toNat else min v.toNat n)≤n
  by_cases hv:v<0
  ·rw[if_pos hv];omega
  ·rw[if_neg hv];exact Nat.min_le_right _ _
theorem clip_eq (v:Int) (n d:Nat):(if v<0 then max (v+(n:Int)) 0 else min v (n:Int))=((sIx n d (some v):Nat):Int):=by
 show (if v<0 then max (v+(n:Int)) 0 else min v (n:Int))=(((if v<0 then (v+(n:Int)).toNat else min v.toNat n):Nat):Int)
 by_cases hv:v<0
 ·simp only[if_pos hv];omega
 ·simp only[if_neg hv];omega
theorem adjust_gen (lo hi:Option Int) (n:Nat):Builtin.Slice.sliceAdjust lo hi 1 (n:Int)=(((sIx n 0 lo:Nat):Int),((sIx n n hi:Nat):Int)):=by
 have h1:¬((1:Int)<0):=by omega
 unfold Builtin.Slice.sliceAdjust
 simp only[h1,if_false]
 refine Prod.ext ?_ ?_
 ·cases lo with
  | none=>rfl
  | some v=>exact clip_eq v n 0
 ·cases hi with
  | none=>rfl
  | some v=>exact clip_eq v n n
theorem places_gen (i j:Nat):Builtin.Slice.slicePlaces (i:Int) (j:Int) 1=j-i:=by
 unfold Builtin.Slice.slicePlaces
 have h1:(1:Int)>0:=by omega
 simp only[h1,if_true,Int.ediv_one]
 split<;>omega
theorem slicePart_ {v:Value} {o:Option Int} {Q:Option Int→Shared→Prop} (p:IsPart v o) (h:Q o s):wpAny (model prog w) A (Builtin.Slice.slicePartIndex v) Q E s:=by
 cases p with
 | none=>exact slicePart_none h
 | int i t=>exact slicePart_int h
theorem sliceApplied_gen {sl:Addr} {vl vu:Value} {lo hi:Option Int} {n:Nat} {Q:Int×Int×Nat→Shared→Prop} (hs:s.heap.IsSliceOf sl vl vu .none) (pl:IsPart vl lo) (pu:IsPart vu hi)
  (h:Q (((sIx n 0 lo:Nat):Int),1,sIx n n hi-sIx n 0 lo) s):wpAny (model prog w) A (Builtin.Slice.sliceApplied (.ref sl) (pure (n:Int))) Q E s:=by
 obtain⟨os,hos,hcs,hds⟩:=id hs
 unfold Builtin.Slice.sliceApplied Builtin.Slice.sliceFields
 refine wpAny_bind (wpAny_bind (wpAny_field hos hds (x:=vl) rfl (wpAny_bind (wpAny_field hos hds (x:=vu) rfl (wpAny_bind (wpAny_field hos hds (x:= .none) rfl (wpAny_pure ?_)))))))
 refine wpAny_bind (slicePart_none ?_)
 show wpAny _ _ (if ((1:Int)==0)=true then _ else _) _ _ s
 rw[if_neg (by decide)]
 refine wpAny_bind (slicePart_ pl (wpAny_bind (slicePart_ pu (wpAny_bind (wpAny_pure ?_)))))
 show wpAny _ _ (match Builtin.Slice.sliceAdjust lo hi 1 (n:Int) with |(lo,hi)=>pure (lo,(1:Int),Builtin.Slice.slicePlaces lo hi 1)) _ _ s
 rw[adjust_gen lo hi n]
 show wpAny _ _ (pure (((sIx n 0 lo:Nat):Int),(1:Int),Builtin.Slice.slicePlaces ((sIx n 0 lo:Nat):Int) ((sIx n n hi:Nat):Int) 1)) _ _ s
 rw[places_gen]
 exact wpAny_pure h
theorem pick_gen (xs:Array Value) (i k:Nat):((List.range k).filterMap fun (m:Nat)=>xs[((i:Int)+(m:Int)*1).toNat]?).toArray=((xs.toList.drop i).take k).toArray:=by
 have e:(fun (m:Nat)=>xs[((i:Int)+(m:Int)*1).toNat]?)=fun m=>xs[i+m]? :=by
  funext m
  have:((i:Int)+(m:Int)*1).toNat=i+m:=by omega
  rw[this]
 rw[e]
 have:=pick_run xs i k
 rw[List.filterMap_map] at this
 have e2:((fun x=>xs[x]?)∘fun x=>i+x)=fun m=>xs[i+m]? :=rfl
 rw[e2] at this
 rw[this]
theorem getItem_tuple_cut {t sl:Addr} {items:Array Value} {vl vu:Value} {lo hi:Option Int} {Q:Value→Shared→Prop} (ht:IsTup s.heap t items) (hs:s.heap.IsSliceOf sl vl vu .none) (pl:IsPart vl lo) (pu:IsPart vu hi)
  (hw:¬(sIx items.size 0 lo=0∧sIx items.size items.size hi=items.size))
  (h:Q (.ref s.heap.objs.size) {s with heap:=s.heap.push {cls:= .type "tuple",data:= .seq ((items.toList.drop (sIx items.size 0 lo)).take (sIx items.size items.size hi-sIx items.size 0 lo)).toArray}})
  (hsz:items.size≤sizeLine):wpAny (model prog w) A (getItem (.ref t) (.ref sl)) Q E s:=by
 have htake:sizeOk (.seq ((items.toList.drop (sIx items.size 0 lo)).take (sIx items.size items.size hi-sIx items.size 0 lo)).toArray):=by
  show ((items.toList.drop (sIx items.size 0 lo)).take (sIx items.size items.size hi-sIx items.size 0 lo)).toArray.size≤sizeLine
  rw[List.size_toArray,List.length_take,List.length_drop,Array.length_toList]
  omega
 have hj:sIx items.size items.size hi≤items.size:=sIx_le _ _ (Nat.le_refl _) hi
 obtain⟨os,hos,hcs,hds⟩:=id hs
 have hTs:s.TypeIs (.ref sl) "slice":=⟨os,hos,hcs⟩
 unfold getItem
 try with_reducible refine wpAny_holding ?_
 first | refine wpAny_bind (wpAny_pure ?_) | skip
 refine wpAny_bind (wpAny_sequenceKey ht.typeIs (by decide) ?_)
 refine wpAny_bind (wpAny_callSpecial?_slot (name:=Str.ofString "__getitem__") ht.typeIs PyProof.Rows.slot_tuple_getitem
  (wpAny_call_entry PyProof.Rows.slot_tuple_getitem ht.typeIs entry_tuple_getitem ?_ (args_tuple_getitem _ _)))
 show wpAny _ _ (Builtin.Tuple.tupleItemsOf (.ref t)>>=_) _ _ s
 refine wpAny_bind (tupleItemsOf_ ht ?_)
 refine wpAny_bind (wpAny_typeOf hTs ?_)
 rw[if_pos (by decide)]
 refine wpAny_bind (sliceApplied_gen hs pl pu ?_)
 have hno:¬((((sIx items.size 0 lo:Nat):Int)==0&&(1:Int)==1&&(sIx items.size items.size hi-sIx items.size 0 lo)==items.size)=true):=by
  intro q
  rw[Bool.and_eq_true,Bool.and_eq_true] at q
  have q1:((sIx items.size 0 lo:Nat):Int)=0:=eq_of_beq q.1.1
  have q2:sIx items.size items.size hi-sIx items.size 0 lo=items.size:=eq_of_beq q.2
  exact hw ⟨by omega,by omega⟩
 show wpAny _ _ (if (((sIx items.size 0 lo:Nat):Int)==0&&(1:Int)==1&&(sIx items.size items.size hi-sIx items.size 0 lo)==items.size)=true then _ else _) _ _ s
 rw[if_neg hno,pick_gen]
 first
  | exact wpAny_bind (m:=Builtin.Tuple.tupleExact _) (wpAny_newObj_type (wpAny_pure ⟨_,rfl,wpAny_pure h⟩) htake)
  | exact wpAny_bind (m:=Builtin.Tuple.tupleExact _) (wpAny_newObj_type (wpAny_bind (wpAny_pure (wpAny_pure ⟨_,rfl,wpAny_pure h⟩))) htake)
  | exact wpAny_bind (wpAny_bind (m:=Builtin.Tuple.tupleExact _) (wpAny_newObj_type (wpAny_pure (wpAny_pure ⟨_,rfl,wpAny_pure h⟩)) htake))
  | exact wpAny_bind (wpAny_bind (m:=Builtin.Tuple.tupleExact _) (wpAny_newObj_type (wpAny_pure ⟨_,rfl,wpAny_pure h⟩) htake))
end
end HT
namespace L2
open PySem PySem.Spec PyProof.Rows
noncomputable abbrev TO:=St→Hp→(Option Int→Hp→Prop)→Prop
noncomputable def PO (X:Cx) (e:Option Expr) (t:TO):Prop:=
 ∀(pins:List (Addr×Obj)) (s:Shared) (σ:St) (H:Hp) (Q:Option Int→Hp→Prop),Inv X pins σ H s→t σ H Q→
  wpAny (model X.prog X.w) X.A (evalPart e X.env) (fun u s'=> ∃o H',Inv X pins σ H' s'∧IsPart u o∧Q o H') X.xe s
noncomputable def tNoPart:TO:=fun _ H Q=>Q none H
noncomputable def tPart (t:TE):TO:=fun σ H Q=>t σ H fun x H1=> ∃i,x= .int i∧Q (some i) H1
section
variable {X:Cx} {e:Expr} {te:TE} {lo hi:Option Expr} {tl th:TO} {pos p2:Pos}
theorem po_none:PO X none tNoPart:=by
 intro pins s σ H Q I h
 rw[evalPart_none]
 exact wpAny_pure ⟨none,H,I,.none,h⟩
theorem po_some (h:PE X e te):PO X (some e) (tPart te):=by
 intro pins s σ H Q I hw
 rw[evalPart_some]
 refine thn (h pins s σ H _ I hw) fun u s1 ⟨x,H1,I1,r1,q1⟩=> ?_
 obtain⟨i,rfl,q⟩:=q1
 obtain⟨t,rfl⟩:=r1
 exact⟨some i,H1,I1,.int i t,q⟩
noncomputable def SlR (X:Cx) (r:V→Option Int→Option Int→Hp→VK→Prop):Prop:=
 ∀(pins:List (Addr×Obj)) (s:Shared) (σ:St) (H:Hp) (x:V) (v vl vu:Value) (lo hi:Option Int) (sl:Addr) (Q:VK),Inv X pins σ H s→RelV x v→s.heap.IsSliceOf sl vl vu .none→IsPart vl lo→IsPart vu hi→r x lo hi H Q→
  ∃T id,typeLookup (.type T) "__getitem__"=pure (some (.builtin id))∧s.TypeIs v T∧wpAny (model X.prog X.w) X.A (getItem v (.ref sl)) (EP X pins σ Q) X.xe s
theorem SlR.or {r r':V→Option Int→Option Int→Hp→VK→Prop} (h:SlR X r) (h':SlR X r'):SlR X (fun x lo hi H Q=>r x lo hi H Q∨r' x lo hi H Q):=by
 intro pins s σ H x v vl vu lo hi sl Q I rx hs pl pu q
 rcases q with q | q
 ·exact h pins s σ H x v vl vu lo hi sl Q I rx hs pl pu q
 ·exact h' pins s σ H x v vl vu lo hi sl Q I rx hs pl pu q
noncomputable def tSl (r:V→Option Int→Option Int→Hp→VK→Prop) (te:TE) (tl th:TO):TE:=fun σ H Q=>te σ H fun x H1=>tl σ H1 fun l H2=>th σ H2 fun u H3=>r x l u H3 Q
theorem pe_slice {r:V→Option Int→Option Int→Hp→VK→Prop} (hr:SlR X r) (he:PE X e te) (hl:PO X lo tl) (hu:PO X hi th):PE X (.Subscript e (.Slice lo hi none p2) pos) (tSl r te tl th):=by
 intro pins s σ H Q I h
 refine Subscript_ (thn (he pins s σ H _ I h) fun v s1 ⟨x,H1,I1,r1,q1⟩=> ?_)
 refine wpAny_Slice (thn (hl pins s1 σ H1 _ I1 q1) fun vl s2 ⟨l,H2,I2,pl,q2⟩=>thn (hu pins s2 σ H2 _ I2 q2) fun vu s3 ⟨u,H3,I3,pu,q3⟩=> ?_)
 rw[evalPart_none]
 refine wpAny_pure ?_
 have I4:Inv X pins σ H3 {s3 with heap:=s3.heap.push {cls:= .type "slice",data:= .fields #[vl,vu,.none]}}:=I3.kept (t':=s3.toks) fun b ob q=>Heap.get?_push_of_some _ q
 obtain⟨T,id,hT,ht,hg⟩:=hr pins {s3 with heap:=s3.heap.push {cls:= .type "slice",data:= .fields #[vl,vu,.none]}} σ H3 x v vl vu l u s3.heap.objs.size Q I4 r1 (Heap.IsSliceOf.new ..) pl pu q3
 show wpAny (model X.prog X.w) X.A (subscriptTail e (.Slice lo hi none p2) v (.ref s3.heap.objs.size)) (EP X pins σ Q) X.xe {s3 with heap:=s3.heap.push {cls:= .type "slice",data:= .fields #[vl,vu,.none]}}
 exact tail_any (ops:=[.ref s3.heap.objs.size,v]) ht hT hg (by with_unfolding_all rfl)
noncomputable def cutV (xs:List V) (lo hi:Option Int):List V:=(xs.drop (HT.sIx xs.length 0 lo)).take (HT.sIx xs.length xs.length hi-HT.sIx xs.length 0 lo)
theorem cutV_length (xs:List V) (lo hi:Option Int):(cutV xs lo hi).length≤xs.length:=by
 unfold cutV
 rw[List.length_take,List.length_drop]
 omega
noncomputable def rSlT (K:PySem.W.Frag):V→Option Int→Option Int→Hp→VK→Prop:=fun x lo hi H Q=> ∃a xs,x= .ref a∧SqT K H a xs∧
 ¬(HT.sIx xs.length 0 lo=0∧HT.sIx xs.length xs.length hi=xs.length)∧∀p,H p=none→Q (.ref p) (upd H p (.tup (cutV xs lo hi)))
theorem sl_tup:SlR X (rSlT X.K):=by
 intro pins s σ H x v vl vu lo hi sl Q I rx hs pl pu h
 obtain⟨a,xs,rfl,hx,hw,q⟩:=h
 cases rx
 obtain⟨its,r,ht,hz⟩:=I.tuple hx
 have hlen:its.toArray.size=xs.length:=by rw[List.size_toArray];exact r.length.symm
 refine⟨"tuple",_,PyProof.Rows.slot_tuple_getitem.lookup,ht.typeIs,?_⟩
 refine HT.getItem_tuple_cut ht hs pl pu (by rw[hlen];exact hw) ?_ (by rw[hlen];exact hz)
 rw[hlen]
 refine⟨.ref s.heap.objs.size,_,I.laid (t':=s.toks) (o:= .tup (cutV xs lo hi)) (fun b ob q=>Heap.get?_push_of_some _ q) (Nat.le_refl _) ?_,rfl,q _ (I.hok.fresh (Nat.le_refl _))⟩
 exact⟨Nat.le_trans (cutV_length xs lo hi) hz,_,(r.drop (HT.sIx xs.length 0 lo)).take (HT.sIx xs.length xs.length hi-HT.sIx xs.length 0 lo),TupD.new _ _⟩
noncomputable def rCatT (K:PySem.W.Frag):R2:=fun x y H Q=> ∃a b xs ys,x= .ref a∧y= .ref b∧SqT K H a xs∧SqT K H b ys∧xs≠[]∧xs.length+ys.length≤sizeLine∧
 (ys=[]→Q (.ref a) H)∧(ys≠[]→∀p,H p=none→Q (.ref p) (upd H p (.tup (xs++ys))))
theorem Vals.nil_iff {xs:List V} {us:List Value} (r:Vals xs us):us=[]↔xs=[]:=by
 cases r with
 | nil=>simp
 | cons _ _=>simp
theorem op_catT:OpR X (binaryOp .Add) (rCatT X.K):=by
 intro pins s σ H x y v u Q I rx ry h
 obtain⟨a,b,xs,ys,rfl,rfl,ha,hb,hx,hz,q1,q2⟩:=h
 cases rx
 cases ry
 obtain⟨its,r1,p1,_⟩:=I.tuple ha
 obtain⟨its2,r2,p2,_⟩:=I.tuple hb
 refine HT.cat_tup p1 p2 (fun z=>hx (r1.nil_iff.mp z)) (fun z=>⟨.ref a,H,I,rfl,q1 (r2.nil_iff.mp z)⟩) (fun z=> ?_) (by rw[←r1.length,←r2.length];exact hz)
 refine⟨.ref s.heap.objs.size,_,I.laid (t':=s.toks) (o:= .tup (xs++ys)) (fun b ob q=>Heap.get?_push_of_some _ q) (Nat.le_refl _) ?_,rfl,q2 (fun w=>z (r2.nil_iff.mpr w)) _ (I.hok.fresh (Nat.le_refl _))⟩
 exact⟨by rw[List.length_append];exact hz,_,r1.append r2,TupD.new _ _⟩
end
noncomputable def ixN (n:Nat) (i:Int):Option Nat:=if 0≤i then (if i<n then some i.toNat else none) else if-(n:Int)≤i then some (i+n).toNat else none
noncomputable def atI {α:Type} (xs:List α) (i:Int):Option α:=(ixN xs.length i).bind fun j=>xs[j]?
theorem ixN_seq {n:Nat} {i:Int} {j:Nat} (h:ixN n i=some j):seqIndex? i n=some j∧j<n∧ -(n:Int)≤i∧i<n:=by
 unfold ixN at h
 by_cases h0:0≤i
 ·rw[if_pos h0] at h
  by_cases h1:i<n
  ·rw[if_pos h1] at h
   have e:i.toNat=j:=Option.some.inj h
   exact⟨by rw[seqIndex_of h0 h1,e],by omega,by omega,h1⟩
  ·rw[if_neg h1] at h;cases h
 ·rw[if_neg h0] at h
  by_cases h1: -(n:Int)≤i
  ·rw[if_pos h1] at h
   have e:(i+n).toNat=j:=Option.some.inj h
   exact⟨by rw[seqIndex_neg (by omega) h1,e],by omega,h1,by omega⟩
  ·rw[if_neg h1] at h;cases h
theorem atI_get {α:Type} {xs:List α} {i:Int} {v:α} (h:atI xs i=some v): ∃j,seqIndex? i xs.length=some j∧xs[j]? =some v∧j<xs.length∧ -(xs.length:Int)≤i∧i<xs.length:=by
 unfold atI at h
 cases e:ixN xs.length i with
 | none=>rw[e] at h;cases h
 | some j=>
  rw[e] at h
  obtain⟨h1,h2,h3,h4⟩:=ixN_seq e
  exact⟨j,h1,h,h2,h3,h4⟩
theorem atI_nat {α:Type} {xs:List α} {j:Nat} {v:α} (h:xs[j]? =some v):atI xs (j:Int)=some v:=by
 have hj:j<xs.length:=(List.getElem?_eq_some_iff.mp h).1
 have e:ixN xs.length (j:Int)=some j:=by
  unfold ixN
  rw[if_pos (by omega),if_pos (by omega)];simp
 unfold atI;rw[e];exact h
noncomputable def PlainIx (b:Expr):Prop:= ∀o i,subscripted b false o i=operate [o,i] (getItem o i)
noncomputable def IxR (X:Cx) (r:R2):Prop:=
 ∀(value slice:Expr) (pins:List (Addr×Obj)) (s:Shared) (σ:St) (H:Hp) (x y:V) (v u:Value) (Q:VK),Inv X pins σ H s→RelV x v→RelV y u→r x y H Q→
  subscripted slice false v u=operate [v,u] (getItem v u)→wpAny (model X.prog X.w) X.A (subscriptTail value slice v u) (EP X pins σ Q) X.xe s
noncomputable def MtR (X:Cx) (id:String) (r:V→List V→Hp→VK→Prop):Prop:=
 ∀(pins:List (Addr×Obj)) (s:Shared) (σ:St) (H:Hp) (x:V) (xs:List V) (v:Value) (us:List Value) (Q:VK),Inv X pins σ H s→RelV x v→Vals xs us→r x xs H Q→
  wpAny (model X.prog X.w) X.A (call (.builtin id) (v::us)) (EP X pins σ Q) X.xe s
section
variable {X:Cx} {a b:Expr} {ta tb:TE} {pos:Pos}
theorem IxR.or {r r':R2} (h:IxR X r) (h':IxR X r'):IxR X (fun x y H Q=>r x y H Q∨r' x y H Q):=by
 intro value slice pins s σ H x y v u Q I rx ry q hs
 rcases q with q | q
 ·exact h value slice pins s σ H x y v u Q I rx ry q hs
 ·exact h' value slice pins s σ H x y v u Q I rx ry q hs
theorem pe_ix {r:R2} (hr:IxR X r) (ha:PE X a ta) (hb:PE X b tb) (hs:PlainIx b):PE X (.Subscript a b pos) (tOp r ta tb):=by
 intro pins s σ H Q I h
 exact Subscript_ (binT ha hb I h fun v u s2 x y H2 I2 rx ry q=>hr a b pins s2 σ H2 x y v u Q I2 rx ry q (hs _ _))
noncomputable def rIxL (K:PySem.W.Frag):R2:=fun x y H Q=> ∃p xs i v,x= .ref p∧y= .int i∧SqL K H p xs∧atI xs i=some v∧Q v H
noncomputable def rIxT (K:PySem.W.Frag):R2:=fun x y H Q=> ∃p xs i v,x= .ref p∧y= .int i∧SqT K H p xs∧atI xs i=some v∧Q v H
noncomputable def rIxS:R2:=fun x y H Q=> ∃z i c,x= .str z∧y= .int i∧z.length≤sizeLine∧atI z.cps.toList i=some c∧Q (.str ⟨#[c]⟩) H
theorem ix_list:IxR X (rIxL X.K):=by
 intro value slice pins s σ H x y v u Q I rx ry h hs
 obtain⟨p,xs,i,z,rfl,rfl,hq,he,q⟩:=h
 cases rx
 obtain⟨t,rfl⟩:=ry
 obtain⟨its,r,pl,hz⟩:=I.list hq
 obtain⟨j,h1,h2,h3,h4,h5⟩:=atI_get he
 obtain⟨w,ew,rw'⟩:=r.get h2
 have hl:=r.length
 have hn:=line63
 have fin:EP X pins σ Q w s:=⟨z,H,I,rw',q⟩
 by_cases h0:0≤i
 ·have hj:i.toNat=j:=by
   rw[seqIndex_of h0 h5] at h1
   exact Option.some.inj h1
  exact item_listR pl.isList h0 (by omega) (by rw[hj];simpa using ew) fin hs
 ·have hj:(i+(its.toArray.size:Int)).toNat=j:=by
   rw[seqIndex_neg (by omega) h4] at h1
   rw[List.size_toArray,←hl]
   exact Option.some.inj h1
  exact subscriptTail_builtinR (x:=w) pl.isList.typeIs slot_list_getitem.lookup
   (wpAny_getItem_list_neg (Q:=fun r s'=>r=w∧EP X pins σ Q r s') pl.isList (by omega) (by rw[List.size_toArray]<;>omega) (by omega) (by rw[hj];simpa using ew) ⟨rfl,fin⟩) hs
theorem ix_tup:IxR X (rIxT X.K):=by
 intro value slice pins s σ H x y v u Q I rx ry h hs
 obtain⟨p,xs,i,z,rfl,rfl,hq,he,q⟩:=h
 cases rx
 obtain⟨t,rfl⟩:=ry
 obtain⟨its,r,pl,hz⟩:=I.tuple hq
 obtain⟨j,h1,h2,h3,h4,h5⟩:=atI_get he
 obtain⟨w,ew,rw'⟩:=r.get h2
 have hl:=r.length
 have hn:=line63
 have fin:EP X pins σ Q w s:=⟨z,H,I,rw',q⟩
 exact subscriptTail_builtinR (x:=w) pl.typeIs slot_tuple_getitem.lookup
  (getItem_tuple (j:=j) (Q:=fun r s'=>r=w∧EP X pins σ Q r s') pl (by omega) (by omega) (by rw[List.size_toArray,←hl];exact h1) (by simpa using ew) ⟨rfl,fin⟩) hs
theorem ix_str:IxR X rIxS:=by
 intro value slice pins s σ H x y v u Q I rx ry h hs
 obtain⟨z,i,c,rfl,rfl,hz,he,q⟩:=h
 obtain⟨t,rfl⟩:=rx
 obtain⟨t',rfl⟩:=ry
 obtain⟨j,h1,h2,h3,h4,h5⟩:=atI_get he
 have hl:z.cps.toList.length=z.length:=by simp[Str.length]
 rw[hl] at h1 h4 h5
 have hn:=line63
 exact tail_any (typeIs_str s z t) slot_str_getitem.lookup (getItem_str (c:=c) (by
  have e1:decide (i< -(2^63:Int))=false:=decide_eq_false (by omega)
  have e2:decide (i≥2^63)=false:=decide_eq_false (by omega)
  rw[e1,e2,Bool.or_false]) (by rw[h1];simpa using h2) ⟨.str ⟨#[c]⟩,H,I.tok _,⟨_,rfl⟩,q⟩) hs
noncomputable def rIx (K:PySem.W.Frag):R2:=fun x y H Q=>rIxL K x y H Q∨rIxT K x y H Q∨rIxS x y H Q
theorem ix_seq:IxR X (rIx X.K):=ix_list.or (ix_tup.or ix_str)
theorem slice_bounds (lo hi:Option Int) (n:Nat):(sliceBounds lo hi none n).1=((HT.sIx n 0 lo:Nat):Int)∧(sliceBounds lo hi none n).2.1=((HT.sIx n n hi:Nat):Int)∧(sliceBounds lo hi none n).2.2=1:=by
 refine⟨?_,?_,rfl⟩
 ·cases lo with
  | none=>simp[sliceBounds,HT.sIx]
  | some i=>
   simp only[sliceBounds,HT.sIx,Option.getD_none,show (1:Int)>0 by decide,if_true]
   by_cases h:i<0
   ·simp only[h,if_true]<;>omega
   ·simp only[h,if_false]<;>omega
 ·cases hi with
  | none=>simp[sliceBounds,HT.sIx]
  | some i=>
   simp only[sliceBounds,HT.sIx,Option.getD_none,show (1:Int)>0 by decide,if_true]
   by_cases h:i<0
   ·simp only[h,if_true]<;>omega
   ·simp only[h,if_false]<;>omega
theorem slicePick_cut (its:List Value) (lo hi:Option Int):slicePick its.toArray lo hi none=((its.drop (HT.sIx its.length 0 lo)).take (HT.sIx its.length its.length hi-HT.sIx its.length 0 lo)).toArray:=by
 obtain⟨h1,h2,h3⟩:=slice_bounds lo hi its.toArray.size
 unfold slicePick
 rw[h1,h2,h3]
 simp only[sliceRange_one,pick_run,List.size_toArray]<;>rfl
noncomputable def rSlL (K:PySem.W.Frag):V→Option Int→Option Int→Hp→VK→Prop:=fun x lo hi H Q=> ∃a xs,x= .ref a∧SqL K H a xs∧∀p,H p=none→Q (.ref p) (upd H p (.lst (cutV xs lo hi)))
theorem sl_list:SlR X (rSlL X.K):=by
 intro pins s σ H x v vl vu lo hi sl Q I rx hs pl pu h
 obtain⟨a,xs,rfl,hx,q⟩:=h
 cases rx
 obtain⟨its,r,ht,hz⟩:=I.list hx
 have hlen:=r.length
 refine⟨"list",_,slot_list_getitem.lookup,ht.isList.typeIs,?_⟩
 refine wpAny_getItem_list_slice ht.isList hs pl pu .none (by simp) ?_ (by rw[List.size_toArray]<;>omega)
 rw[slicePick_cut,←hlen]
 refine⟨.ref s.heap.objs.size,_,I.laid (t':=s.toks) (o:= .lst (cutV xs lo hi)) (fun b ob q=>Heap.get?_push_of_some _ q) (Nat.le_refl _) ?_,rfl,q _ (I.hok.fresh (Nat.le_refl _))⟩
 exact⟨Nat.le_trans (cutV_length xs lo hi) hz,_,0,(r.drop (HT.sIx xs.length 0 lo)).take (HT.sIx xs.length xs.length hi-HT.sIx xs.length 0 lo),Heap.get?_push_size _ rfl⟩
noncomputable def flatV:V→Bool
 | .non=>true
 | .bl _=>true
 | .int _=>true
 | .str _=>true
 | _=>false
noncomputable def eqV:V→V→Bool
 | .non,.non=>true
 | .bl a,.bl b=>a==b
 | .bl a,.int b=>(if a then 1 else 0)==b
 | .int a,.bl b=>a==(if b then 1 else 0)
 | .int a,.int b=>a==b
 | .str a,.str b=>a==b
 | _,_=>false
theorem eqAt_V {A:Around} {s:Shared} {y x:V} {u v:Value} (ry:RelV y u) (rx:RelV x v) (fy:flatV y=true) (fx:flatV x=true):SeqAt.EqAt A s u v (eqV y x):=by
 cases y with
 | non=>
  cases ry
  cases x with
  | non=>cases rx;exact SeqAt.EqAt.same _
  | bl b=>cases rx;exact SeqAt.EqAt.none_bool b
  | int b=>obtain⟨t,rfl⟩:=rx;exact SeqAt.EqAt.none_int b t
  | str b=>obtain⟨t,rfl⟩:=rx;exact SeqAt.EqAt.none_str b t
  | _=>exact absurd (show false=true from fx) Bool.false_ne_true
 | bl a=>
  cases ry
  cases x with
  | non=>cases rx;exact SeqAt.EqAt.bool_none a
  | bl b=>cases rx;exact SeqAt.EqAt.bool_bool a b
  | int b=>obtain⟨t,rfl⟩:=rx;exact SeqAt.EqAt.bool_int a b t
  | str b=>obtain⟨t,rfl⟩:=rx;exact SeqAt.EqAt.bool_str a b t
  | _=>exact absurd (show false=true from fx) Bool.false_ne_true
 | int a=>
  obtain⟨t',rfl⟩:=ry
  cases x with
  | non=>cases rx;exact SeqAt.EqAt.int_none a t'
  | bl b=>cases rx;exact SeqAt.EqAt.int_bool a t' b
  | int b=>obtain⟨t,rfl⟩:=rx;exact SeqAt.EqAt.int_int a t' b t
  | str b=>obtain⟨t,rfl⟩:=rx;exact SeqAt.EqAt.int_str a t' b t
  | _=>exact absurd (show false=true from fx) Bool.false_ne_true
 | str a=>
  obtain⟨t',rfl⟩:=ry
  cases x with
  | non=>cases rx;exact SeqAt.EqAt.str_none a t'
  | bl b=>cases rx;exact SeqAt.EqAt.str_bool a t' b
  | int b=>obtain⟨t,rfl⟩:=rx;exact SeqAt.EqAt.str_int a t' b t
  | str b=>obtain⟨t,rfl⟩:=rx;exact SeqAt.EqAt.str_str a t' b t
  | _=>exact absurd (show false=true from fx) Bool.false_ne_true
 | _=>exact absurd (show false=true from fy) Bool.false_ne_true
noncomputable def eqU (x:V) (u:Value):Bool:=match u with
 | .none=>eqV .non x
 | .bool b=>eqV (.bl b) x
 | .int i _=>eqV (.int i) x
 | .str z _=>eqV (.str z) x
 | _=>false
theorem eqU_of {x y:V} {u:Value} (r:RelV y u) (f:flatV y=true):eqU x u=eqV y x:=by
 cases y with
 | non=>cases r;rfl
 | bl b=>cases r;rfl
 | int i=>obtain⟨t,rfl⟩:=r;rfl
 | str z=>obtain⟨t,rfl⟩:=r;rfl
 | _=>exact absurd (show false=true from f) Bool.false_ne_true
theorem any_eqU {x:V}: ∀{xs:List V} {us:List Value},Vals xs us→xs.all flatV=true→us.any (eqU x)=xs.any fun y=>eqV y x
 | _,_,.nil,_=>rfl
 | y::xs,u::us,.cons r t,f=>by
  rw[List.all_cons,Bool.and_eq_true] at f
  rw[List.any_cons,List.any_cons,eqU_of r f.1,any_eqU t f.2]
theorem mem_eqAt {A:Around} {s:Shared} {x:V} {v:Value} (rx:RelV x v) (fx:flatV x=true): ∀{xs:List V} {us:List Value},Vals xs us→xs.all flatV=true→∀u∈us,SeqAt.EqAt A s u v (eqU x u)
 | _,_,.nil,_=>fun u hu=>by cases hu
 | y::xs,u::us,.cons r t,f=>fun u' hu=>by
  rw[List.all_cons,Bool.and_eq_true] at f
  rcases List.mem_cons.mp hu with rfl | hu
  ·rw[eqU_of r f.1];exact eqAt_V r rx f.1 fx
  ·exact mem_eqAt rx fx t f.2 u' hu
noncomputable def inV (x:V) (xs:List V):Bool:=xs.any fun y=>eqV y x
noncomputable def rIn (K:PySem.W.Frag) (neg:Bool):R2:=fun x y H Q=> ∃p xs,y= .ref p∧(SqL K H p xs∨SqT K H p xs)∧flatV x=true∧xs.all flatV=true∧Q (.bl (if neg then !inV x xs else inV x xs)) H
theorem op_in_seq:OpR X (compareOp .In) (rIn X.K false):=by
 intro pins s σ H x y v u Q I rx ry h
 obtain⟨p,xs,rfl,hq,fx,fs,q⟩:=h
 cases ry
 rcases hq with hq | hq
 ·obtain⟨its,r,pl,hz⟩:=I.list hq
  refine SeqAt.in_listAt (eqU x) pl.isList (fun w hw=>mem_eqAt rx fx r fs w (by simpa using hw)) ⟨.bl _,H,I,rfl,?_⟩
  rw[show its.toArray.any (eqU x)=its.any (eqU x) by simp,any_eqU r fs]
  exact q
 ·obtain⟨its,r,pl,hz⟩:=I.tuple hq
  refine SeqAt.in_tupleAt (eqU x) pl (fun w hw=>mem_eqAt rx fx r fs w (by simpa using hw)) ⟨.bl _,H,I,rfl,?_⟩
  rw[show its.toArray.any (eqU x)=its.any (eqU x) by simp,any_eqU r fs]
  exact q
theorem op_notIn_seq:OpR X (compareOp .NotIn) (rIn X.K true):=by
 intro pins s σ H x y v u Q I rx ry h
 obtain⟨p,xs,rfl,hq,fx,fs,q⟩:=h
 cases ry
 rcases hq with hq | hq
 ·obtain⟨its,r,pl,hz⟩:=I.list hq
  refine SeqAt.notIn_listAt (eqU x) pl.isList (fun w hw=>mem_eqAt rx fx r fs w (by simpa using hw)) ⟨.bl _,H,I,rfl,?_⟩
  rw[show its.toArray.any (eqU x)=its.any (eqU x) by simp,any_eqU r fs]
  exact q
 ·obtain⟨its,r,pl,hz⟩:=I.tuple hq
  refine SeqAt.notIn_tupleAt (eqU x) pl (fun w hw=>mem_eqAt rx fx r fs w (by simpa using hw)) ⟨.bl _,H,I,rfl,?_⟩
  rw[show its.toArray.any (eqU x)=its.any (eqU x) by simp,any_eqU r fs]
  exact q
theorem call_len_seq:CallR X (.builtin "len") (fun xs H Q=> ∃p ys,xs=[.ref p]∧(SqL X.K H p ys∨SqT X.K H p ys)∧Q (.int ys.length) H):=by
 intro pins s σ H xs us Q I r h
 obtain⟨p,ys,rfl,hq,q⟩:=h
 obtain⟨u,rfl,rx⟩:=vals1 r
 cases rx
 have hn:=line63
 rcases hq with hq | hq
 ·obtain⟨its,r',pl,hz⟩:=I.list hq
  have hlen:=r'.length
  exact Calls.call_len_list pl.isList (by simp only[List.size_toArray]<;>omega) ⟨.int ys.length,H,I.tok _,⟨s.toks+1,by rw[List.size_toArray,hlen]⟩,q⟩
 ·obtain⟨its,r',pl,hz⟩:=I.tuple hq
  have hlen:=r'.length
  exact len_tuple pl (by simp only[List.size_toArray]<;>omega) ⟨.int ys.length,H,I.tok _,⟨s.toks+1,by rw[List.size_toArray,hlen]⟩,q⟩
theorem CallR.or {f:Value} {r r':List V→Hp→VK→Prop} (h:CallR X f r) (h':CallR X f r'):CallR X f (fun xs H Q=>r xs H Q∨r' xs H Q):=by
 intro pins s σ H xs us Q I rs q
 rcases q with q | q
 ·exact h pins s σ H xs us Q I rs q
 ·exact h' pins s σ H xs us Q I rs q
theorem call_list_of:CallR X (.type "list") (fun xs H Q=> ∃p ys,xs=[.ref p]∧(SqL X.K H p ys∨SqT X.K H p ys)∧∀l,H l=none→Q (.ref l) (upd H l (.lst ys))):=by
 intro pins s σ H xs us Q I r h
 obtain⟨p,ys,rfl,hq,q⟩:=h
 obtain⟨u,rfl,rx⟩:=vals1 r
 cases rx
 have fin: ∀(its:List Value),Vals ys its→ys.length≤sizeLine→∀(h':Heap) (c':Nat),(∀b o',s.heap.get? b=some o'→h'.get? b=some o')→
   h'.get? s.heap.objs.size=some {cls:= .type "list",dict:=none,data:= .seq its.toArray c',slots:= #[]}→EP X pins σ Q (.ref s.heap.objs.size) {s with heap:=h'}:=fun its r' hz h' c' kp e=>
  ⟨.ref s.heap.objs.size,_,I.laid (t':=s.toks) kp (Nat.le_refl _) (show aDs X.prog X.w _ h' _ (.lst ys) from⟨hz,its,c',r',e⟩),rfl,q _ (I.hok.fresh (Nat.le_refl _))⟩
 rcases hq with hq | hq
 ·obtain⟨its,r',pl,hz⟩:=I.list hq
  have hlen:=r'.length
  obtain⟨o,ho,hc,n,hd⟩:=pl.isList
  exact call_list_seq p (.inl rfl) ho hc hd (fun h' c' kp e=>fin its r' hz h' c' kp e) (by simp only[List.size_toArray]<;>omega)
 ·obtain⟨its,r',pl,hz⟩:=I.tuple hq
  have hlen:=r'.length
  obtain⟨o,ho,hc,n,hd⟩:=pl
  exact call_list_seq p (.inr rfl) ho hc hd (fun h' c' kp e=>fin its r' hz h' c' kp e) (by simp only[List.size_toArray]<;>omega)
theorem call_tuple_of:CallR X (.type "tuple") (fun xs H Q=> ∃p ys,xs=[.ref p]∧((SqL X.K H p ys∧∀l,H l=none→Q (.ref l) (upd H l (.tup ys)))∨(SqT X.K H p ys∧Q (.ref p) H))):=by
 intro pins s σ H xs us Q I r h
 obtain⟨p,ys,rfl,h⟩:=h
 obtain⟨u,rfl,rx⟩:=vals1 r
 cases rx
 rcases h with⟨hq,q⟩ |⟨hq,q⟩
 ·obtain⟨its,r',pl,hz⟩:=I.list hq
  have hlen:=r'.length
  refine call_tuple_list pl.isList (fun h' kp=> ?_) (by simp only[List.size_toArray]<;>omega)
  have I1:Inv X pins σ H {s with heap:=h'}:=I.kept (t':=s.toks) kp
  have I2:Inv X pins σ (upd H h'.objs.size (.tup ys)) {s with heap:=h'.push {cls:= .type "tuple",data:= .seq its.toArray}}:=
   I1.laid (t':=s.toks) (fun b o e=>Heap.get?_push_of_some _ e) (Nat.le_refl _) (show aDs X.prog X.w _ _ _ (.tup ys) from⟨hz,its,r',TupD.new _ _⟩)
  exact⟨.ref h'.objs.size,_,I2,rfl,q _ (I1.hok.fresh (Nat.le_refl _))⟩
 ·obtain⟨its,r',pl,hz⟩:=I.tuple hq
  exact call_tuple_same pl ⟨.ref p,H,I,rfl,q⟩
noncomputable def tyV (K:PySem.W.Frag) (T:String) (x:V) (H:Hp):Prop:=match x with
 | .str _=>T="str"
 | .int _=>T="int"
 | .ref p=>(T="list"∧∃xs,SqL K H p xs)∨(T="tuple"∧∃o,K.lookup p=some o∧o.cls= .type "tuple"∧o.dict=none)∨
   (T="dict"∧((∃kvs,H p=some (.dK kvs))∨∃kvs,H p=some (.dT kvs)))∨(T="set"∧∃S n,H p=some (.set S n))
 | _=>False
theorem tyV_is {pins:List (Addr×Obj)} {σ:St} {H:Hp} {s:Shared} {T:String} {x:V} {v:Value} (I:Inv X pins σ H s) (r:RelV x v) (ty:tyV X.K T x H):
  s.TypeIs v T∧∀a,v= .ref a→∃ob,s.heap.get? a=some ob∧ob.dict=none:=by
 cases x with
 | str z=>
  obtain⟨t,rfl⟩:=r
  cases (show T="str" from ty)
  exact⟨typeIs_str s z t,fun _ e=>nomatch e⟩
 | int i=>
  obtain⟨t,rfl⟩:=r
  cases (show T="int" from ty)
  exact⟨typeIs_int s i t,fun _ e=>nomatch e⟩
 | ref p=>
  cases r
  rcases ty with⟨rfl,xs,hq⟩ |⟨rfl,o,hk,hc,hd⟩ |⟨rfl,hk⟩ |⟨rfl,S,n,hk⟩
  ·obtain⟨its,_,pl,_⟩:=I.list hq
   refine⟨pl.isList.typeIs,fun a e=> ?_⟩
   cases e
   obtain⟨o,n,e,c,hd,_⟩:=pl
   exact⟨o,e,hd⟩
  ·refine⟨⟨o,I.kIn p o hk,hc⟩,fun a e=> ?_⟩
   cases e
   exact⟨o,I.kIn _ o hk,hd⟩
  ·have z: ∃o,s.heap.get? p=some o∧o.ExactDict:=by
    rcases hk with⟨kvs,hk⟩ |⟨kvs,hk⟩
    ·obtain⟨_,_,_,_,o,_,_,e,ex,_⟩:=I.hok p _ hk
     exact⟨o,e,ex⟩
    ·obtain⟨_,_,_,_,o,_,_,e,ex,_⟩:=I.hok p _ hk
     exact⟨o,e,ex⟩
   obtain⟨o,e,ex⟩:=z
   refine⟨⟨o,e,ex.1⟩,fun a e2=> ?_⟩
   cases e2
   exact⟨o,e,ex.2.1⟩
  ·obtain⟨⟨o,_,_,_,e,ex,_⟩,_⟩:=I.hok p _ hk
   refine⟨⟨o,e,ex.1⟩,fun a e2=> ?_⟩
   cases e2
   exact⟨o,e,ex.2.1⟩
 | _=>exact False.elim ty
noncomputable def tBM (K:PySem.W.Frag) (T:String) (r:V→List V→Hp→VK→Prop) (to:TE) (t:TA):TE:=fun σ H Q=>to σ H fun x H1=>tyV K T x H1∧t σ H1 fun xs H2=>r x xs H2 Q
variable {o e:Expr} {es:List Expr} {to:TE} {t:TA} {name:Str} {apos cpos:Pos} {T id:String} {r:V→List V→Hp→VK→Prop}
theorem pe_bm (pa:PlainAttrs T) (slot:Slot T name id) (hty:typeOf (.builtin id)=pure (.type "method_descriptor")) (hm:MtR X id r) (ho:PE X o to) (ha:PA X (e::es) t)
  (hbase:attributeBase o name X.env (eval o X.env)=eval o X.env:=by rfl)
  (hfew:((backTo cpos (starEach (e::es) X.env)).all (fun x=> !x.1)&&(backToKw cpos (keywordEach [] X.env)).all (fun x=>x.1.isSome)
   &&decide ((e::es).length+([]:List Keyword).length+(if ([]:List Keyword).isEmpty then 0 else 1)<30))=true:=by rfl)
  (hline:(apos.endLine==cpos.line)=true:=by rfl) (hs:starEach (e::es) X.env=(false,eval e X.env)::starEach es X.env:=by rfl) (hplain:(backTo cpos (starEach es X.env)).any (·.1)=false:=by rfl):
  PE X (.Call (.Attribute o name apos) (e::es) [] cpos) (tBM X.K T r to t):=by
 intro pins s σ H Q I h
 refine wpAny_Call_method_late hbase hfew hline rfl (thn (ho pins s σ H _ I h) fun v s1 ⟨x,H1,I1,r1,ty,q1⟩=> ?_)
 obtain⟨h1,h2⟩:=tyV_is I1 r1 ty
 refine⟨T,id,pa,slot,hty,h1,h2,?_⟩
 have hA:=ha cpos pins s1 σ H1 _ I1 q1
 rw[hs] at hA⊢
 refine Calls.callWith_builtin (by show (false ||(backTo cpos (starEach es X.env)).any (·.1))=false;rw[hplain]<;>rfl) (Calls.evalArgs_plain ?_)
 exact thn hA fun us s2 ⟨vs,H2,I2,r2,q2⟩=>hm pins s2 σ H2 x vs v us Q I2 r1 r2 q2
end
noncomputable def MtM (X:Cx) (id:String) (r:V→List V→Hp→VK→Prop):Prop:=
 ∀(pins:List (Addr×Obj)) (s:Shared) (σ:St) (H:Hp) (x:V) (xs:List V) (v:Value) (us:List Value) (Q:VK),Inv X pins σ H s→RelV x v→Vals xs us→r x xs H Q→
  wpAny (model X.prog X.w) X.A (call (.builtin id) (v::us)) (EP X pins σ Q) X.xe s
theorem Vals.one {x:V} {us:List Value} (h:Vals [x] us): ∃u,us=[u]∧RelV x u:=by
 cases h with | cons r t=>cases t;exact⟨_,rfl,r⟩
section
variable {X:Cx} {pins:List (Addr×Obj)} {σ:St} {H:Hp} {s:Shared} {l b:Addr} {xs ys zs:List V}
theorem Inv.lset {its its':List Value} {n:Nat} {f:Array Value→Array Value} {t':Nat} (I:Inv X pins σ H s) (hH:H l=some (.lst xs))
  (e:s.heap.get? l=some {cls:= .type "list",data:= .seq its.toArray n}) (hf:f its.toArray=its'.toArray) (hv:Vals ys its') (hz:ys.length≤sizeLine):
  Inv X pins σ (upd H l (.lst ys)) {s with heap:=s.heap.update l (Obj.mapSeq f),toks:=t'}:=by
 have q:=PySem.IsL.update e f
 rw[hf] at q
 refine I.write (x:=l) (e:=l) (by rw[hH];exact trivial) (.inl rfl) (fun b' u hb hu=>(Heap.get?_update_other s.heap (Obj.mapSeq f) (Ne.symm hb)).trans hu) ⟨_,q⟩ ?_
 exact⟨hz,its',_,hv,q⟩
theorem Inv.lnew {its:List Value} {t':Nat} (I:Inv X pins σ H s) (hv:Vals ys its) (hz:ys.length≤sizeLine):
  Inv X pins σ (upd H s.heap.objs.size (.lst ys)) {s with heap:=s.heap.push {cls:= .type "list",data:= .seq its.toArray},toks:=t'}:=
 I.laid (fun _ _ q=>Heap.get?_push_of_some _ q) (Nat.le_refl _) ⟨hz,its,0,hv,Heap.get?_push_size _ rfl⟩
theorem Inv.fresh (I:Inv X pins σ H s):H s.heap.objs.size=none:=I.hok.fresh (Nat.le_refl _)
theorem Inv.lstM (I:Inv X pins σ H s) (hH:H l=some (.lst xs)):xs.length≤sizeLine∧∃(its:List Value) (n:Nat),Vals xs its∧xs.length=its.length∧s.heap.get? l=some {cls:= .type "list",data:= .seq its.toArray n}:=by
 obtain⟨z,its,n,r,e⟩:=I.hok l _ hH
 exact⟨z,its,n,r,r.length,e⟩
theorem notLongL {n:Nat} (h:n≤sizeLine):Builtin.List.listTooLong n=false:=by
 unfold Builtin.List.listTooLong
 exact decide_eq_false (by omega)
end
section
variable {X:Cx}
noncomputable def rAppend:V→List V→Hp→VK→Prop:=fun x vs H Q=> ∃l xs y,x= .ref l∧vs=[y]∧H l=some (.lst xs)∧xs.length<sizeLine∧Q .non (upd H l (.lst (xs++ [y])))
theorem mt_append:MtM X "list.append" rAppend:=by
 intro pins s σ H x vs v us Q I rx rv h
 obtain⟨l,xs,y,rfl,rfl,hH,hz,q⟩:=h
 cases rx
 obtain⟨u,rfl,ru⟩:=rv.one
 obtain⟨z,its,n,r,hl,e⟩:=I.lstM hH
 refine call_meets F.slot_list_append ⟨_,e,rfl⟩ F.entry_list_append (F.args_list_append_2 _ _) (PySem.list_append l its.toArray n u (by rw[List.size_toArray];omega)) ⟨e,?_⟩
 refine⟨.non,_,I.lset (its':=its++ [u]) hH e (by simp) (r.append (.cons ru .nil)) ?_,rfl,q⟩
 rw[List.length_append,List.length_singleton]
 omega
end
end L2
namespace Att
open PySem PySem.W PySem.Calls PyProof.Rows
theorem ints_of_wellAll {P:Params} {h:Heap}: ∀(ns:List Int) (vs:List Value),WellAll P h vs (ns.map WData.int)→IntsAre vs ns:=by
 intro ns
 induction ns with
 | nil=>
  intro vs w
  rw[List.map_nil] at w
  cases w
  exact .nil
 | cons n ns ih=>
  intro vs w
  rw[List.map_cons] at w
  cases w with
  | cons a b=>
   cases a
   exact .cons _ _ (ih _ b)
theorem script_of {l:OpenLaw} {n:Nat} (hn:l.most=some n) {P:Params} {h:Heap} {args:List WData} {vals:List Value}
  (hpre:l.row.toRowW.claim.pre args=true) (hwl:WellAll P h vals args):
  ∃a vs ns,vals=[Value.ref a]∧args=[WData.list (ns.map WData.int)]∧h.get? a=some {cls:= .type "list",data:= .seq vs.toArray}∧IntsAre vs ns∧ns.length≤n:=by
 have hsh:WShape.hasAll [] args [.list .int]=true:=(pre_splitW hpre).1
 have hc:l.pre.holds [] {args:=args}=true:=(pre_splitW hpre).2
 obtain⟨d,r,rfl,h1,h2⟩:=hasAllW_cons hsh
 obtain rfl:=hasAllW_nil h2
 obtain⟨xs,rfl,h3⟩:=hasW_list h1
 obtain⟨ns,rfl⟩:=items_int h3
 have hlen:ns.length≤n:=by
  unfold OpenLaw.pre at hc
  have h4:(WTm.not (.lt (.lit (.int (n:Int))) (.len (.arg 0)))).holds [] {args:=[.list (ns.map .int)]}=true:=by
   have h4:=(holds_andW hc).1
   rw[hn] at h4
   exact h4
  have h5:=condW_of h4 (w_not (w_lt w_lit (w_len_list (w_arg rfl))))
  rw[List.length_map] at h5
  refine Nat.le_of_not_lt fun q=> ?_
  have q':(n:Int)<((ns.length:Nat):Int):=by omega
  first
   |(rw[decide_eq_true q'] at h5;exact absurd h5 (by decide))
   |(simp at h5;omega)
 cases hwl with
 | cons w1 w2=>
  cases w2
  cases w1 with
  | list ho hall=>exact⟨_,_,ns,rfl,rfl,ho,ints_of_wellAll ns _ hall,hlen⟩
theorem post_true (l:OpenLaw) (args:List WData):l.row.toRowW.claim.post args (.bool true) args=true:=
 postW_of (r:=l.row.toRowW) (X:=(true==true))
  (show WShape.has [] (.bool true) .bool=true by first | rfl | decide | simp[WShape.has,WShape.arms,WShape.armsAll])
  (show (WTm.eq .res (.lit (.bool true))).value [] {args:=args,res:=some (.bool true),after:=args}=some (.bool (true==true)) from w_eq_bool (w_res rfl) w_lit) rfl
theorem attach_call {l:OpenLaw} {n:Nat} {q:Program} {loose:List Str} {XP:(Str→Option Value)→Heap→Prop} {YP:World→Heap→Prop} {d:DefRec}
  (hn:l.most=some n) (hdf:d.params.defaults=[])
  (call: ∀(w:World) (s₀ s₁:Shared) (mg mb:Str→Option Value) (fa:Addr) (o:Obj) (pm cd doc:Value) (a:Addr) (vs:List Value) (ns:List Int),
   Ground q loose [] XP w s₀ mg mb s₁.heap→YP w s₁.heap→
   s₁.heap.get? fa=some o→o.data= .func (docDef d.name d.params d.body d.scope pm cd doc)→s₁.heap.CodeRec cd d.name→mg d.name=some (.ref fa)→
   s₁.heap.get? a=some {cls:= .type "list",data:= .seq vs.toArray}→IntsAre vs ns→ns.length≤n→s₁.gens= #[]→
   codeAny (model l.prog w) callerA (.call (.ref fa) ⟨[.ref a],[]⟩) (fun r s'=>r= .ok (.ret (.bool true))∧OldK s₁.heap s'.heap∧s'.os=s₁.os∧AllBare s'.gens) s₁):
  WalkO q loose XP YP l.row.toRowW d [] (fun f vs=>PySem.call f vs):=by
 intro w s₀ s₁ mg mb G Y fa o pm cd doc dV kV ho hd hcd hD hmg hg args vals as hpre hlay hrd hwl hlo
 obtain rfl:dV= .none:=Dflts.none hD hdf
 obtain rfl:kV= .none:=Dflts.noKw hD
 obtain⟨a,vs,ns,rfl,rfl,hobj,hints,hlen⟩:=script_of hn hpre hwl
 refine enter_call (codeAny_mono (call w s₀ s₁ mg mb fa o pm cd doc a vs ns G Y ho (fd_plain hd) hcd hmg hobj hints hlen hg) fun r s' hq=> ?_)
 obtain⟨rfl,h2,h3,h4⟩:=hq
 exact⟨.inl ⟨.bool true,.bool true,[],rfl,fun _=>rfl,.bool true,post_true l _,fun _=>⟨List.Pairwise.nil,fun _ hm=>(nomatch hm)⟩⟩,h2,h3,h4⟩
section
variable {prog:Program} {w:World} {A:Around} {E:Value→Shared→Prop} {s:Shared} {K:Frag}
noncomputable def ledger (h:Heap) (L d:Addr):List (Addr×Obj):=(List.range h.objs.size).filterMap fun a=>if a=L∨a=d then none else (h.get? a).map fun o=>(a,o)
end
end Att
namespace L2
open PySem PySem.Spec PyProof.Rows
theorem vals_ints: ∀{vs:List Value} {ns:List Int},IntsAre vs ns→Vals (ns.map V.int) vs
 | _,_,.nil=> .nil
 | _,_,.cons n t h=> .cons ⟨t,rfl⟩ (vals_ints h)
noncomputable def Only (H:Hp):Prop:= ∀b,H b=none∨∃o xs,H b=some (.frz o (.lst xs))
theorem law_call {P:Program} {w:World} {K:PySem.W.Frag} {mg mb:Str→Option Value} {CX:CXT} {k:Nat} {fa a:Addr} {fd:FuncData} {x:Str} {sp:Sp} {s₁:Shared} {vs:List Value} {ns:List Int}
  (KX:K.In s₁.heap) (hns:s₁.heap.Ns mainGlobals mg) (hb:s₁.heap.Ns builtinsNs mb) (hbb: ∀x:Str,x≠"__name__"→mb x=bootBuiltins x) (hlim:s₁.heap.NoLimit) (hg:s₁.gens= #[])
  (ha:s₁.heap.get? a=some {cls:= .type "list",data:= .seq vs.toArray}) (hi:IntsAre vs ns) (hl:ns.length≤sizeLine) (hr:Room k callerA)
  (F: ∀base:Heap,K.In base→base.Ns mainGlobals mg→FnOk P w K mg base CX k fa fd [x] sp) (hbind: ∀(s:Shared) (u:Value),BindsTo s fd ⟨[u],[]⟩ [(x,u)])
  (hsp: ∀H:Hp,Only H→SqL K H a (ns.map V.int)→sp [.ref a] H (fun v _=>v= .bl true) fun _ _ _=>False)
  (hCX: ∀H e s',CX [] H s₁ (fun _ _ _=>False) e s'→False):
  codeAny (model P w) callerA (.call (.ref fa) ⟨[.ref a],[]⟩) (fun r s'=>r= .ok (.ret (.bool true))∧OldK s₁.heap s'.heap∧s'.os=s₁.os∧AllBare s'.gens) s₁:=by
 have rv:=vals_ints hi
 have lenV:=hi.length
 have core: ∀H:Hp,Only H→SqL K H a (ns.map V.int)→HOk P w H s₁.heap→(∀b,H b≠none→b=a)→(H a≠none→K.lookup a=none)→
   codeAny (model P w) callerA (.call (.ref fa) ⟨[.ref a],[]⟩) (fun r s'=>r= .ok (.ret (.bool true))∧OldK s₁.heap s'.heap∧s'.os=s₁.os∧AllBare s'.gens) s₁:=by
  intro H hO hS hok hA hK
  have base_of: ∀{b:Addr} {o:Obj},s₁.heap.get? b=some o→H b=none→(hidT s₁.heap H).get? b=some o:=fun e n=>hidT_get e n
  have noA: ∀{b:Addr} {o:Obj} {es:Array DictEntry} {ep:Nat},s₁.heap.get? b=some o→o.data= .dict es ep→H b=none:=fun {b o es ep} e d=>by
   cases q:H b with
   | none=>rfl
   | some u=>
    have e':b=a:=hA b (by rw[q];simp)
    subst e'
    rw[ha] at e;cases e
    have d':Data.seq vs.toArray _=Data.dict es ep:=d
    cases d'
  have nsK: ∀{b:Addr} {m:Str→Option Value},s₁.heap.Ns b m→(hidT s₁.heap H).Ns b m:=fun {b m} ⟨o,es,ep,e,d,r⟩=>⟨o,es,ep,base_of e (noA e d),d,r⟩
  have hKb:K.In (hidT s₁.heap H):=fun b o e=>base_of (KX b o e) (by
   cases q:H b with
   | none=>rfl
   | some u=>
    have e':b=a:=hA b (by rw[q];simp)
    subst e'
    rw[hK (by rw[q];simp)] at e;cases e)
  have hM:Mod K mg (hidT s₁.heap H):=⟨hKb,nsK hns,⟨mb,nsK hb,hbb⟩,let ⟨mc,h1,h2⟩:=hlim;⟨mc,nsK h1,h2⟩⟩
  have e0:Env0 P w K mg (hidT s₁.heap H) callerA [] s₁ H:=⟨rfl,hM,fun b o e=>of_hidT e,Nat.le_of_eq (hidT_size _ _),trivial,fun b hb=>absurd (show b∈([]:List Addr) from hb) (by simp),hok,.of_eq hg⟩
  refine codeAny_mono ((F _ hKb (nsK hns)).run callerA [] s₁ H ⟨[.ref a],[]⟩ [.ref a] [.ref a] _ _ hr e0 (hbind s₁ (.ref a)) (.cons rfl .nil) (hsp H hO hS)) fun r s' h=> ?_
  cases r with
  | error e=>exact (hCX H e s' h).elim
  | ok fl=>
   cases fl with
   | next=>exact False.elim h
   | brk=>exact False.elim h
   | cont=>exact False.elim h
   | ret u=>
    obtain⟨v,H',os,bare,un,hok',r',q⟩:=h
    have q':v= .bl true:=q
    subst q'
    obtain rfl:u=Value.bool true:=r'
    refine⟨rfl,OldK.of_keep fun b o e=> ?_,os,bare⟩
    cases q:H b with
    | none=>exact un.keep b o e q (by intro z;exact absurd (show b∈([]:List Addr) from z) (by simp)) (by simp)
    | some u=>
     rcases hO b with z |⟨ob,xs,z⟩
     ·rw[q] at z;cases z
     ·have z2:=un.frzs b ob _ z
      obtain⟨e1,_⟩:=hok b _ z
      obtain⟨e2,_⟩:=hok' b _ z2
      rw[e] at e1;cases e1
      exact e2
 cases hk:K.lookup a with
 | some o=>
  have e:=KX a o hk
  rw[ha] at e
  cases e
  refine core (fun _=>none) (fun _=> .inl rfl) (.inr ⟨_,vs.toArray,_,hk,rfl,rfl,rfl,by rw[List.size_toArray,lenV];exact hl,by simpa using rv⟩) (fun b u z=>by have z':(none:Option HO)=some u:=z;cases z') (fun b z=>absurd rfl z) fun z=>absurd rfl z
 | none=>
  refine core (fun b=>if b=a then some (.frz {cls:= .type "list",data:= .seq vs.toArray} (.lst (ns.map V.int))) else none) (fun b=> ?_) (.inl (.inr ⟨{cls:= .type "list",data:= .seq vs.toArray},if_pos rfl⟩)) (fun b u z=> ?_) (fun b z=> ?_) fun _=>hk
  ·by_cases hb:b=a
   ·exact .inr ⟨_,_,if_pos hb⟩
   ·exact .inl (if_neg hb)
  ·by_cases hb:b=a
   ·have z':=(if_pos hb).symm.trans z
    cases z'
    subst hb
    exact⟨ha,by rw[List.length_map];exact hl,vs,_,rv,ha⟩
   ·have z':=(if_neg hb).symm.trans z
    cases z'
  ·by_cases hb:b=a
   ·exact hb
   ·exact absurd (if_neg hb) z
noncomputable abbrev KOf {K:PySem.W.Frag} {h:Heap} (_:K.In h):PySem.W.Frag:=K
theorem walk_of {l:PySem.W.OpenLaw} {n k:Nat} {q:Program} {loose:List Str} {XP:(Str→Option Value)→Heap→Prop} {YP:World→Heap→Prop} {d:DefRec} {K:Params→PySem.W.Frag} {CX:World→CXT} {sp:World→Sp} {x:Str}
  (hn:l.most=some n) (hn2:n≤sizeLine) (hdf:d.params.defaults=[]) (hr:Room k callerA)
  (hY: ∀(w:World) (h:Heap),YP w h→(K w.params).In h)
  (F: ∀(w:World) (mg:Str→Option Value) (fa:Addr) (h:Heap),(K w.params).In h→h.Ns mainGlobals mg→mg d.name=some (.ref fa)→
   ∃fd:FuncData,(∀(s:Shared) (u:Value),BindsTo s fd ⟨[u],[]⟩ [(x,u)])∧
    ∀base:Heap,(K w.params).In base→base.Ns mainGlobals mg→FnOk l.prog w (K w.params) mg base (CX w) k fa fd [x] (sp w))
  (hsp: ∀(w:World) (H:Hp) (a:Addr) (ns:List Int),ns.length≤n→Only H→SqL (K w.params) H a (ns.map V.int)→sp w [.ref a] H (fun v _=>v= .bl true) fun _ _ _=>False)
  (hCX: ∀(w:World) (H:Hp) (s:Shared) (e:Value) (s':Shared),CX w [] H s (fun _ _ _=>False) e s'→False):
  PySem.W.WalkO q loose XP YP l.row.toRowW d [] (fun f vs=>PySem.call f vs):=by
 refine Att.attach_call hn hdf fun w s₀ s₁ mg mb fa o pm cd doc a vs ns G Y ho hd hcd hmg hobj hints hlen hg=> ?_
 have KX:=hY w _ Y
 obtain⟨fd,hb,hF⟩:=F w mg fa _ KX G.T.g hmg
 exact law_call KX G.T.g G.T.b G.T.builtins G.T.nolimit hg hobj hints (Nat.le_trans hlen hn2) hr hF hb (fun H hO hS=>hsp w H a ns hlen hO hS) fun H e s'=>hCX w H s₁ e s'
noncomputable def defArgs (s:Stmt):Arguments:=match s with
 | .FunctionDef _ a _ _ _ _ _ _ _ _=>a
 | _=>{posonlyargs:=[],args:=[],vararg:=none,kwonlyargs:=[],kw_defaults:=[],kwarg:=none,defaults:=[]}
noncomputable def aBi (s:Stmt):List Stmt:=match s with
 | .FunctionDef _ _ b _ _ _ _ _ _ _=>b
 | _=> []
noncomputable def aAi (s:Stmt):Scope:=match s with
 | .FunctionDef _ _ _ _ _ _ sc _ _ _=>sc
 | _=>{kind:= .function,names:=[],isGenerator:=false,isCoroutine:=false}
structure Fun (K:PySem.W.Frag) (x qual:Str) (st:Stmt) (f:Addr) (fd:FuncData):Prop where
 ex: ∃(oc:Value) (od:Option Addr) (kV doc pm:Value) (an:Option Addr) (cdv ct:Value) (osl:Array (Option Value)),
  fd=PySem.W.fnOf x qual (defArgs st) (aBi st) (aAi st) .none kV doc pm an cdv ct∧K.lookup f=some ⟨oc,od,.func fd,osl⟩∧PySem.W.codeIn K cdv qual=true
 kp:PySem.W.keepIn K (.ref f)=true
section
variable {P:Program} {w:World} {K:PySem.W.Frag} {mg:Str→Option Value} {base:Heap}
theorem Fun.binds {x qual:Str} {st:Stmt} {f:Addr} {fd:FuncData} {ps:List Str} (F:Fun K x qual st f fd)
  (h: ∀(kV doc pm:Value) (an:Option Addr) (cdv ct:Value) (us:List Value),us.length=ps.length→bindArgs (PySem.W.fnOf x qual (defArgs st) (aBi st) (aAi st) .none kV doc pm an cdv ct) ⟨us,[]⟩=pure (ps.zip us)):Binds K fd ps []:=by
 obtain⟨oc,od,kV,doc,pm,an,cdv,ct,osl,rfl,lk,hcd⟩:=F.ex
 exact .all (h kV doc pm an cdv ct)
theorem fun_mk {x qual:Str} {st:Stmt} {f:Addr} {oc:Value} {od an:Option Addr} {osl:Array (Option Value)} {kV doc pm cdv ct:Value} (l:K.lookup f=some ⟨oc,od,.func (PySem.W.fnOf x qual (defArgs st) (aBi st) (aAi st) .none kV doc pm an cdv ct),osl⟩)
  (c:PySem.W.codeIn K cdv qual=true) (k:PySem.W.keepIn K (.ref f)=true):Fun K x qual st f (PySem.W.fnOf x qual (defArgs st) (aBi st) (aAi st) .none kV doc pm an cdv ct):=⟨⟨oc,od,kV,doc,pm,an,cdv,ct,osl,rfl,l,c⟩,k⟩
end
theorem small1000 {n:Nat} (h:n≤1000):n<sizeLine:=Nat.lt_of_le_of_lt h (by decide)
noncomputable def Same (H H':Hp):Prop:= ∀b o,H b=some o→H' b=some o
theorem Same.refl (H:Hp):Same H H:=fun _ _ h=>h
theorem Same.trans {H H1 H2:Hp} (a:Same H H1) (b:Same H1 H2):Same H H2:=fun c o h=>b c o (a c o h)
theorem Same.seq {K:PySem.W.Frag} {H H':Hp} {a:Addr} {xs:List V} (e:Same H H') (h:SqL K H a xs):SqL K H' a xs:=by
 rcases h with (h |⟨o,h⟩) | h
 ·exact .inl (.inl (e _ _ h))
 ·exact .inl (.inr ⟨o,e _ _ h⟩)
 ·exact .inr h
end L2
set_option maxHeartbeats 4000000
namespace L2.HD
open PySem PySem.W
noncomputable def goU (thr okS:Thread→Bool) (f:SharedT→Thread→Option (SharedT×Thread)):Nat→SharedT→Thread→Option SharedT
 | 0,_,_=>none
 | n+1,s,t=>match thr t with
  | true=>some s
  | false=>match okS t with
   | false=>none
   | true=>match f s t with
    | some (s',t')=>goU thr okS f n s' t'
    | none=>none
theorem goU_top {tb:String→Option Builtin} {p:Program} {w:World} {n₀:Nat} {ann:Option Value}: ∀{n:Nat} {s s':SharedT} {t:Thread},
  goU through (stepOk n₀ ann) (stepT (denote tb) p w) n s t=some s'→topRun tb p w n₀ ann n s.abs t=some s'.abs
 | 0,_,_,_,h=>by cases h
 | n+1,s,s',t,h=>by
  unfold goU at h
  unfold topRun
  cases ht:through t with
  | true=>rw[ht] at h;cases h;rfl
  | false=>
   rw[ht] at h
   cases hk:stepOk n₀ ann t with
   | false=>rw[hk] at h;cases h
   | true=>
    rw[hk] at h
    cases hs:stepT (denote tb) p w s t with
    | none=>rw[hs] at h;cases h
    | some r=>obtain⟨s₂,t₂⟩:=r;rw[hs] at h;rw[stepT_spec hs];exact goU_top h
noncomputable def T0 (P:Params):BT:=(((((((((((BT.nil.ins 0 (boot_o_0 P)).ins 1 (boot_o_1 P)).ins 2 (boot_o_2 P)).ins 3 (boot_o_3 P)).ins 4 (boot_o_4 P)).ins 5 (boot_o_5 P)).ins 6 (boot_o_6 P)).ins 7 (boot_o_7 P)).ins 8 (boot_o_8 P)).ins 9 (boot_o_9 P)).ins 10 (boot_o_10 P))
noncomputable def S0 (w:World) (os:OsState):SharedT:=⟨T0 w.params,11,(boot_heap w.params).life,#[],boot_drawn,boot_toks,os⟩
theorem S0_abs (w:World) (os:OsState):(S0 w os).abs=⟨boot_heap w.params,#[],boot_drawn,boot_toks,os⟩:=by kernel_rfl
theorem size0 (w:World):((boot_heap w.params).isNs mainGlobals&&(#[]:Array GenState).size==0,(boot_heap w.params).objs.size,(boot_heap w.params).nsMap mainGlobals "__annotations__")=(true,11,some (.ref 6)):=by kernel_rfl
theorem left_of {p q:Program} {loose:List Str} {Xt:Shared→Bool} {α:Type} {Yf:Shared→α} {Ya:World→α} {N:Nat} {g0:Bool}
  (open_: ∀w:World,(fencedOpening treeTable p w N).map (fun s=>(s.heap,s.gens,s.drawn,s.toks))=some (boot_heap w.params,#[],boot_drawn,boot_toks))
  (run: ∀w:World,(fun os=>(goU through (stepOk 11 (some (.ref 6))) (stepT (denote treeTable) p w) N (S0 w os) (topStub p)).map (fun s=>
   ((staticsOk (importedModules p.main.body) (boot_heap w.params) s.abs.heap&&namesBound p s.abs.heap&&gensDone s.abs&&laidKept (boot_heap w.params) s.abs.heap),
    openSeen q loose (importedModules p.main.body) Xt g0 s.abs,Yf s.abs)))=fun _=>some (true,openGood q loose,Ya w)):LeftO p q loose Xt Yf Ya N g0:=fun w=>by
 obtain⟨⟨h,gs,d,k,os⟩,e,e'⟩:=Option.map_eq_some_iff.mp (open_ w)
 obtain⟨rfl,rfl,rfl,rfl⟩:h=boot_heap w.params∧gs= #[]∧d=boot_drawn∧k=boot_toks:=by simpa using e'
 obtain⟨s,r,z⟩:=Option.map_eq_some_iff.mp (congrFun (run w) os)
 have r:=goU_top r
 rw[S0_abs] at r
 obtain⟨z1,z2,z3⟩:_∧_∧_:=by simpa only[Prod.mk.injEq] using size0 w
 obtain⟨l1,l2,l3⟩:_∧_∧_:=by simpa only[Prod.mk.injEq] using z
 have t:topFrom treeTable p w N ⟨boot_heap w.params,#[],boot_drawn,boot_toks,os⟩=some s.abs:=by
  unfold topFrom
  dsimp only
  rw[z1,z2,z3,r]
  show (match staticsOk (importedModules p.main.body) (boot_heap w.params) s.abs.heap&&namesBound p s.abs.heap&&gensDone s.abs&&laidKept (boot_heap w.params) s.abs.heap with | true=>_ | false=>_)=_
  rw[l1]
 unfold openEnds
 rw[e]
 show (topFrom treeTable p w N _).map _=_
 rw[t]
 exact congrArg some (Prod.ext l2 l3)
noncomputable def vs (x:Str) (t:Nat):Value:= .str x t
noncomputable def vi (i:Int):Value:= .int i 0
noncomputable def de (P:Params) (x:Str) (t:Nat) (v:Value):DictEntry:=⟨PyData.keyHash P x,.str x t,v⟩
noncomputable def ob (c:String) (d:Data):Obj:={cls:= .type c,data:=d}
noncomputable def od (n:Nat) (es:List DictEntry):Obj:={cls:= .type "dict",data:= .dict es.toArray n}
noncomputable def ot (xs:List Value):Obj:={cls:= .type "tuple",data:= .seq xs.toArray}
noncomputable def ofd (c:String) (xs:List Value):Obj:={cls:= .type c,data:= .fields xs.toArray}
noncomputable def oc (x:Str) (xt:Nat) (q:Str) (a b c d e:Nat) (xs:List Value) (f g h:Nat):Obj:=
 ofd "code" ([.str x xt,.str q a,.str "/claim/cut.py" b,vi c,vi d,vi 0,vi 0,vi e]++xs++ [vi f,vi g,.str "/claim/cut.py" h])
noncomputable def of (x q:Str) (st:Stmt) (m:Str) (mt c:Nat):Obj:={cls:= .type "function",data:= .func (fnOf x q (defArgs st) (aBi st) (aAi st) .none .none .none (.str m mt) none (.ref c) .none)}
theorem holds_of {l:OpenLaw} {q:Program} {d:DefRec} {K:Params→Frag} {as:List Addr} {e: ∀P,as=(K P).map (·.1)} {N:Nat}
  (left:LeftO l.prog q [] (fun s=>xlAt q [] s&&recOk (RowW.records l.row.toRowW) s) (Hook.obs (kHook K as e)) (Hook.val (kHook K as e)) N)
  (said:l.row.wellSaid=true) (hdef:defOf q l.row.name=some (d,[])) (hp:l.row.prog.theDef l.row.name=some (d.params,d.body,d.scope)) (hk:kwWritten? d.params.kwonlyargs d.params.kw_defaults=some [])
  (hwr:(!l.row.writes || l.row.records.isEmpty)=true) (ok:(chainsOk q&&opensWell l.row.prog&&(frees l.row.toRowW&&l.row.within.isEmpty))=true) (hb:l.row.prog.bare) (hw:l.row.toRowW.promised)
  (call:WalkO q [] (XL q []) (Hook.says (kHook K as e)) l.row.toRowW d [] fun f vs=>PySem.call f vs):l.row.Holds:=
 holds_open (r:=l.row) (q:=q) (loose:=[]) (Xt:=fun s=>xlAt q [] s&&recOk (RowW.records l.row.toRowW) s) (XP:=XL q []) (Yf:=Hook.obs (kHook K as e)) (Ya:=Hook.val (kHook K as e)) (YP:=Hook.says (kHook K as e)) (N:=N)
  left (Hook.of (kHook K as e)) (Hook.keeps (kHook K as e)) (fun s e=>xl_of s (Bool.and_eq_true_iff.mp e).1) XL.keeps hdef hp hk (fun s e=>recFacts_of (Bool.and_eq_true_iff.mp e).2) hwr said ok hb hw call
theorem fo {K:Frag} {x q:Str} {st:Stmt} {f:Addr} {m:Str} {mt c:Nat} (ps:List Str) (l:K.lookup f=some (of x q st m mt c)) (hc:codeIn K (.ref c) q=true) (hk:keepIn K (.ref f)=true)
  (b: ∀(kV doc pm:Value) (an:Option Addr) (cdv ct:Value) (us:List Value),us.length=ps.length→bindArgs (fnOf x q (defArgs st) (aBi st) (aAi st) .none kV doc pm an cdv ct) ⟨us,[]⟩=pure (ps.zip us)): ∃fd,Fun K x q st f fd∧Binds K fd ps []:=
 ⟨_,fun_mk (show K.lookup f=some ⟨_,_,.func (fnOf x q (defArgs st) (aBi st) (aAi st) .none .none .none (.str m mt) none (.ref c) .none),_⟩ from l) hc hk,(fun_mk (show K.lookup f=some ⟨_,_,.func (fnOf x q (defArgs st) (aBi st) (aAi st) .none .none .none (.str m mt) none (.ref c) .none),_⟩ from l) hc hk).binds b⟩
end L2.HD
namespace L2.PU
open PySem PySem.Spec PyProof.Rows
theorem layNew_led (t:SetTable) (es:Array (Int×Value)) (h:Int) (x:Value):(layNew t es h x).2.1.led=t.led:=by
 unfold layNew
 split
 ·unfold SetTable.orStandIn
  dsimp only
  split
  ·rfl
  ·rfl
 ·rfl
theorem layNew_plain (t:SetTable) (es:Array (Int×Value)) (h:Int) (x:Value):t.plain=false→(layNew t es h x).2.1.plain=false:=by
 intro hp
 unfold layNew
 split
 ·unfold SetTable.orStandIn
  dsimp only
  split
  ·exact hp
  ·rfl
 ·rfl
theorem relaid_keeps {t t':SetTable} {hs:Array Int} {n:Nat} {o:Array Nat} (h:t.relaid hs n=some (t',o)):t'.led=t.led∧t'.plain=t.plain:=by
 unfold SetTable.relaid SetTable.laid at h
 simp only[Option.bind_eq_bind,Option.bind_eq_some_iff] at h
 obtain⟨a,_,e⟩:=h
 cases e
 exact⟨rfl,rfl⟩
theorem relay_led (t:SetTable) (es:Array (Int×Value)) (n:Nat):(relayAll t es n).2.1.led=t.led∧(t.plain=false→(relayAll t es n).2.1.plain=false):=by
 unfold relayAll
 split
 ·rename_i t' order hr
  obtain⟨h1,h2⟩:=relaid_keeps hr
  dsimp only
  split
  ·exact⟨h1,fun q=>h2.trans q⟩
  ·exact⟨rfl,fun _=>rfl⟩
 ·exact⟨rfl,fun _=>rfl⟩
theorem txts_kept {w:World} {h h':Heap} {a:Addr} (x:Txts w h a) (e: ∀o,h.get? a=some o→h'.get? a=some o):Txts w h' a:=let ⟨o,g,r⟩:=x;⟨o,e o g,r⟩
section
variable {prog:Program} {w:World} {A:Around} {E:Value→Shared→Prop} {s:Shared}
theorem add_tail {g:Bool→Sem Unit} (hg: ∀(b:Bool) (s₁:Shared) (Q':Unit→Shared→Prop),Q' () s₁→wpAny (model prog w) A (g b) Q' E s₁)
  {a:Addr} {o:Obj} {es:Array (Int×Value)} {ep:Nat} {t:SetTable} (ho:s.heap.get? a=some o) (hex:o.ExactSet) (hd:o.data= .set es ep t)
  {es1:Array (Int×Value)} {t2:SetTable} {S':Str→Bool} (hel1:ElemsOf (PySem.strKind prog w) es1.toList) (hmem1: ∀k',S' k'=true↔∃e∈es1.toList,(PySem.strKind prog w).is k' e.2=true)
  (hb1:es1.size<scanBound) (hf2:t2.fits es1.size=true) (hl2:w.params.followText "set-order"=true∨t2.led=true) (hp2:t2.plain=false) {wasDummy:Bool} {R:Option Bool→Shared→Prop}
  (h: ∀h',Heap.SameBut a s.heap h'→h'.SetOf (PySem.strKind prog w) a S' es1.size→Txts w h' a→R (some true) {s with heap:=h'}):
  wpAny (model prog w) A (do
    storeSet a es1 t2
    if (!wasDummy&&t2.tooFull)=true then do
      g (relayAll t2 es1 (SetTable.grown es1.size)).2.2
      storeSet a (relayAll t2 es1 (SetTable.grown es1.size)).1 (relayAll t2 es1 (SetTable.grown es1.size)).2.1
      pure (some true)
     else pure (some true)) R E s:=by
 refine wpAny_bind (wpAny_storeSet_of ho hd ?_ (fits_of_scanBound hb1))
 obtain⟨ho1,z1⟩:=SetOf_store (knd:=PySem.strKind prog w) ho hex hd hel1 hmem1 hb1 hf2
 have sb1:=Heap.SameBut.update s.heap a (Obj.putSet es1 t2)
 split
 ·have hp:=relayAll_perm t2 es1 (SetTable.grown es1.size)
  have hfr:=relayAll_fits t2 es1 (SetTable.grown es1.size)
  obtain⟨r1,r2⟩:=relay_led t2 es1 (SetTable.grown es1.size)
  generalize hRl:relayAll t2 es1 (SetTable.grown es1.size)=Rl at hp hfr r1 r2⊢
  obtain⟨es2,t3,gave2⟩:=Rl
  dsimp only at hp hfr r1 r2⊢
  have hel2:=hel1.perm hp
  have hmem2: ∀k',S' k'=true↔∃e∈es2.toList,(PySem.strKind prog w).is k' e.2=true:=fun k'=>(hmem1 k').trans ⟨fun⟨e,he,q⟩=>⟨e,hp.mem_iff.mpr he,q⟩,fun⟨e,he,q⟩=>⟨e,hp.mem_iff.mp he,q⟩⟩
  have hsz:es2.size=es1.size:=by rw[←Array.length_toList,hp.length_eq,Array.length_toList]
  have hb2:es2.size<scanBound:=by rw[hsz];exact hb1
  refine wpAny_bind (hg _ _ _ (wpAny_bind (wpAny_storeSet_of ho1 rfl ?_ (fits_of_scanBound hb2))))
  obtain⟨o2,z2⟩:=SetOf_store (knd:=PySem.strKind prog w) ho1 hex rfl hel2 hmem2 hb2 hfr
  rw[hsz] at z2
  exact wpAny_pure (h _ (sb1.trans (Heap.SameBut.update _ a _)) z2 ⟨_,o2,_,_,_,rfl,by rw[r1];exact hl2,.inr (r2 hp2)⟩)
 ·exact wpAny_pure (h _ sb1 z1 ⟨_,ho1,_,_,_,rfl,hl2,.inr hp2⟩)
theorem add_txts {a:Addr} {S:Str→Bool} {n:Nat} {k:Str} {u:Tok} {Q:Bool→Shared→Prop} (zS:s.heap.SetOf (PySem.strKind prog w) a S n) (zT:Txts w s.heap a) (hroom:n+1<scanBound)
  (h: ∀h',Heap.SameBut a s.heap h'→h'.SetOf (PySem.strKind prog w) a (fun k'=>S k' || decide (k'=k)) (if S k then n else n+1)→Txts w h' a→Q (!S k) {s with heap:=h'}):
  wpAny (model prog w) A (setAddHashed a (.str k u) ((PySem.strKind prog w).hash k)) Q E s:=by
 have hkey:(PySem.strKind prog w).is k (.str k u)=true:=by simp[PySem.strKind,Value.isStrOf]
 have hsc:(Value.str k u).scannable=true:=rfl
 obtain⟨o,es,ep,t,ho,hex,hd,hel,hmem,hb,hf,hn⟩:=id zS
 obtain⟨o',ho',es',ep',t',hd',hled,hpl⟩:=id zT
 rw[ho] at ho'
 cases ho'
 rw[hd] at hd'
 cases hd'
 have hb1:es.size+1<scanBound:=by rw[hn];exact hroom
 unfold setAddHashed setAddHashedIn
 refine wpAny_holding (wpAny_bind (wpAny_setState_of ho hd hf ?_))
 dsimp only
 rw[byScan_of hsc hb hel]
 simp only[↓reduceIte]
 unfold setAddByScan
 refine wpAny_bind (wpAny_bind (wpAny_rule (wpAny_bind (wpAny_setScan_of hkey ho hd hf hel ?_))))
 cases hr:List.findIdx? (fun e=>(PySem.strKind prog w).is k e.2) es.toList with
 | some j=>
  dsimp only
  obtain⟨hj,hpj,_⟩:=List.findIdx?_eq_some_iff_getElem.mp hr
  have hSk:S k=true:=(hmem k).mpr ⟨es.toList[j],List.getElem_mem hj,hpj⟩
  refine wpAny_pure (wpAny_pure ?_)
  have e:s={s with heap:=s.heap}:=by cases s;rfl
  have:=h s.heap (Heap.SameBut.refl a s.heap) ⟨o,es,ep,t,ho,hex,hd,hel,fun k'=>by
   rw[Bool.or_eq_true,decide_eq_true_eq,←hmem k']
   exact⟨fun hk=>hk.elim id (fun e=>e▸hSk),.inl⟩,hb,hf,by rw[hSk];exact hn⟩ zT
  rw[hSk] at this;rw[e];exact this
 | none=>
  dsimp only
  have hSk:S k=false:=by
   cases hk:S k with
   | false=>rfl
   | true=>obtain⟨e,he,hp⟩:=(hmem k).mp hk;have:=List.findIdx?_eq_none_iff.mp hr e he;rw[hp] at this;exact Bool.noConfusion this
  have hgw: ∀(b:Bool) {s₁:Shared} {Q':Unit→Shared→Prop},Q' () s₁→wpAny (model prog w) A (match b with | true=>rule "set.scan.the-table-gave-way" | false=>pure ()) Q' E s₁:=
   fun b s₁ Q' hq=>by cases b<;>first | exact wpAny_pure hq | exact wpAny_rule hq
  have hperm:=layNew_perm t es ((PySem.strKind prog w).hash k) (.str k u)
  have hfits:=layNew_fits t es ((PySem.strKind prog w).hash k) (.str k u)
  have hled1:=layNew_led t es ((PySem.strKind prog w).hash k) (.str k u)
  have hpl1:=layNew_plain t es ((PySem.strKind prog w).hash k) (.str k u)
  generalize hL:layNew t es ((PySem.strKind prog w).hash k) (.str k u)=L at hperm hfits hled1 hpl1⊢
  obtain⟨es1,t1,wasDummy,gave⟩:=L
  dsimp only at hperm hfits hled1 hpl1⊢
  rw[Array.toList_push] at hperm
  have hel1:=(hel.push hkey hsc).perm hperm
  have hmem1: ∀k',(S k' || decide (k'=k))=true↔∃e∈es1.toList,(PySem.strKind prog w).is k' e.2=true:=mem_push_iff hkey hmem hperm
  have hb1':es1.size<scanBound:=by rw[←Array.length_toList,hperm.length_eq,List.length_append,Array.length_toList];simpa using hb1
  refine wpAny_bind (hgw _ ?_)
  have hsz1:es1.size=n+1:=by rw[←Array.length_toList,hperm.length_eq,List.length_append,Array.length_toList,hn];rfl
  have hend: ∀h',Heap.SameBut a s.heap h'→h'.SetOf (PySem.strKind prog w) a (fun k'=>S k' || decide (k'=k)) es1.size→Txts w h' a→Q true {s with heap:=h'}:=by
   intro h' hsb z' zt;have:=h h' hsb;rw[hSk] at this;rw[hsz1] at z';exact this z' zt
  split
  ·refine wpAny_bind ?_
   rw[hashByValue_scannable 8 hsc]
   refine wpAny_pure ?_
   refine add_tail ?_ ho hex hd hel1 hmem1 hb1' ?_ ?_ ?_ ?_
   ·intro b s₁ Q' hq;cases b<;>first | exact wpAny_pure hq | exact wpAny_rule hq
   ·exact SetTable.fits_plain_off hfits
   ·show _∨t1.led=true
    rw[hled1];exact hled
   ·rfl
   ·intro h' hsb z' zt;dsimp only;exact wpAny_pure (hend h' hsb z' zt)
  ·rename_i hnp
   refine wpAny_bind (wpAny_pure ?_)
   simp only[↓reduceIte]
   refine add_tail ?_ ho hex hd hel1 hmem1 hb1' hfits ?_ ?_ ?_
   ·intro b s₁ Q' hq;cases b<;>first | exact wpAny_pure hq | exact wpAny_rule hq
   ·rw[hled1];exact hled
   ·exact Bool.eq_false_iff.mpr hnp
   ·intro h' hsb z' zt;dsimp only;exact wpAny_pure (hend h' hsb z' zt)
end
noncomputable def addS (σ:List Str) (v:Str):List Str:=if σ.contains v then σ else σ++ [v]
noncomputable def metS (vs:List Str):List Str:=vs.foldl addS []
theorem metS_snoc (vs:List Str) (v:Str):metS (vs++ [v])=addS (metS vs) v:=by unfold metS;rw[List.foldl_append];rfl
theorem addS_has (σ:List Str) (v k:Str):(addS σ v).contains k=(σ.contains k || decide (k=v)):=by
 unfold addS
 by_cases h:σ.contains v=true
 ·rw[if_pos h]
  by_cases e:k=v
  ·subst e;rw[h];simp
  ·simp[e]
 ·rw[if_neg h]
  by_cases e:k=v
  ·subst e;simp
  ·simp[e,List.contains_iff_mem]
theorem addS_len (σ:List Str) (v:Str):(addS σ v).length=if σ.contains v then σ.length else σ.length+1:=by unfold addS;split<;>simp
theorem metS_le (vs:List Str):(metS vs).length≤vs.length:=by
 have g: ∀(vs σ:List Str),(vs.foldl addS σ).length≤σ.length+vs.length:=by
  intro vs
  induction vs with
  | nil=>intro σ;exact Nat.le_refl _
  | cons v vs ih=>
   intro σ
   rw[List.foldl_cons]
   have h1:=ih (addS σ v)
   have h2:(addS σ v).length≤σ.length+1:=by rw[addS_len];split<;>omega
   rw[List.length_cons]
   omega
 have:=g vs []
 unfold metS
 simpa using this
theorem metS_has (vs:List Str) (k:Str):(metS vs).contains k=vs.contains k:=by
 have g: ∀(vs σ:List Str),(vs.foldl addS σ).contains k=(σ.contains k || vs.contains k):=by
  intro vs
  induction vs with
  | nil=>intro σ;simp
  | cons v vs ih=>
   intro σ
   rw[List.foldl_cons,ih,addS_has,List.contains_cons]
   by_cases e:k=v
   ·subst e;simp
   ·have e':(k==v)=false:=by simpa using e
    simp[e,e']
 have:=g vs []
 unfold metS
 simpa using this
section
variable {prog:Program} {w:World} {A:Around} {R:Result→Shared→Prop} {I:Addr} {fp wr:List Addr} {G:Array GenState→Array GenState→Prop} {n:Nat} {P:Nat→Value→Prop} {St:Nat→Shared→Prop}
theorem setOf_same {h:Heap} {a:Addr} {σ τ:List Str} {m:Nat} {S:Str→Bool} (z:h.SetOf (PySem.strKind prog w) a S m) (e: ∀k,S k=τ.contains k) (en:m=τ.length):h.SetOf (PySem.strKind prog w) a (fun k=>τ.contains k) τ.length:=by
 have e':S=fun k=>τ.contains k:=funext e
 subst e' en
 exact z
theorem setOf_kept {h h':Heap} {a:Addr} {m:Nat} {S:Str→Bool} (z:h.SetOf (PySem.strKind prog w) a S m) (e: ∀o,h.get? a=some o→h'.get? a=some o):h'.SetOf (PySem.strKind prog w) a S m:=by
 obtain⟨o,es,ep,t,ho,rest⟩:=z
 exact⟨o,es,ep,t,e o ho,rest⟩
theorem set_loop (W:WalksS prog w A.in1 I fp wr G n P St) (S:Addr) (hSf:S∉fp) (vs:List Str) (hn:vs.length=n) (hval: ∀i v,P i v→∃t,v= .str (vs.getD i Str.empty) t) (hb:n+1<scanBound):
  ∀(k i:Nat) (s:Shared),n-i=k→i≤n→St i s→s.heap.SetOf (PySem.strKind prog w) S (fun k=>(metS (vs.take i)).contains k) (metS (vs.take i)).length→Txts w s.heap S→
   (∀s',Moved (S::wr) G s s'→s'.heap.SetOf (PySem.strKind prog w) S (fun k=>(metS vs).contains k) (metS vs).length→Txts w s'.heap S→R (.ok (.ret .none)) s')→
   codeAny (model prog w) A (.builtin "set.update.loop" ⟨[.ref S,.ref I],[]⟩) R s:=by
 have nw:S∉wr:=fun z=>hSf (W.sub _ z)
 have up: ∀b∈wr,b∈S::wr:=fun b q=>List.mem_cons_of_mem _ q
 intro k
 induction k with
 | zero=>
  intro i s hk hi st zS zT q
  have ei:i=n:=by omega
  subst ei
  rw[←hn,List.take_length] at zS
  refine codeAny_builtin PyProof.Rows.F.entry_set_update_loop ?_
  rw[Around.under_plainId PyProof.Rows.F.plain_set_update_loop _]
  show wpAny _ A.in1 (pyNext (.ref I)>>=_) _ _ s
  refine wpAny_bind (W.done s _ _ st fun s' m=> ?_)
  exact wpAny_pure (q s' (m.mono up) (setOf_kept zS fun o e=>m.heap S o nw e) (txts_kept zT fun o e=>m.heap S o nw e))
 | succ k ih=>
  intro i s hk hi st zS zT q
  have lt:i<n:=by omega
  refine codeAny_builtin PyProof.Rows.F.entry_set_update_loop ?_
  rw[Around.under_plainId PyProof.Rows.F.plain_set_update_loop _]
  show wpAny _ A.in1 (pyNext (.ref I)>>=_) _ _ s
  refine wpAny_bind (W.item i s _ _ lt st fun v s' hP st' m=> ?_)
  obtain⟨t,rfl⟩:=hval i v hP
  have zS':=setOf_kept zS fun o e=>m.heap S o nw e
  have zT':=txts_kept zT fun o e=>m.heap S o nw e
  show wpAny _ A.in1 (holding [Value.str (vs.getD i Str.empty) t] (setAdd S (.str (vs.getD i Str.empty) t))>>=_) _ _ s'
  refine wpAny_bind (wpAny_holding ?_)
  unfold setAdd
  have key:(PySem.strKind prog w).is (vs.getD i Str.empty) (.str (vs.getD i Str.empty) t)=true:=by simp[PySem.strKind,Value.isStrOf]
  refine wpAny_holding (wpAny_bind ((PySem.strKind prog w).pyHash key ?_))
  have room:(metS (vs.take i)).length+1<scanBound:=by
   have:=metS_le (vs.take i)
   rw[List.length_take] at this
   omega
  refine add_txts (s:={s' with toks:=s'.toks+1}) zS' zT' room fun h' sb z2 zt2=> ?_
  have es:metS (vs.take (i+1))=addS (metS (vs.take i)) (vs.getD i Str.empty):=by
   have hlt:i<vs.length:=by omega
   rw[←metS_snoc,List.take_succ,List.getElem?_eq_getElem hlt,List.getD_eq_getElem?_getD,List.getElem?_eq_getElem hlt]
   rfl
  have z3:h'.SetOf (PySem.strKind prog w) S (fun k=>(metS (vs.take (i+1))).contains k) (metS (vs.take (i+1))).length:=
   setOf_same (σ:=[]) z2 (fun k'=>by rw[es,addS_has]) (by rw[es,addS_len])
  refine wpAny_pure ⟨plainId_quiet PyProof.Rows.F.plain_set_update_loop _,ih (i+1) _ (by omega) lt (W.frame _ s' _ _ st' (Nat.le_succ _) fun b hb' o e=> ?_) z3 zt2 fun s'' m'' z'' zt''=> ?_⟩
  ·rw[sb.2 b (fun z:b=S=>hSf (by rw[←z];exact hb'))];exact e
  ·refine q s'' (Moved.trans W.gtrans ((m.mono up).then_heap (Nat.le_succ _) fun b o hb' e=> ?_) m'') z'' zt''
   rw[sb.2 b (fun z:b=S=>hb' (by rw[z];exact List.mem_cons_self))];exact e
end
noncomputable def ledW (w:World):Bool:= !w.params.followText "set-order"
noncomputable abbrev setO (led:Bool):Obj:={cls:= .type "set",dict:=none,data:= .set #[] 0 (.fresh 0 0 led)}
theorem txts_new {w:World} {h:Heap} {a:Addr} (e:h.get? a=some (setO (ledW w))):Txts w h a:=by
 refine⟨_,e,#[],0,_,rfl,?_,.inl rfl⟩
 show _∨ledW w=true
 unfold ledW
 cases w.params.followText "set-order"<;>simp
section
variable {prog:Program} {w:World} {A:Around} {E:Value→Shared→Prop} {s:Shared}
theorem code_set_led (a:Value) {Q₁:Value→Shared→Prop} (h:Q₁ (.ref s.heap.objs.size) {s with heap:=s.heap.push (setO (ledW w))}):
  codeAny (model prog w) A (.call (.builtin "set.__new__") ⟨[.type "set",a],[]⟩) (wants Q₁ E) s:=by
 refine codeAny_of_tree (show wpAny _ A.in1 (do checkBuiltinCall "set.__new__" ⟨[.type "set",a],[]⟩;again (.builtin "set.__new__" ⟨[.type "set",a],[]⟩)) _ _ s from ?_)
 refine wpAny_bind (wpAny_of_eq (F.newCall_set_1 a) (wpAny_pure ⟨plainId_quiet F.plain_set_new _,codeAny_builtin F.entry_set_new ?_⟩))
 rw[Around.under_plainId F.plain_set_new _]
 unfold Builtin.«set.__new__» Builtin.Frozenset.newClass
 have hsub:=sub_set_self
 obtain⟨hp,g,d,tk,os⟩:=s
 dsimp only
 wp_walk
 refine wpAny_askSetting (wpAny_pure ?_)
 dsimp only
 simp only[newObj]
 exact wpAny_bind (wpAny_alloc (wpAny_pure (wpAny_pure h)))
theorem seq_walk {l:Addr} {items:Array Value} {T:String} {o:Obj} {nn:Nat} {Q:Value→Shared→Prop} (hT:T="list"∨T="tuple") (hh:A.handled=none) (ho:s.heap.get? l=some o) (hc:o.cls= .type T) (hd:o.data= .seq items nn)
  (h: ∀(ob:Obj) (St:Nat→Heap→Prop),(∀A',A'.handled=none→Walks prog w A' s.heap.objs.size [s.heap.objs.size,l] [s.heap.objs.size] items.size (fun i v=>items[i]? =some v) St)→St 0 (s.heap.push ob)→Q (.ref s.heap.objs.size) {s with heap:=s.heap.push ob}):
  wpAny (model prog w) A (pyIter (.ref l)) Q E s:=by
 have lt:l<s.heap.objs.size:=Heap.lt_size ho
 rcases hT with rfl | rfl
 ·have hl:s.heap.IsList l items:=⟨o,ho,hc,nn,hd⟩
  exact wpAny_pyIter_list hl (h _ _ (fun A' hA=>Walks.list hA _ l (Nat.ne_of_lt lt) items) ⟨⟨_,Heap.get?_push_size _ rfl,rfl,rfl⟩,hl.push _⟩)
 ·have hl:s.heap.IsTuple l items:=⟨o,ho,hc,nn,hd⟩
  exact wpAny_pyIter_tuple hl (h _ _ (fun A' hA=>Walks.tuple hA _ l (Nat.ne_of_lt lt) items) ⟨⟨_,Heap.get?_push_size _ rfl,rfl,rfl⟩,hl.push _⟩)
theorem call_set_seq {l:Addr} {items:Array Value} {T:String} {o:Obj} {nn:Nat} {vs:List Str} {Q:Value→Shared→Prop} (hT:T="list"∨T="tuple") (hh:A.handled=none) (ho:s.heap.get? l=some o) (hc:o.cls= .type T) (hd:o.data= .seq items nn)
  (hv: ∀(i:Nat) (v:Value),items[i]? =some v→∃t,v=Value.str (vs.getD i Str.empty) t) (hn:vs.length=items.size) (hb:items.size+1<scanBound)
  (h: ∀(h':Heap) (tk:Nat),h'.SetOf (PySem.strKind prog w) s.heap.objs.size (fun k=>(metS vs).contains k) (metS vs).length→Txts w h' s.heap.objs.size→(∀b u,s.heap.get? b=some u→h'.get? b=some u)→Q (.ref s.heap.objs.size) {s with heap:=h',toks:=tk}):
  wpAny (model prog w) A (call (.type "set") [.ref l]) Q E s:=by
 obtain⟨c,tl,hmro⟩:=F.called_set.mro
 have hmade:=F.called_set.made
 have hsub:=F.called_set.sub
 have lt:l<s.heap.objs.size:=Heap.lt_size ho
 refine wpAny_call (codeAny_of_tree ?_)
 show wpAny _ _ (callAny (.type "set") _) _ _ _
 refine wpAny_pure ⟨Code.quiet_builtin _ (by decide+kernel),codeAny_builtin F.entry_type_call ?_⟩
 rw[Around.under_plain (weight_type_call_type "set" [.ref l] []) rfl]
 have h1:=F.called_set.notType
 have h2:=F.called_set.canCreate
 have hct:=F.typeCall_set_1 (.ref l)
 repeat (any_goals (first | assumption | wp_step))
 refine codeAny_mono (code_set_led (.ref l) (E:=E) (Q₁:=fun obj s₁=> ∃led:Bool,led=ledW w∧obj= .ref s.heap.objs.size∧s₁={s with heap:=s.heap.push (setO led)}) ⟨_,rfl,rfl,rfl⟩) fun r s₁ hr=> ?_
 cases r with
 | error e=>exact hr
 | ok fl=>
  cases fl with
  | ret obj=>
   obtain⟨led,hled,rfl,rfl⟩:=hr
   have zS:(s.heap.push (setO led)).get? s.heap.objs.size=some (setO led):=Heap.get?_push_size _ rfl
   have tS:Shared.TypeIs {s with heap:=s.heap.push (setO led)} (.ref s.heap.objs.size) "set":=⟨_,zS,rfl⟩
   have hli:=F.called_set.init.lookup
   have hbi:=F.called_set.init.bind (.ref s.heap.objs.size)
   repeat (any_goals (first | assumption | wp_step))
   refine codeAny_mono (codeAny_call_builtin (R:=wants (fun r s₂=>r= .none∧∃h' tk,s₂={s with heap:=h',toks:=tk}∧h'.SetOf (PySem.strKind prog w) s.heap.objs.size (fun k=>(metS vs).contains k) (metS vs).length∧Txts w h' s.heap.objs.size∧
     (∀b u,s.heap.get? b=some u→h'.get? b=some u)) E) F.called_set.init.plain F.entry_set_init (check_set_init_1 tS ?_)) fun r₂ s₂ hr₂=> ?_
   ·have ho':(s.heap.push (setO led)).get? l=some o:=Heap.get?_push_of_some _ ho
    have tL:Shared.TypeIs {s with heap:=s.heap.push (setO led)} (.ref l) T:=⟨o,ho',hc⟩
    have ns:isSubtype (.type T) (.type "set")=pure false:=by rcases hT with rfl | rfl<;>first | exact F.sub_list_set | exact sub_tuple_set
    have nf:isSubtype (.type T) (.type "frozenset")=pure false:=by rcases hT with rfl | rfl<;>first | exact F.sub_list_frozenset | exact sub_tuple_frozenset
    have nd:(Value.type T==Value.type "dict")=false:=by rcases hT with rfl | rfl<;>decide
    unfold Builtin.«set.__init__» noKeywords Builtin.Frozenset.updateFrom
    generalize hPI:pyIter=PI
    wp_walk
    subst hPI
    refine seq_walk (A:=A.in1.in1) hT (by simp[hh]) ho' hc hd fun ob St W st0=> ?_
    refine wpAny_bind (wpAny_runValue ?_)
    have sz:(s.heap.push (setO led)).objs.size=s.heap.objs.size+1:=Heap.size_push _ _
    have apart:s.heap.objs.size∉[(s.heap.push (setO led)).objs.size,l]:=by
     rw[sz]
     simp only[List.mem_cons,List.not_mem_nil,or_false,not_or]
     exact⟨by omega,Nat.ne_of_gt lt⟩
    refine set_loop ((W _ (by simp[hh])).toS) s.heap.objs.size apart vs hn (fun i v q=>hv i v q) hb (items.size-0) 0 _ (by omega) (Nat.zero_le _) st0 ?_ ?_ fun s' m z' zt'=> ?_
    ·exact setOf_same (σ:=[]) (τ:=[]) ((PyProof.Rows.setObjOf_fresh (knd:=PySem.strKind prog w) led).setOf (Heap.get?_push_of_some _ zS) (by decide)) (fun _=>rfl) rfl
    ·exact txts_new (by rw[←hled];exact Heap.get?_push_of_some _ zS)
    ·obtain⟨h',g',d',tk',os'⟩:=s'
     have eg:g'=s.gens:=m.gens
     have ed:d'=s.drawn:=m.drawn
     have eo:os'=s.os:=m.os
     subst eg ed eo
     refine wpAny_pure (show wpAny _ _ (ret Value.none) _ _ _ from wpAny_pure ⟨rfl,h',tk',rfl,z',zt',fun b u q=> ?_⟩)
     have lb:=Heap.lt_size q
     refine m.heap b u ?_ (Heap.get?_push_of_some _ (Heap.get?_push_of_some _ q))
     rw[sz]
     simp only[List.mem_cons,List.not_mem_nil,or_false,not_or]
     have lb':b<s.heap.objs.size:=lb
     exact⟨Nat.ne_of_lt lb',Nat.ne_of_lt (Nat.lt_succ_of_lt lb')⟩
   ·cases r₂ with
    | error e=>exact hr₂
    | ok fl₂=>
     cases fl₂ with
     | ret r=>
      obtain⟨rfl,h',tk,rfl,z',zt',k'⟩:=hr₂
      repeat (any_goals (first | assumption | wp_step))
      exact h _ _ z' zt' k'
     | _=>exact hr₂.elim
  | _=>exact hr.elim
end
theorem aBy:PySem.Slot "set_iterator" "__next__" "set_iterator.__next__":= .of (owner:="set_iterator") (n:="__next__") (by rw[typeLookup_type,builtinLookup_eq_fast];kernel_rfl) (by decide+kernel) (by decide+kernel) (by decide+kernel) (by first | exact .inl (by decide+kernel) | exact .inr (by decide+kernel)) (by rw[isSubtype_type];kernel_rfl)
theorem slot_si_iter:PySem.Slot "set_iterator" "__iter__" "set_iterator.__iter__":= .of (owner:="set_iterator") (n:="__iter__") (by rw[typeLookup_type,builtinLookup_eq_fast];kernel_rfl) (by decide+kernel) (by decide+kernel) (by decide+kernel) (by first | exact .inl (by decide+kernel) | exact .inr (by decide+kernel)) (by rw[isSubtype_type];kernel_rfl)
theorem entry_si_next:entryFor table "set_iterator.__next__"=some Builtin.«set_iterator.__next__»:=entryFor_of_tree (by kernel_rfl)
theorem entry_si_iter:entryFor table "set_iterator.__iter__"=some Builtin.«dict_keyiterator.__iter__»:=entryFor_alias (id':="dict_keyiterator.__iter__") (by kernel_rfl) rfl (by decide+kernel) (by kernel_rfl)
theorem args_si_next (a:Value):argsOk "set_iterator.__next__" ⟨[a],[]⟩:=by unfold argsOk;kernel_rfl
theorem args_si_iter (a:Value):argsOk "set_iterator.__iter__" ⟨[a],[]⟩:=by unfold argsOk;kernel_rfl
theorem entry_set_iter:entryFor table "set.__iter__"=some Builtin.«frozenset.__iter__»:=entryFor_alias (id':="frozenset.__iter__") (by kernel_rfl) rfl (by decide+kernel) (by kernel_rfl)
theorem args_set_iter (a:Value):argsOk "set.__iter__" ⟨[a],[]⟩:=by unfold argsOk;kernel_rfl
section
variable {prog:Program} {w:World} {A:Around} {E:Value→Shared→Prop} {s:Shared}
theorem cons_erase {α:Type} {l:List α} {i:Nat} (h:i<l.length):(l[i]::l.eraseIdx i).Perm l:=by
 rw[List.eraseIdx_eq_take_drop_succ]
 have e:l.take i++l[i]::l.drop (i+1)=l:=by rw[←List.drop_eq_getElem_cons h,List.take_append_drop]
 have p:= @List.perm_middle α l[i] (l.take i) (l.drop (i+1))
 rw[e] at p
 exact p.symm
theorem wpAny_chosen {src:Source} {n:Nat} {Q:Nat→Shared→Prop} (h0:n≠0) (h: ∀i,i<n→∀d,Q i {s with drawn:=d}):wpAny (model prog w) A (choose src n) Q E s:=by
 intro Γ p hΓ
 unfold choose
 rw[Sem.wp_choose]
 refine⟨h0,?_⟩
 exact h _ (Nat.mod_lt _ (Nat.pos_of_ne_zero h0)) _
theorem draw_order {α:Type} (n:Nat): ∀(xs:List α) (s:Shared) (Q:List α→Shared→Prop),xs.length=n→(∀ys d,ys.Perm xs→Q ys {s with drawn:=d})→wpAny (model prog w) A (drawOrder n xs) Q E s:=by
 induction n with
 | zero=>
  intro xs s Q hn h
  cases xs with
  | cons _ _=>rw[List.length_cons] at hn;exact absurd hn (Nat.succ_ne_zero _)
  | nil=>
   unfold drawOrder
   exact wpAny_pure (h [] s.drawn (List.Perm.refl _))
 | succ n ih=>
  intro xs s Q hn h
  cases xs with
  | nil=>exact absurd hn.symm (Nat.succ_ne_zero _)
  | cons x xs=>
   unfold drawOrder
   refine wpAny_bind (wpAny_chosen (by simp) fun i hi d=> ?_)
   rw[List.getElem?_eq_getElem hi]
   dsimp only
   refine wpAny_bind (ih ((x::xs).eraseIdx i) _ _ ?_ fun ys d' hp=>wpAny_pure ?_)
   ·rw[List.length_eraseIdx_of_lt hi];omega
   ·refine h _ d' ?_
    exact (List.Perm.cons _ hp).trans (cons_erase hi)
theorem pick_perm {α:Type} (next:Nat→Nat): ∀(n k:Nat) (left:List α) (out:Array α),left.length=n→(pickOrder.go next n k left out).toList.Perm (out.toList++left)
 | 0,k,[],out,_=>by unfold pickOrder.go;simp
 | n+1,k,x::left,out,hn=>by
  unfold pickOrder.go
  have hl:next k%(x::left).length<(x::left).length:=Nat.mod_lt _ (by simp)
  rw[List.getElem?_eq_getElem hl]
  dsimp only
  refine (pick_perm next n (k+1) _ _ ?_).trans ?_
  ·rw[List.length_eraseIdx_of_lt hl];omega
  ·rw[Array.toList_push,List.append_assoc]
   exact List.Perm.append_left _ (cons_erase hl)
theorem pickO_perm {α:Type} (next:Nat→Nat) (es:Array α):(pickOrder next es).toList.Perm es.toList:=by
 have:=pick_perm next es.size 0 es.toList #[] (by simp)
 simpa[pickOrder] using this
noncomputable def IsSI (h:Heap) (it:Addr) (first:Value) (i:Int) (a:Addr) (n ep:Int):Prop:= ∃o,h.get? it=some o∧o.cls= .type "set_iterator"∧o.data= .fields #[first,rawInt i,.ref a,rawInt n,rawInt ep]
noncomputable def SetAt (h:Heap) (a:Addr) (es:Array (Int×Value)) (ep:Nat) (t:SetTable):Prop:= ∃o,h.get? a=some o∧o.data= .set es ep t
theorem si_self {it a:Addr} {first:Value} {i n ep:Int} {Q:Value→Shared→Prop} (hi:IsSI s.heap it first i a n ep) (q:Q (.ref it) s):wpAny (model prog w) A (pyIter (.ref it)) Q E s:=by
 obtain⟨o,ho,hc,hd⟩:=hi
 have hT:s.TypeIs (.ref it) "set_iterator":=⟨o,ho,hc⟩
 refine wpAny_pyIter_slot hT slot_si_iter (wpAny_call_entry slot_si_iter hT entry_si_iter ?_ (args_si_iter _))
 exact wpAny_pure ⟨_,rfl,"set_iterator",_,hT,aBy.lookup,q⟩
theorem si_item_drawn {it a tp:Addr} {π:List Nat} {i:Nat} {es:Array (Int×Value)} {ep:Nat} {t:SetTable} {k:Nat} {hv:Int} {x:Value} {Q:Option Value→Shared→Prop} (hi:IsSI s.heap it (.ref tp) i a es.size ep) (hs:SetAt s.heap a es ep t) (hf:t.fits es.size=true)
  (htp:IsTup s.heap tp (π.map fun (j:Nat)=>rawInt j).toArray) (hk:π[i]? =some k) (hx:es[k]? =some (hv,x))
  (q: ∀h',IsSI h' it (.ref tp) ((i:Int)+1) a es.size ep→Heap.SameBut it s.heap h'→Q (some x) {s with heap:=h'}):wpAny (model prog w) A (pyNext (.ref it)) Q E s:=by
 obtain⟨o,ho,hc,hd⟩:=id hi
 obtain⟨oa,hoa,hda⟩:=id hs
 obtain⟨ot,hot,hct,nt,hdt⟩:=id htp
 have hT:s.TypeIs (.ref it) "set_iterator":=⟨o,ho,hc⟩
 have hpl:(π.map fun (j:Nat)=>rawInt j).toArray[i]? =some (rawInt k):=by simp[hk]
 unfold pyNext
 refine wpAny_bind (wpAny_attempt (wpAny_callSpecial?_slot (name:=Str.ofString "__next__") hT aBy (wpAny_call_entry aBy hT entry_si_next ?_ (args_si_next _))))
 unfold Builtin.«set_iterator.__next__»
 obtain⟨c1,d1,x1,l1⟩:=o
 dsimp only at hc hd
 subst hc hd
 wp_walk using AutoSeq1.wpAny_loadPart' ho,wpAny_setEntries_of hoa hda hf,wpAny_setState_of hoa hda hf,wpAny_seqItems hot hdt
 rw[Int.toNat_natCast,hpl]
 show wpAny _ _ (setNextDrawn a (k:Int).toNat (ep:Int).toNat>>=_) _ _ _
 rw[Int.toNat_natCast,Int.toNat_natCast]
 unfold setNextDrawn
 refine wpAny_bind (wpAny_bind (wpAny_setState_of hoa hda hf ?_))
 dsimp only
 rw[if_neg (by simp),hx]
 refine wpAny_pure ?_
 refine wpAny_bind (wpAny_setField ho rfl (by simp) (wpAny_pure ⟨x,rfl,wpAny_pure (q _ ?_ (Heap.SameBut.update ..))⟩))
 exact⟨_,Heap.get?_update_self _ ho (Obj.isFreed_of_fields (Obj.data_mapFields rfl _)),Obj.cls_mapFields ..,by rw[Obj.data_mapFields rfl];simp[rawInt]⟩
theorem si_end_drawn {it a tp:Addr} {π:List Nat} {es:Array (Int×Value)} {ep:Nat} {t:SetTable} {Q:Option Value→Shared→Prop} (hh:A.handled=none) (hi:IsSI s.heap it (.ref tp) π.length a es.size ep) (hs:SetAt s.heap a es ep t) (hf:t.fits es.size=true)
  (htp:IsTup s.heap tp (π.map fun (j:Nat)=>rawInt j).toArray) (q: ∀h' tk,Heap.ExtBut it s.heap h'→Q none {s with heap:=h',toks:=tk}):wpAny (model prog w) A (pyNext (.ref it)) Q E s:=by
 obtain⟨o,ho,hc,hd⟩:=id hi
 obtain⟨oa,hoa,hda⟩:=id hs
 obtain⟨ot,hot,hct,nt,hdt⟩:=id htp
 have hT:s.TypeIs (.ref it) "set_iterator":=⟨o,ho,hc⟩
 have hpl:(π.map fun (j:Nat)=>rawInt j).toArray[π.length]? =none:=by simp
 unfold pyNext
 refine wpAny_bind (wpAny_attempt (wpAny_callSpecial?_slot (name:=Str.ofString "__next__") hT aBy (wpAny_call_entry aBy hT entry_si_next ?_ (args_si_next _))))
 unfold Builtin.«set_iterator.__next__»
 obtain⟨c1,d1,x1,l1⟩:=o
 dsimp only at hc hd
 subst hc hd
 wp_walk using AutoSeq1.wpAny_loadPart' ho,wpAny_setEntries_of hoa hda hf,wpAny_setState_of hoa hda hf,wpAny_seqItems hot hdt
 rw[Int.toNat_natCast,hpl]
 wp_walk using AutoSeq1.wpAny_loadPart' ho
 simp only[raiseNew];refine wpAny_bind (wpAny_handled ?_)
 rw[show A.in1.handled=none by simp[hh]];refine wpAny_bind (wpAny_pure (wpAny_throw ?_))
 refine wpAny_bind (wpAny_isInstance (T:="StopIteration") (b:=true) ⟨_,Heap.get?_push_size _ rfl,rfl⟩ isSubtype_stop (wpAny_pure (q _ _ ?_)))
 exact (((Heap.SameBut.update ..).trans (Heap.SameBut.update ..)).extBut.push _).push _
theorem si_item {it a:Addr} {slot i nx:Nat} {es:Array (Int×Value)} {ep:Nat} {t:SetTable} {x:Value} {Q:Option Value→Shared→Prop} (hi:IsSI s.heap it (rawInt slot) i a es.size ep) (hs:SetAt s.heap a es ep t) (hf:t.fits es.size=true)
  (hn: ∀(A:Around) (E:Value→Shared→Prop) (Q:Option (Value×Nat)→Shared→Prop),Q (some (x,nx)) s→wpAny (model prog w) A (setNext a slot i ep) Q E s)
  (q: ∀h',IsSI h' it (rawInt nx) ((i:Int)+1) a es.size ep→Heap.SameBut it s.heap h'→Q (some x) {s with heap:=h'}):wpAny (model prog w) A (pyNext (.ref it)) Q E s:=by
 obtain⟨o,ho,hc,hd⟩:=id hi
 obtain⟨oa,hoa,hda⟩:=id hs
 have hT:s.TypeIs (.ref it) "set_iterator":=⟨o,ho,hc⟩
 unfold pyNext
 refine wpAny_bind (wpAny_attempt (wpAny_callSpecial?_slot (name:=Str.ofString "__next__") hT aBy (wpAny_call_entry aBy hT entry_si_next ?_ (args_si_next _))))
 unfold Builtin.«set_iterator.__next__»
 obtain⟨c1,d1,x1,l1⟩:=o
 dsimp only at hc hd
 subst hc hd
 generalize hSN:setNext=SN
 wp_walk using AutoSeq1.wpAny_loadPart' ho,wpAny_setEntries_of hoa hda hf
 subst hSN
 rw[Int.toNat_natCast,Int.toNat_natCast,Int.toNat_natCast]
 refine hn _ _ _ ?_
 dsimp only
 refine wpAny_bind (wpAny_setField ho rfl (by simp) ?_)
 have ho2:=Heap.get?_update_self (Obj.mapFields fun z=>z.setIfInBounds 0 (rawInt nx)) ho (Obj.isFreed_of_fields (Obj.data_mapFields rfl _))
 have hd2:(Obj.mapFields (fun z=>z.setIfInBounds 0 (rawInt nx)) {cls:=Value.type "set_iterator",dict:=d1,data:=Data.fields #[rawInt slot,rawInt i,Value.ref a,rawInt es.size,rawInt ep],slots:=l1}).data= .fields #[rawInt nx,rawInt i,Value.ref a,rawInt es.size,rawInt ep]:=by
  rw[Obj.data_mapFields rfl];simp
 refine wpAny_bind (wpAny_setField ho2 hd2 (by simp) (wpAny_pure ⟨x,rfl,wpAny_pure (q _ ?_ ((Heap.SameBut.update ..).trans (Heap.SameBut.update ..)))⟩))
 exact⟨_,Heap.get?_update_self _ ho2 (Obj.isFreed_of_fields (Obj.data_mapFields hd2 _)),(Obj.cls_mapFields ..).trans (Obj.cls_mapFields ..),by rw[Obj.data_mapFields hd2];simp[rawInt]⟩
theorem si_end {it a:Addr} {slot i:Nat} {es:Array (Int×Value)} {ep:Nat} {t:SetTable} {Q:Option Value→Shared→Prop} (hh:A.handled=none) (hi:IsSI s.heap it (rawInt slot) i a es.size ep) (hs:SetAt s.heap a es ep t) (hf:t.fits es.size=true)
  (hn: ∀(A:Around) (E:Value→Shared→Prop) (Q:Option (Value×Nat)→Shared→Prop),Q none s→wpAny (model prog w) A (setNext a slot i ep) Q E s)
  (q: ∀h' tk,Heap.ExtBut it s.heap h'→Q none {s with heap:=h',toks:=tk}):wpAny (model prog w) A (pyNext (.ref it)) Q E s:=by
 obtain⟨o,ho,hc,hd⟩:=id hi
 obtain⟨oa,hoa,hda⟩:=id hs
 have hT:s.TypeIs (.ref it) "set_iterator":=⟨o,ho,hc⟩
 unfold pyNext
 refine wpAny_bind (wpAny_attempt (wpAny_callSpecial?_slot (name:=Str.ofString "__next__") hT aBy (wpAny_call_entry aBy hT entry_si_next ?_ (args_si_next _))))
 unfold Builtin.«set_iterator.__next__»
 obtain⟨c1,d1,x1,l1⟩:=o
 dsimp only at hc hd
 subst hc hd
 generalize hSN:setNext=SN
 wp_walk using AutoSeq1.wpAny_loadPart' ho,wpAny_setEntries_of hoa hda hf
 subst hSN
 rw[Int.toNat_natCast,Int.toNat_natCast,Int.toNat_natCast]
 refine hn _ _ _ ?_
 dsimp only
 wp_walk using AutoSeq1.wpAny_loadPart' ho
 simp only[raiseNew];refine wpAny_bind (wpAny_handled ?_)
 rw[show A.in1.handled=none by simp[hh]];refine wpAny_bind (wpAny_pure (wpAny_throw ?_))
 refine wpAny_bind (wpAny_isInstance (T:="StopIteration") (b:=true) ⟨_,Heap.get?_push_size _ rfl,rfl⟩ isSubtype_stop (wpAny_pure (q _ _ ?_)))
 exact ((Heap.SameBut.update ..).extBut.push _).push _
theorem next_text {a:Addr} {slot i:Nat} {es:Array (Int×Value)} {ep:Nat} {t:SetTable} {Q:Option (Value×Nat)→Shared→Prop} (hb:w.params.followText "set-order"=true) (hs:SetAt s.heap a es ep t) (hf:t.fits es.size=true)
  (q:Q (((pickOrder (w.params.setOrder a ep) es)[i]?).map fun e=>(e.2,slot)) s):wpAny (model prog w) A (setNext a slot i ep) Q E s:=by
 obtain⟨oa,hoa,hda⟩:=hs
 unfold setNext setsByText
 refine wpAny_bind (wpAny_setState_of hoa hda hf (wpAny_bind (wpAny_bind (wpAny_askSetting (wpAny_pure ?_)))))
 dsimp only
 rw[if_pos (show (model prog w).w.params.followText "set-order"=true from hb),if_neg (by simp)]
 unfold setWalk setsByText
 refine wpAny_bind (wpAny_bind (wpAny_setState_of hoa hda hf (wpAny_bind (wpAny_bind (wpAny_askSetting (wpAny_pure ?_))))))
 dsimp only
 rw[if_pos (show (model prog w).w.params.followText "set-order"=true from hb)]
 refine wpAny_bind (wpAny_askSetting (wpAny_pure (wpAny_pure q)))
theorem next_one {a:Addr} {slot i:Nat} {es:Array (Int×Value)} {ep:Nat} {t:SetTable} {Q:Option (Value×Nat)→Shared→Prop} (hb:w.params.followText "set-order"=false) (hl:t.led=true) (h1:es.size≤1) (hs:SetAt s.heap a es ep t) (hf:t.fits es.size=true)
  (q:Q (match es[SetTable.below t.place slot]?,t.place[SetTable.below t.place slot]? with | some (_,x),some j=>some (x,j+1) | _,_=>none) s):wpAny (model prog w) A (setNext a slot i ep) Q E s:=by
 obtain⟨oa,hoa,hda⟩:=hs
 unfold setNext setsByText
 refine wpAny_bind (wpAny_setState_of hoa hda hf (wpAny_bind (wpAny_bind (wpAny_askSetting (wpAny_pure ?_)))))
 dsimp only
 rw[if_neg (show ¬(model prog w).w.params.followText "set-order"=true by rw[show (model prog w).w.params.followText "set-order"=false from hb];decide)]
 have hd: ∀b:Bool,(b=true→False)→∀(x y:Sem (Option (Value×Nat))),wpAny (model prog w) A y Q E s→wpAny (model prog w) A (if b=true then x else y) Q E s:=fun b hb x y hy=>by rw[if_neg hb];exact hy
 refine hd _ ?_ _ _ ?_
 ·intro h
  have h2:(!t.plain&&decide (es.size>1))=true:=h
  simp at h2
  omega
 ·refine wpAny_bind ?_
  show wpAny _ _ (if (!t.led&& !es.isEmpty)=true then unsupported _ else pure ()) _ _ _
  rw[if_neg (by simp[hl])]
  exact wpAny_pure (wpAny_pure q)
end
section
variable {prog:Program} {w:World} {A:Around} {E:Value→Shared→Prop} {s:Shared}
theorem keepSI {h h':Heap} {it a:Addr} {f:Value} {i n ep:Int} (hi:IsSI h it f i a n ep) (e: ∀o,h.get? it=some o→h'.get? it=some o):IsSI h' it f i a n ep:=let ⟨o,g,r⟩:=hi;⟨o,e o g,r⟩
theorem keepSA {h h':Heap} {a:Addr} {es:Array (Int×Value)} {ep:Nat} {t:SetTable} (hi:SetAt h a es ep t) (e: ∀o,h.get? a=some o→h'.get? a=some o):SetAt h' a es ep t:=let ⟨o,g,r⟩:=hi;⟨o,e o g,r⟩
theorem keepTu {h h':Heap} {a:Addr} {xs:Array Value} (hi:IsTup h a xs) (e: ∀o,h.get? a=some o→h'.get? a=some o):IsTup h' a xs:=let ⟨o,g,r⟩:=hi;⟨o,e o g,r⟩
theorem Walks.set_drawn (hh:A.handled=none) {it a tp:Addr} (na:a≠it) (nt:tp≠it) {π:List Nat} {es:Array (Int×Value)} {ep:Nat} {t:SetTable} (hf:t.fits es.size=true) (hl:π.length=es.size) (hp: ∀k∈π,k<es.size):
  Walks prog w A it [it,a,tp] [it] es.size (fun i v=>(π.map fun k=>((es[k]?).map (·.2)).getD .none)[i]? =some v) (fun i h=>IsSI h it (.ref tp) (i:Nat) a es.size ep∧SetAt h a es ep t∧IsTup h tp (π.map fun (j:Nat)=>rawInt j).toArray) where
 sub:=fun b hb=>by simp at hb;simp[hb]
 frame:=fun i h h' st hk=>⟨keepSI st.1 (hk it (by simp)),keepSA st.2.1 (hk a (by simp)),keepTu st.2.2 (hk tp (by simp))⟩
 item:=fun i s Q E hi st hQ=>by
  have hi':i<π.length:=by omega
  have hk:π[i]? =some π[i]:=List.getElem?_eq_getElem hi'
  have hj:π[i]<es.size:=hp _ (List.getElem_mem hi')
  have hx:es[π[i]]? =some (es[π[i]].1,es[π[i]].2):=by rw[Array.getElem?_eq_getElem hj]
  refine si_item_drawn st.1 st.2.1 hf st.2.2 hk hx fun h' r sb=>hQ _ h' s.toks ?_ ⟨?_,keepSA st.2.1 (fun o=>sb.extBut a o na),keepTu st.2.2 (fun o=>sb.extBut tp o nt)⟩ fun b o hb e=>sb.extBut b o (fun z=>hb (by simp[z])) e
  ·simp[hk,hx]
  ·simpa using r
 done:=fun s Q E st hQ=>by
  refine si_end_drawn hh (π:=π) (by rw[hl];exact st.1) st.2.1 hf st.2.2 fun h' tk x=>hQ h' tk fun b o hb q=>x b o (fun z=>hb (by simp[z])) q
 self:=fun _ _ _ _ st hQ=>si_self st.1 hQ
theorem Walks.set_text (hh:A.handled=none) {it a:Addr} (na:a≠it) {es:Array (Int×Value)} {ep:Nat} {t:SetTable} (hf:t.fits es.size=true) (hb:w.params.followText "set-order"=true):
  Walks prog w A it [it,a] [it] es.size (fun i v=>((pickOrder (w.params.setOrder a ep) es).toList.map (·.2))[i]? =some v) (fun i h=>IsSI h it (rawInt (0:Nat)) (i:Nat) a es.size ep∧SetAt h a es ep t) where
 sub:=fun b hb=>by simp at hb;simp[hb]
 frame:=fun i h h' st hk=>⟨keepSI st.1 (hk it (by simp)),keepSA st.2 (hk a (by simp))⟩
 item:=fun i s Q E hi st hQ=>by
  have hsz:(pickOrder (w.params.setOrder a ep) es).size=es.size:=by
   have:=(pickO_perm (w.params.setOrder a ep) es).length_eq
   simpa using this
  have hx:(pickOrder (w.params.setOrder a ep) es)[i]? =some ((pickOrder (w.params.setOrder a ep) es)[i]'(by omega)):=Array.getElem?_eq_getElem (by omega)
  refine si_item (nx:=0) st.1 st.2 hf (fun A E Q q=>next_text hb st.2 hf (by rw[hx];exact q)) fun h' r sb=>hQ _ h' s.toks ?_ ⟨?_,keepSA st.2 (fun o=>sb.extBut a o na)⟩ fun b o hb e=>sb.extBut b o (fun z=>hb (by simp[z])) e
  ·simp[hx]
  ·simpa using r
 done:=fun s Q E st hQ=>by
  have hsz:(pickOrder (w.params.setOrder a ep) es).size=es.size:=by
   have:=(pickO_perm (w.params.setOrder a ep) es).length_eq
   simpa using this
  have hx:(pickOrder (w.params.setOrder a ep) es)[es.size]? =none:=Array.getElem?_eq_none (by omega)
  refine si_end hh st.1 st.2 hf (fun A E Q q=>next_text hb st.2 hf (by rw[hx];exact q)) fun h' tk x=>hQ h' tk fun b o hb q=>x b o (fun z=>hb (by simp[z])) q
 self:=fun _ _ _ _ st hQ=>si_self st.1 hQ
theorem fits_size {t:SetTable} {n:Nat} (h:t.fits n=true):t.place.size=n:=by
 simp only[SetTable.fits,Bool.and_eq_true,beq_iff_eq,decide_eq_true_eq] at h
 exact h.1
theorem below_0 {xs:Array Nat} (h:xs.size≤1):SetTable.below xs 0=0:=by
 obtain⟨l⟩:=xs
 match l,h with
 | [],_=>rfl
 | [x],_=>simp[SetTable.below,SetTable.below.go]
theorem below_1 {xs:Array Nat} {x:Nat} (h:xs= #[x]):SetTable.below xs (x+1)=1:=by subst h;simp[SetTable.below,SetTable.below.go]
theorem Walks.set_one (hh:A.handled=none) {it a:Addr} (na:a≠it) {es:Array (Int×Value)} {ep:Nat} {t:SetTable} (hf:t.fits es.size=true) (hb:w.params.followText "set-order"=false) (hl:t.led=true) (h1:es.size≤1):
  Walks prog w A it [it,a] [it] es.size (fun i v=>(es.toList.map (·.2))[i]? =some v) (fun i h=>(∃slot:Nat,IsSI h it (rawInt slot) (i:Nat) a es.size ep∧SetTable.below t.place slot=i)∧SetAt h a es ep t) where
 sub:=fun b hb=>by simp at hb;simp[hb]
 frame:=fun i h h' st hk=>⟨let ⟨c,x,y⟩:=st.1;⟨c,keepSI x (hk it (by simp)),y⟩,keepSA st.2 (hk a (by simp))⟩
 item:=fun i s Q E hi st hQ=>by
  obtain⟨⟨c,x,y⟩,z⟩:=st
  have hps:=fits_size hf
  have e1:es.size=1:=by omega
  have i0:i=0:=by omega
  subst i0
  have hx:es[0]? =some (es[0].1,es[0].2):=by rw[Array.getElem?_eq_getElem hi]
  have hj:t.place[0]? =some t.place[0]:=Array.getElem?_eq_getElem (by omega)
  refine si_item (nx:=t.place[0]+1) x z hf (fun A E Q q=>next_one hb hl h1 z hf (by rw[y,hx,hj];exact q)) fun h' r sb=>hQ _ h' s.toks ?_ ⟨⟨t.place[0]+1,by simpa using r,?_⟩,keepSA z (fun o=>sb.extBut a o na)⟩ fun b o hb e=>sb.extBut b o (fun z=>hb (by simp[z])) e
  ·simp[hx]
  ·have ep1:t.place= #[t.place[0]]:=by
    apply Array.ext
    ·simp;omega
    ·intro k k1 k2
     have:k=0:=by omega
     subst this;rfl
   exact below_1 ep1
 done:=fun s Q E st hQ=>by
  obtain⟨⟨c,x,y⟩,z⟩:=st
  have hx:es[es.size]? =none:=Array.getElem?_eq_none (by omega)
  refine si_end hh x z hf (fun A E Q q=>next_one hb hl h1 z hf (by rw[y,hx];exact q)) fun h' tk x=>hQ h' tk fun b o hb q=>x b o (fun z=>hb (by simp[z])) q
 self:=fun _ _ _ _ st hQ=>let ⟨_,x,_⟩:=st.1;si_self x hQ
theorem range_vals (es:Array (Int×Value)):(List.range es.size).map (fun k=>((es[k]?).map (·.2)).getD .none)=es.toList.map (·.2):=by
 apply List.ext_getElem
 ·simp
 ·intro i h1 h2
  simp at h1
  simp[h1]
theorem if_same {α:Type} {b c:Bool} (e:b=c) {x y:Sem α} {Q:α→Shared→Prop} (h:wpAny (model prog w) A (if c=true then x else y) Q E s):wpAny (model prog w) A (if b=true then x else y) Q E s:=by subst e;exact h
theorem set_iter {a:Addr} {o:Obj} {es:Array (Int×Value)} {ep:Nat} {t:SetTable} {Q:Value→Shared→Prop} (ho:s.heap.get? a=some o) (hx:o.ExactSet) (hd:o.data= .set es ep t) (hf:t.fits es.size=true) (hz:es.size≤sizeLine)
  (hw:w.params.followText "set-order"=true∨t.led=true) (hp:es.size=0∨t.plain=false)
  (q: ∀it fp St (vals:List Value) h' d,(∀B:Around,B.handled=none→Walks prog w B it fp [it] es.size (fun i v=>vals[i]? =some v) St)→St 0 h'→(∀b∈fp,b=a∨s.heap.objs.size≤b)→vals.Perm (es.toList.map (·.2))→s.heap.objs.size≤it→
   (∀b o,s.heap.get? b=some o→h'.get? b=some o)→Q (.ref it) {s with heap:=h',drawn:=d}):wpAny (model prog w) A (pyIter (.ref a)) Q E s:=by
 have hT:s.TypeIs (.ref a) "set":=⟨o,ho,hx.1⟩
 have lta:=Heap.lt_size ho
 refine wpAny_pyIter_slot hT F.slot_set_iter (wpAny_call_entry F.slot_set_iter hT entry_set_iter ?_ (args_set_iter _))
 unfold Builtin.«frozenset.__iter__»
 refine wpAny_bind (m:=Builtin.Frozenset.slot0 "__iter__" ⟨[.ref a],[]⟩) (wpAny_pure ?_)
 unfold Builtin.Frozenset.sizeOf
 refine wpAny_bind (wpAny_bind (wpAny_setEntries_of ho hd hf (wpAny_pure ?_)))
 unfold setDrawn setsByText
 refine wpAny_bind (wpAny_bind (wpAny_setState_of ho hd hf (wpAny_bind (wpAny_bind (wpAny_askSetting (wpAny_pure (wpAny_pure ?_)))))))
 refine if_same (c:= !w.params.followText "set-order"&&(!t.plain&&decide (es.size>1))) rfl ?_
 have tail: ∀(h1:Heap) (d:Drawn) (first:Value),(∀b o,s.heap.get? b=some o→h1.get? b=some o)→Q (.ref h1.objs.size) {s with heap:=h1.push {cls:= .type "set_iterator",data:= .fields #[first,rawInt (0:Nat),.ref a,rawInt es.size,rawInt ep]},drawn:=d}→
   wpAny (model prog w) A.in1 (do let e←setEpoch a;let v←newFields "set_iterator" [first,rawInt 0,.ref a,rawInt es.size,rawInt e];ret v) (fun fin s'=> ∃v,fin=Fin.done (Flow.ret v)∧∃T' r,s'.TypeIs v T'∧typeLookup (Value.type T') (Str.ofString "__next__")=pure (some r)∧Q v s') E {s with heap:=h1,drawn:=d}:=by
  intro h1 d first hk q1
  refine wpAny_bind (wpAny_setEpoch_of (hk _ _ ho) hd hf (wpAny_bind (wpAny_newObj_type (wpAny_pure ⟨_,rfl,"set_iterator",_,⟨_,Heap.get?_push_size _ rfl,rfl⟩,aBy.lookup,q1⟩))))
 have isi: ∀(h1:Heap) (first:Value),IsSI (h1.push {cls:= .type "set_iterator",data:= .fields #[first,rawInt (0:Nat),.ref a,rawInt es.size,rawInt ep]}) h1.objs.size first (0:Nat) a es.size ep:=fun h1 first=>⟨_,Heap.get?_push_size _ rfl,rfl,rfl⟩
 by_cases hb:w.params.followText "set-order"=true
 ·rw[if_neg (by simp[hb])]
  refine wpAny_bind (wpAny_pure (tail s.heap s.drawn _ (fun _ _ e=>e) ?_))
  refine q _ _ _ _ _ s.drawn (fun B hB=>Walks.set_text hB (Nat.ne_of_lt lta) hf hb) ⟨isi _ _,_,Heap.get?_push_of_some _ ho,hd⟩ ?_ ?_ (Nat.le_refl _) fun b o e=>Heap.get?_push_of_some _ e
  ·intro b hb2;simp only[List.mem_cons,List.not_mem_nil,or_false] at hb2;exact hb2.elim (fun e=> .inr (e▸Nat.le_refl _)) .inl
  ·exact (pickO_perm _ es).map _
 ·have hb0:w.params.followText "set-order"=false:=by simpa using hb
  have hl:t.led=true:=hw.resolve_left hb
  by_cases h1:es.size≤1
  ·rw[if_neg (by simp;omega)]
   refine wpAny_bind (wpAny_pure (tail s.heap s.drawn _ (fun _ _ e=>e) ?_))
   refine q _ _ _ _ _ s.drawn (fun B hB=>Walks.set_one hB (Nat.ne_of_lt lta) hf hb0 hl h1) ⟨⟨0,isi _ _,below_0 (by rw[fits_size hf];exact h1)⟩,_,Heap.get?_push_of_some _ ho,hd⟩ ?_ (List.Perm.refl _) (Nat.le_refl _) fun b o e=>Heap.get?_push_of_some _ e
   intro b hb2;simp only[List.mem_cons,List.not_mem_nil,or_false] at hb2;exact hb2.elim (fun e=> .inr (e▸Nat.le_refl _)) .inl
  ·have hpl:t.plain=false:=hp.resolve_left (by omega)
   rw[if_pos (by simp[hb0,hpl];omega)]
   refine wpAny_bind (draw_order es.size (List.range es.size) _ _ (by simp) fun π d hπ=> ?_)
   have hlen:π.length=es.size:=by simpa using hπ.length_eq
   refine wpAny_bind (wpAny_newObj_type ?_ (by show (π.map _).toArray.size≤sizeLine;simp;omega))
   refine tail (s.heap.push _) d _ (fun _ _ e=>Heap.get?_push_of_some _ e) ?_
   have lt1:a<(s.heap.push {cls:= .type "tuple",data:= .seq (π.map fun (i:Nat)=>rawInt i).toArray}).objs.size:=by rw[size_push'];exact Nat.lt_succ_of_lt lta
   refine q _ _ _ _ _ d (fun B hB=>Walks.set_drawn (tp:=s.heap.objs.size) hB (Nat.ne_of_lt lt1) (by rw[size_push'];exact Nat.ne_of_lt (Nat.lt_succ_self _)) hf hlen (fun k hk=>by simpa using hπ.subset hk)) ⟨isi _ _,⟨_,Heap.get?_push_of_some _ (Heap.get?_push_of_some _ ho),hd⟩,⟨_,Heap.get?_push_of_some _ (Heap.get?_push_size _ rfl),rfl,0,rfl⟩⟩ ?_ ?_ (by rw[size_push'];exact Nat.le_succ _) fun b o e=>Heap.get?_push_of_some _ (Heap.get?_push_of_some _ e)
   ·intro b hb2;simp only[List.mem_cons,List.not_mem_nil,or_false] at hb2;rw[size_push'] at hb2;exact hb2.elim (fun e=> .inr (e▸Nat.le_succ _)) (fun h=>h.elim .inl (fun e=> .inr (e▸Nat.le_refl _)))
   ·rw[←range_vals];exact hπ.map _
end
section
variable {prog:Program} {w:World} {A:Around} {E:Value→Shared→Prop} {s:Shared}
theorem sub_set_self:isSubtype (.type "set") (.type "set")=pure true:=by rw[isSubtype_type];kernel_rfl
theorem collect_set {a:Addr} {o:Obj} {es:Array (Int×Value)} {ep:Nat} {t:SetTable} {Q:List Value→Shared→Prop} (hh:A.handled=none) (ho:s.heap.get? a=some o) (hx:o.ExactSet) (hd:o.data= .set es ep t) (hf:t.fits es.size=true) (hz:es.size≤sizeLine)
  (hw:w.params.followText "set-order"=true∨t.led=true) (hp:es.size=0∨t.plain=false)
  (hQ: ∀vals h' tk d,vals.Perm (es.toList.map (·.2))→s.heap.objs.size≤h'.objs.size→(∀b o,s.heap.get? b=some o→h'.get? b=some o)→Q vals {s with heap:=h',toks:=tk,drawn:=d}):wpAny (model prog w) A (collect (.ref a)) Q E s:=by
 have lta:=Heap.lt_size ho
 have nea:s.heap.objs.size≠a:=Nat.ne_of_gt lta
 have hT: ∀h' d,(h':Heap).get? a=some o→Shared.TypeIs {s with heap:=h',drawn:=d} (.ref a) "set":=fun h' d e=>⟨o,e,hx.1⟩
 generalize hL:({cls:= .type "list",data:= .seq ([]:List Value).toArray}:Obj)=L
 have ho1:(s.heap.push L).get? a=some o:=Heap.get?_push_of_some _ ho
 have l1:(s.heap.push L).get? s.heap.objs.size=some L:=Heap.get?_push_size _ (by rw[←hL];rfl)
 have h1:Builtin.List.listSameRef (.ref s.heap.objs.size) (.ref a)=false:=by simp[Builtin.List.listSameRef,nea]
 unfold collect;refine wpAny_bind (wpAny_runValue (codeAny_builtin F.entry_proto_collect ?_))
 rw[Around.under_plainId F.plain_proto_collect _];show wpAny _ A.in1 (newList []>>=fun l=>again (.builtin "list.__iadd__" ⟨[l,.ref a],[]⟩)) _ _ s
 refine wpAny_bind (wpAny_newObj_type (wpAny_pure ⟨plainId_quiet F.plain_list_iadd _,codeAny_builtin F.entry_list_iadd ?_⟩))
 rw[Around.under_plainId F.plain_list_iadd _];show wpAny _ A.in1 (Builtin.List.listExtendWith (.ref s.heap.objs.size) (.ref a) (.ref s.heap.objs.size)) _ _ _
 rw[hL]
 unfold Builtin.List.listExtendWith;refine wpAny_bind (wpAny_typeOf (hT _ s.drawn ho1) ?_)
 rw[if_neg (by rw[h1];decide)]
 refine wpAny_bind (set_iter (s:={s with heap:=s.heap.push L}) ho1 hx hd hf hz hw hp fun it fp St vals h2 d W0 st0 hfp hperm hit hk=>wpAny_bind (wpAny_holding ?_))
 have ho2:=hk a o ho1
 have l2:=hk _ _ l1
 unfold Builtin.List.listLengthHint;refine wpAny_bind (wpAny_specialOf (hT _ d ho2) F.slot_set_len.lookup ?_)
 generalize hid:("set.__len__":String)=id0;(fail_if_success (clear hid id0));wp_delta;rw[show splitId id0=some ("set","__len__") from by subst hid;decide+kernel];subst hid
 refine wpAny_bind (wpAny_isInstance (b:=true) (hT _ d ho2) sub_set_self ?_)
 rw[if_neg (by decide)]
 refine if_same (c:=true) ?_ ?_
 ·decide+kernel
 rw[if_pos rfl]
 refine wpAny_bind (wpAny_typeOf (hT _ d ho2) (wpAny_pure ?_))
 refine if_same (c:=true) ?_ ?_
 ·decide+kernel
 rw[if_pos rfl]
 subst hL
 refine wpAny_bind (wpAny_rule (wpAny_bind ?_))
 show wpAny _ A.in1 (updateSeq s.heap.objs.size (·.push .none)>>=fun _=>updateSeq s.heap.objs.size (·.pop)) _ _ _
 refine wpAny_bind (wpAny_updateSeq l2 rfl ?_)
 have l3:=Heap.get?_update_self (Obj.mapSeq (·.push Value.none)) l2 rfl
 refine wpAny_updateSeq l3 rfl ?_
 have l4:=Heap.get?_update_self (Obj.mapSeq (·.pop)) l3 rfl
 refine wpAny_pure ⟨plainId_quiet F.plain_extend_loop _,?_⟩
 have W:=(W0 A.in1 (by simp[hh])).toS
 have hit':s.heap.objs.size+1≤it:=by have h:=hit;dsimp only at h;rw[size_push'] at h;exact h
 have nei:s.heap.objs.size≠it:=Nat.ne_of_lt hit'
 have off:s.heap.objs.size∉fp:=by
  intro h
  rcases hfp _ h with e | e
  ·exact nea e
  ·dsimp only at e;rw[size_push'] at e;exact absurd e (Nat.not_succ_le_self _)
 have hk2: ∀b u,b≠s.heap.objs.size→h2.get? b=some u→((h2.update s.heap.objs.size (Obj.mapSeq fun x=>x.push Value.none)).update s.heap.objs.size (Obj.mapSeq fun x=>x.pop)).get? b=some u:=fun b u hb e=>(Heap.get?_update_other _ _ (Ne.symm hb)).trans ((Heap.get?_update_other _ _ (Ne.symm hb)).trans e)
 refine codeAny_extend_loopS W hz _ off _ es.size 0 _ _ _ rfl (Nat.zero_le _) ((W0 A.in1 (by simp[hh])).frame _ _ _ st0 fun b hb u e=>hk2 b u (fun z=>off (z▸hb)) e) l4 (ItemsOf.nil _) fun s' acc c' hm hS' hacc=> ?_
 show wpAny _ A (load s.heap.objs.size>>=_) _ _ s'
 refine wpAny_bind (wpAny_load hS' (wpAny_pure ?_))
 obtain⟨h',g',d',tk',os'⟩:=s'
 have eg:g'=s.gens:=hm.gens
 have ed:d'=d:=hm.drawn
 have eo:os'=s.os:=hm.os
 subst eg ed eo
 have hlen:vals.length=es.size:=by simpa using hperm.length_eq
 have ea:acc.toList=vals:=by
  have hsz:=hacc.1
  apply List.ext_getElem?
  intro i
  by_cases hi:i<es.size
  ·have hv:=hacc.2 i acc[i] (by simp[hsz,hi])
   rw[hv];simp[hsz,hi]
  ·rw[List.getElem?_eq_none (by simp[hsz];omega),List.getElem?_eq_none (by omega)]
 rw[ea]
 refine hQ vals h' tk' _ hperm (Nat.le_of_lt (Heap.lt_size hS')) fun b u e=> ?_
 have lb:=Heap.lt_size e
 refine hm.heap b u ?_ (hk2 b u (Nat.ne_of_lt lb) (hk b u (Heap.get?_push_of_some _ e)))
 simp only[List.mem_cons,List.not_mem_nil,or_false,not_or]
 exact⟨Nat.ne_of_lt lb,Nat.ne_of_lt (Nat.lt_trans lb hit')⟩
end
noncomputable def leS (a b:Str):Bool:= !ltCps b.cps.toList a.cps.toList
noncomputable def srtS (xs:List Str):List Str:=xs.mergeSort leS
theorem leS_iff (a b:Str):leS a b=true↔a.cps.toList≤b.cps.toList:=by
 unfold leS;rw[ltCps_eq];simp
theorem leS_trans (a b c:Str) (h1:leS a b=true) (h2:leS b c=true):leS a c=true:=by
 rw[leS_iff] at*;exact List.le_trans h1 h2
theorem leS_total (a b:Str):(leS a b || leS b a)=true:=by
 rw[Bool.or_eq_true,leS_iff,leS_iff];exact List.le_total _ _
theorem leS_anti (a b:Str) (h1:leS a b=true) (h2:leS b a=true):a=b:=by
 rw[leS_iff] at*;exact Str.ext' (Array.toList_inj.mp (List.le_antisymm h1 h2))
theorem srtS_perm (xs:List Str):(srtS xs).Perm xs:=List.mergeSort_perm xs leS
theorem srtS_pair (xs:List Str):(srtS xs).Pairwise (fun a b=>leS a b=true):=List.pairwise_mergeSort leS_trans leS_total xs
theorem rising_pair: ∀(l:List Str) (p:Str),risingS p l=true→(p::l).Pairwise (fun a b=>leS a b=true)
 | [],p,_=>by simp
 | x::r,p,h=>by
  have h':(!ltCps x.cps.toList p.cps.toList&&risingS x r)=true:=h
  rw[Bool.and_eq_true] at h'
  have ih:=rising_pair r x h'.2
  refine List.pairwise_cons.mpr ⟨fun y hy=> ?_,ih⟩
  rcases List.mem_cons.mp hy with e | e
  ·rw[e];exact h'.1
  ·exact leS_trans _ _ _ h'.1 (List.rel_of_pairwise_cons ih e)
theorem sortedS_pair: ∀(l:List Str),sortedS l=true→l.Pairwise (fun a b=>leS a b=true)
 | [],_=> .nil
 | x::r,h=>rising_pair r x h
theorem srtS_of {xs ys:List Str} (hs:sortedS ys=true) (hp:ys.Perm xs):ys=srtS xs:=
 List.Perm.eq_of_pairwise (fun a b _ _=>leS_anti a b) (sortedS_pair ys hs) (srtS_pair xs) (hp.trans (srtS_perm xs).symm)
theorem perm_of_mem {α:Type} [DecidableEq α]: ∀(xs ys:List α),xs.Nodup→(∀k,k∈xs→k∈ys)→ys.length=xs.length→ys.Perm xs
 | [],ys,_,_,h=>by cases ys with | nil=>exact .refl _ | cons _ _=>simp at h
 | x::xs,ys,hn,hm,h=>by
  have hx:=hm x (by simp)
  have hp:=List.perm_cons_erase hx
  refine hp.trans (List.Perm.cons x (perm_of_mem xs (ys.erase x) (List.nodup_cons.mp hn).2 (fun k hk=> ?_) ?_))
  ·have ne:k≠x:=fun e=>(List.nodup_cons.mp hn).1 (e▸hk)
   exact (List.mem_erase_of_ne ne).mpr (hm k (by simp[hk]))
  ·rw[List.length_erase_of_mem hx,h];simp
theorem addS_nodup {σ:List Str} {v:Str} (h:σ.Nodup):(addS σ v).Nodup:=by
 unfold addS
 split
 ·exact h
 ·rename_i hc
  have hn:v∉σ:=fun hm=>hc (by simpa using hm)
  first
  | exact List.nodup_cons.mpr ⟨hn,h⟩
  |(rw[List.nodup_append];exact⟨h,by simp,by intro a ha b hb;simp at hb;subst hb;intro e;subst e;exact hn ha⟩)
theorem metS_nodup_from (vs:List Str): ∀(σ:List Str),σ.Nodup→(vs.foldl addS σ).Nodup:=by
 induction vs with
 | nil=>intro σ h;exact h
 | cons v r ih=>intro σ h;exact ih _ (addS_nodup h)
theorem metS_nodup (vs:List Str):(metS vs).Nodup:=metS_nodup_from vs [] .nil
section
variable {prog:Program} {w:World} {A:Around} {E:Value→Shared→Prop} {s:Shared}
theorem sorted_of {x:Value} {xs:List Str} {Q:Value→Shared→Prop} (hh:A.handled=none) (h64:xs.length<64)
  (hc: ∀(B:Around) (Q':List Value→Shared→Prop),B.handled=none→(∀vals ts h' tk d,StrsAre vals ts→ts.Perm xs→s.heap.objs.size≤h'.objs.size→(∀b o,s.heap.get? b=some o→h'.get? b=some o)→Q' vals {s with heap:=h',toks:=tk,drawn:=d})→wpAny (model prog w) B (collect x) Q' E s)
  (h: ∀out l h' tk d m,StrsAre out (srtS xs)→s.heap.objs.size≤l→h'.get? l=some {cls:= .type "list",data:= .seq out.toArray m}→(∀b o,s.heap.get? b=some o→h'.get? b=some o)→Q (.ref l) {s with heap:=h',toks:=tk,drawn:=d}):
  wpAny (model prog w) A (call (.builtin "sorted") [x]) Q E s:=by
 refine Calls.call_function_entry kind_sorted plain_sorted entry_sorted (args_sorted1 _) ?_
 unfold Builtin.«sorted»
 refine wpAny_bind (m:=checkCount "sorted" 1 1 _) (wpAny_pure ?_)
 refine wpAny_bind (hc A.in1 _ (by simp[hh]) fun vals ts h1 tk d hS hp le hk=> ?_)
 have hvl:vals.length<64:=by rw[hS.len_eq,hp.length_eq];exact h64
 refine wpAny_bind (wpAny_newList ?_)
 have hoL:(h1.push (seqObj "list" vals.toArray 0)).get? h1.objs.size=some (seqObj "list" vals.toArray 0):=Heap.get?_push_size _ rfl
 show wpAny _ _ _ _ _ {s with heap:=h1.push (seqObj "list" vals.toArray 0),toks:=tk,drawn:=d}
 refine wpAny_bind (wpAny_holding (wpAny_call_entry slot_list_sort ⟨_,hoL,rfl⟩ entry_list_sort (list_sort_treeK strKind_oneLt hoL hS.keysOf (fun v₁ v₂ rest e=>keyKind_strs (by rw[←e];exact hS)) hvl fun st' a1 a2=>⟨_,rfl,?_⟩) (args_list_sort _)))
 refine wpAny_pure ⟨_,rfl,?_⟩
 obtain⟨ss',b1,b2,b3⟩:=sorted_out_str hS a1 a2
 have e:=srtS_of b3 (b2.trans hp)
 subst e
 generalize (Array.map (fun x=>x.snd) (arrOf st'))=out at b1⊢
 obtain⟨ol⟩:=out
 have k1:=get?_update_seq hoL (fun _=> #[])
 have k2:=get?_update_seq (Heap.get?_push_of_some (seqObj "list" #[] 0) (Heap.get?_push_of_some (seqObj "tuple" vals.toArray 0) k1)) (fun _=>ol.toArray)
 refine h ol h1.objs.size _ tk d _ b1 le k2 fun b o e=> ?_
 have lt:=Heap.lt_size (hk b o e)
 have ne:h1.objs.size≠b:=Nat.ne_of_gt lt
 show (sortedHeap _ _ _ _).get? b=some o
 unfold sortedHeap
 rw[Heap.get?_update_other _ _ ne]
 refine Heap.get?_push_of_some _ (Heap.get?_push_of_some _ ?_)
 rw[Heap.get?_update_other _ _ ne]
 exact Heap.get?_push_of_some _ (hk b o e)
theorem strs_of: ∀(vals:List Value),(∀v∈vals,∃k t,v=Value.str k t)→∃ts,StrsAre vals ts
 | [],_=>⟨[],.nil⟩
 | v::vs,h=>by
  obtain⟨k,t,e⟩:=h v (by simp)
  obtain⟨ts,h2⟩:=strs_of vs fun v hv=>h v (by simp[hv])
  subst e
  exact⟨k::ts,.cons k t h2⟩
theorem strs_mem: ∀{vals:List Value} {ts:List Str},StrsAre vals ts→∀{k:Str} {t:Tok},Value.str k t∈vals→k∈ts
 | _,_,.cons y u r,k,t,h=>by
  rcases List.mem_cons.mp h with e | e
  ·injection e with e1;subst e1;simp
  ·exact List.mem_cons_of_mem _ (strs_mem r e)
theorem sorted_set {a:Addr} {ss:List Str} {Q:Value→Shared→Prop} (hh:A.handled=none) (h64:ss.length<64) (hn:ss.Nodup) (z:s.heap.SetOf (PySem.strKind prog w) a (fun k=>ss.contains k) ss.length) (zt:Txts w s.heap a)
  (h: ∀out l h' tk d m,StrsAre out (srtS ss)→s.heap.objs.size≤l→h'.get? l=some {cls:= .type "list",data:= .seq out.toArray m}→(∀b o,s.heap.get? b=some o→h'.get? b=some o)→Q (.ref l) {s with heap:=h',toks:=tk,drawn:=d}):
  wpAny (model prog w) A (call (.builtin "sorted") [.ref a]) Q E s:=by
 obtain⟨o,es,ep,t,ho,hx,hd,hel,hm,hb,hf,hsz⟩:=z
 obtain⟨o2,ho2,es2,ep2,t2,hd2,hw,hp⟩:=zt
 rw[ho] at ho2
 cases ho2
 rw[hd] at hd2
 cases hd2
 have hs:sizeLine=16777216:=sizeLine_eq
 refine sorted_of hh h64 (fun B Q' hB q=>collect_set hB ho hx hd hf (by unfold scanBound at hb;omega) hw hp fun vals h' tk d pv le kp=> ?_) h
 have hstr: ∀v∈vals,∃k t,v=Value.str k t:=by
  intro v hv
  obtain⟨e,he,rfl⟩:=List.mem_map.mp (pv.subset hv)
  obtain⟨⟨k,hk,_⟩,_⟩:=hel e he
  obtain⟨t,et⟩:=Value.isStrOf_shape hk
  exact⟨k,t,et⟩
 obtain⟨ts,hS⟩:=strs_of vals hstr
 refine q vals ts h' tk d hS (perm_of_mem ss ts hn (fun k hk=> ?_) ?_) le kp
 ·obtain⟨e,he,hi⟩:=(hm k).mp (by simpa using hk)
  obtain⟨t,et⟩:=Value.isStrOf_shape hi
  refine strs_mem hS (t:=t) (pv.symm.subset ?_)
  rw[←et]
  exact List.mem_map.mpr ⟨e,he,rfl⟩
 ·rw[←hS.len_eq,pv.length_eq,List.length_map,Array.length_toList,hsz]
end
inductive D where
 | non | bl (b:Bool) | int (i:Int) | str (x:Str) | tup (ds:List D) | lst (ds:List D) | obj (C:Addr) (fs:List (Str×D))
 | dk (kvs:List (Key×D)) | dt (kvs:List (List Key×D)) | exc (C:Addr) | set (ss:List Str)
noncomputable def excAt (a C:Addr) (h:Heap):Prop:= ∃o,h.get? a=some o∧o.cls= .ref C
noncomputable def TQ (K:PySem.W.Frag) (H:Hp) (a:Addr) (vs:List V):Prop:=H a=some (.tup vs)
theorem TQ.of {K:PySem.W.Frag} {H:Hp} {a:Addr} {vs:List V} (h:H a=some (.tup vs)):TQ K H a vs:=h
theorem TQ.sq {K:PySem.W.Frag} {H:Hp} {a:Addr} {vs:List V} (h:TQ K H a vs):SqT K H a vs:=SqT.of h
instance {K:PySem.W.Frag} {H:Hp} {a:Addr} {vs:List V}:Coe (TQ K H a vs) (SqT K H a vs):=⟨TQ.sq⟩
mutual
inductive Is (K:PySem.W.Frag) (H:Hp):D→V→Prop where
 | non:Is K H .non .non
 | bl (b:Bool):Is K H (.bl b) (.bl b)
 | int (i:Int):Is K H (.int i) (.int i)
 | str (x:Str):Is K H (.str x) (.str x)
 | tup {a:Addr} {ds:List D} {vs:List V} (h:TQ K H a vs) (r:IsL K H ds vs):Is K H (.tup ds) (.ref a)
 | lst {a:Addr} {ds:List D} {vs:List V} (h:SqL K H a vs) (r:IsL K H ds vs):Is K H (.lst ds) (.ref a)
 | obj {a C dx:Addr} {fs:List (Str×D)} {vs:List (Str×V)} (h:H a=some (.ins C dx vs)) (r:IsF K H fs vs):Is K H (.obj C fs) (.ref a)
 | dk {a:Addr} {kvs:List (Key×D)} {vs:List (Key×V)} (h:H a=some (.dK vs)) (r:IsK K H kvs vs):Is K H (.dk kvs) (.ref a)
 | dt {a:Addr} {kvs:List (List Key×D)} {vs:List (List Key×V)} (h:H a=some (.dT vs)) (r:IsT K H kvs vs):Is K H (.dt kvs) (.ref a)
 | exc {a C:Addr} (h:H a=some (.ext (excAt a C))):Is K H (.exc C) (.ref a)
 | set {a:Addr} {ss:List Str} (h:H a=some (.set (fun k=>ss.contains k) ss.length)):Is K H (.set ss) (.ref a)
inductive IsK (K:PySem.W.Frag) (H:Hp):List (Key×D)→List (Key×V)→Prop where
 | nil:IsK K H [] []
 | cons {x:Key} {d:D} {v:V} {ds:List (Key×D)} {vs:List (Key×V)} (h:Is K H d v) (r:IsK K H ds vs):IsK K H ((x,d)::ds) ((x,v)::vs)
inductive IsT (K:PySem.W.Frag) (H:Hp):List (List Key×D)→List (List Key×V)→Prop where
 | nil:IsT K H [] []
 | cons {x:List Key} {d:D} {v:V} {ds:List (List Key×D)} {vs:List (List Key×V)} (h:Is K H d v) (r:IsT K H ds vs):IsT K H ((x,d)::ds) ((x,v)::vs)
inductive IsL (K:PySem.W.Frag) (H:Hp):List D→List V→Prop where
 | nil:IsL K H [] []
 | cons {d:D} {v:V} {ds:List D} {vs:List V} (h:Is K H d v) (r:IsL K H ds vs):IsL K H (d::ds) (v::vs)
inductive IsF (K:PySem.W.Frag) (H:Hp):List (Str×D)→List (Str×V)→Prop where
 | nil:IsF K H [] []
 | cons {x:Str} {d:D} {v:V} {ds:List (Str×D)} {vs:List (Str×V)} (h:Is K H d v) (r:IsF K H ds vs):IsF K H ((x,d)::ds) ((x,v)::vs)
end
section
variable {K:PySem.W.Frag} {H H':Hp}
theorem SqT.mono {a:Addr} {xs:List V} (e:Same H H') (h:SqT K H a xs):SqT K H' a xs:=by
 rcases h with (h |⟨o,h⟩) | h
 ·exact .inl (.inl (e _ _ h))
 ·exact .inl (.inr ⟨o,e _ _ h⟩)
 ·exact .inr h
theorem Is.mono (e:Same H H') {d:D} {v:V} (h:Is K H d v):Is K H' d v:=
 Is.rec (motive_1:=fun d v _=>Is K H' d v) (motive_2:=fun ds vs _=>IsK K H' ds vs) (motive_3:=fun ds vs _=>IsT K H' ds vs) (motive_4:=fun ds vs _=>IsL K H' ds vs) (motive_5:=fun ds vs _=>IsF K H' ds vs)
  .non .bl .int .str (fun h _ r=> .tup (e _ _ h) r) (fun h _ r=> .lst (e.seq h) r) (fun h _ r=> .obj (e _ _ h) r) (fun h _ r=> .dk (e _ _ h) r) (fun h _ r=> .dt (e _ _ h) r) (fun h=> .exc (e _ _ h)) (fun h=> .set (e _ _ h))
  .nil (fun _ _ i r=> .cons i r) .nil (fun _ _ i r=> .cons i r) .nil (fun _ _ i r=> .cons i r) .nil (fun _ _ i r=> .cons i r) h
theorem IsK.mono (e:Same H H'): ∀{ds:List (Key×D)} {vs:List (Key×V)},IsK K H ds vs→IsK K H' ds vs:=by
 intro ds
 induction ds with
 | nil=>intro vs h;cases h;exact .nil
 | cons d ds ih=>intro vs h;cases h with | cons i r=>exact .cons (i.mono e) (ih r)
theorem IsT.mono (e:Same H H'): ∀{ds:List (List Key×D)} {vs:List (List Key×V)},IsT K H ds vs→IsT K H' ds vs:=by
 intro ds
 induction ds with
 | nil=>intro vs h;cases h;exact .nil
 | cons d ds ih=>intro vs h;cases h with | cons i r=>exact .cons (i.mono e) (ih r)
theorem IsL.mono (e:Same H H'): ∀{ds:List (D)} {vs:List (V)},IsL K H ds vs→IsL K H' ds vs:=by
 intro ds
 induction ds with
 | nil=>intro vs h;cases h;exact .nil
 | cons d ds ih=>intro vs h;cases h with | cons i r=>exact .cons (i.mono e) (ih r)
theorem IsF.mono (e:Same H H'): ∀{ds:List (Str×D)} {vs:List (Str×V)},IsF K H ds vs→IsF K H' ds vs:=by
 intro ds
 induction ds with
 | nil=>intro vs h;cases h;exact .nil
 | cons d ds ih=>intro vs h;cases h with | cons i r=>exact .cons (i.mono e) (ih r)
theorem IsL.length: ∀{ds:List D} {vs:List V},IsL K H ds vs→ds.length=vs.length:=by
 intro ds
 induction ds with
 | nil=>intro vs h;cases h;rfl
 | cons d ds ih=>intro vs h;cases h with | cons _ r=>exact congrArg (· +1) (ih r)
theorem IsL.get: ∀{ds:List D} {vs:List V} {i:Nat} {d:D},IsL K H ds vs→ds[i]? =some d→∃v,vs[i]? =some v∧Is K H d v
 | _,_,_,_,.nil,e=>by simp at e
 | _,_,0,_,.cons h _,e=>by simp at e;subst e;exact⟨_,rfl,h⟩
 | _,_,i+1,d,.cons _ r,e=>by
  obtain⟨v,h1,h2⟩:=IsL.get (i:=i) (d:=d) r (by simpa using e)
  exact⟨v,by simpa using h1,h2⟩
theorem IsL.getV: ∀{ds:List D} {vs:List V} {i:Nat} {v:V},IsL K H ds vs→vs[i]? =some v→∃d,ds[i]? =some d∧Is K H d v
 | _,_,_,_,.nil,e=>by simp at e
 | _,_,0,_,.cons h _,e=>by simp at e;subst e;exact⟨_,rfl,h⟩
 | _,_,i+1,v,.cons _ r,e=>by
  obtain⟨d,h1,h2⟩:=IsL.getV (i:=i) (v:=v) r (by simpa using e)
  exact⟨d,by simpa using h1,h2⟩
theorem IsL.append: ∀{ds es:List D} {vs ws:List V},IsL K H ds vs→IsL K H es ws→IsL K H (ds++es) (vs++ws):=by
 intro ds
 induction ds with
 | nil=>intro es vs ws h s;cases h;exact s
 | cons d ds ih=>intro es vs ws h s;cases h with | cons i r=>exact .cons i (ih r s)
theorem IsL.take: ∀{ds:List D} {vs:List V} (n:Nat),IsL K H ds vs→IsL K H (ds.take n) (vs.take n)
 | _,_,0,_=> .nil
 | _,_,_+1,.nil=> .nil
 | _,_,n+1,.cons h r=> .cons h (IsL.take n r)
theorem IsL.drop: ∀{ds:List D} {vs:List V} (n:Nat),IsL K H ds vs→IsL K H (ds.drop n) (vs.drop n)
 | _,_,0,r=>r
 | _,_,_+1,.nil=> .nil
 | _,_,n+1,.cons _ r=>IsL.drop n r
theorem isL_ints: ∀(ns:List Int),IsL K H (ns.map D.int) (ns.map V.int)
 | []=> .nil
 | n::r=> .cons (.int n) (isL_ints r)
end
inductive DO where
 | k (kvs:List (Key×D)) | t (kvs:List (List Key×D))
noncomputable def DO.d:DO→D
 | .k kvs=> .dk kvs
 | .t kvs=> .dt kvs
noncomputable def kD:Key→D
 | .inl i=> .int i
 | .inr x=> .str x
inductive SV where
 | sh (d:D) | own (ds:List D) | oin (a C dx:Addr) (fs:List (Str×D)) | ow (o:DO) | tk (ks:List Key)
noncomputable abbrev Rho:=List (Option SV)
noncomputable def SV.cur:SV→D
 | .sh d=>d
 | .own ds=> .lst ds
 | .oin _ C _ fs=> .obj C fs
 | .ow o=>o.d
 | .tk ks=> .tup (ks.map kD)
open Classical in
noncomputable def Off (H:Hp) (O:Nat→Option Addr):Hp:=fun b=>if∃i,O i=some b then none else H b
theorem Off.same (H:Hp) (O:Nat→Option Addr):Same (Off H O) H:=fun b o h=>by
 unfold Off at h
 split at h
 ·cases h
 ·exact h
theorem Off.of {H:Hp} {O:Nat→Option Addr} {b:Addr} {o:HO} (h:H b=some o) (n: ∀i,O i≠some b):Off H O b=some o:=by
 unfold Off
 rw[if_neg (fun⟨i,e⟩=>n i e)]
 exact h
theorem Off.not {H:Hp} {O:Nat→Option Addr} {b:Addr} {o:HO} (h:Off H O b=some o): ∀i,O i≠some b:=fun i e=>by
 unfold Off at h
 rw[if_pos ⟨i,e⟩] at h
 cases h
theorem Off.mono {H H':Hp} {O:Nat→Option Addr} (e:Same H H'):Same (Off H O) (Off H' O):=fun b o h=>Off.of (e _ _ (Off.same H O b o h)) (Off.not h)
theorem Off.less {H:Hp} {O O':Nat→Option Addr} (e: ∀i a,O' i=some a→∃j,O j=some a):Same (Off H O) (Off H O'):=fun b o h=>Off.of (Off.same H O b o h) fun i q=>by
 obtain⟨j,z⟩:=e i b q
 exact Off.not h j z
theorem Off.upd {H:Hp} {O:Nat→Option Addr} {a:Addr} {o:HO} {i:Nat} (h:O i=some a):Off (upd H a o) O=Off H O:=by
 funext b
 unfold Off
 by_cases q: ∃j,O j=some b
 ·rw[if_pos q,if_pos q]
 ·rw[if_neg q,if_neg q,aB5]
  intro z;subst z;exact q ⟨i,h⟩
noncomputable def mutO:HO→Bool
 | .lst _=>true
 | .ins _ _ _=>true
 | .dK _=>true
 | .dT _=>true
 | _=>false
noncomputable def OwnK (H:Hp) (O:Nat→Option Addr):Prop:= ∀i a,O i=some a→∃w,H a=some w∧mutO w=true
noncomputable def IsO (K:PySem.W.Frag) (H:Hp):DO→HO→Prop
 | .k kvs,.dK vs=>IsK K H kvs vs
 | .t kvs,.dT vs=>IsT K H kvs vs
 | _,_=>False
theorem IsO.mono {K:PySem.W.Frag} {H H':Hp} (e:Same H H') {o:DO} {w:HO} (h:IsO K H o w):IsO K H' o w:=by
 cases o<;>cases w<;>first | exact False.elim h | skip
 ·exact IsK.mono e h
 ·exact IsT.mono e h
theorem IsO.is {K:PySem.W.Frag} {H:Hp} {o:DO} {w:HO} {a:Addr} (ha:H a=some w) (h:IsO K H o w):Is K H o.d (.ref a):=by
 cases o<;>cases w<;>first | exact False.elim h | skip
 ·exact .dk ha h
 ·exact .dt ha h
theorem is_kD {K:PySem.W.Frag} {H:Hp} (k:Key):Is K H (kD k) (kV k):=by
 cases k
 ·exact .int _
 ·exact .str _
theorem isL_kD {K:PySem.W.Frag} {H:Hp}: ∀(ks:List Key),IsL K H (ks.map kD) (ks.map kV)
 | []=> .nil
 | k::ks=> .cons (is_kD k) (isL_kD ks)
theorem OwnK.mono {H H':Hp} {O:Nat→Option Addr} (e:Same H H') (h:OwnK H O):OwnK H' O:=fun i a q=>by
 obtain⟨w,h1,h2⟩:=h i a q
 exact⟨w,e _ _ h1,h2⟩
noncomputable def Slot (K:PySem.W.Frag) (H:Hp) (O:Nat→Option Addr) (σ:St) (i:Nat):SV→Prop
 | .sh d=> ∃v,σ[i]? =some (some v)∧Is K (Off H O) d v
 | .own ds=> ∃a vs,O i=some a∧σ[i]? =some (some (.ref a))∧H a=some (.lst vs)∧IsL K (Off H O) ds vs
 | .oin a C dx fs=>O i=some a∧σ[i]? =some (some (.ref a))∧dx≠a∧(∃vs,H a=some (.ins C dx vs)∧IsF K (Off H O) fs vs)
 | .ow o=> ∃a w,O i=some a∧σ[i]? =some (some (.ref a))∧H a=some w∧IsO K (Off H O) o w
 | .tk ks=> ∃a,σ[i]? =some (some (.ref a))∧Off H O a=some (.tup (ks.map kV))
noncomputable def Rel (K:PySem.W.Frag) (H₀:Hp) (ρ:Rho) (σ:St) (H:Hp):Prop:=
 ∃O:Nat→Option Addr,(∀i j a,O i=some a→O j=some a→i=j)∧OwnK H O∧Same H₀ (Off H O)∧ρ.length=σ.length∧∀i sv,ρ[i]? =some (some sv)→Slot K H O σ i sv
section
variable {K:PySem.W.Frag} {H₀ H H':Hp} {ρ:Rho} {σ:St}
theorem Slot.mono {O:Nat→Option Addr} {i:Nat} {sv:SV} (e:Same H H') (h:Slot K H O σ i sv):Slot K H' O σ i sv:=by
 cases sv with
 | sh d=>obtain⟨v,h1,h2⟩:=h;exact⟨v,h1,h2.mono (Off.mono e)⟩
 | own ds=>obtain⟨a,vs,h1,h2,h3,h4⟩:=h;exact⟨a,vs,h1,h2,e _ _ h3,h4.mono (Off.mono e)⟩
 | oin a C dx fs=>obtain⟨h1,h2,h3,vs,h4,h5⟩:=h;exact⟨h1,h2,h3,vs,e _ _ h4,h5.mono (Off.mono e)⟩
 | ow o=>obtain⟨a,w,h1,h2,h3,h4⟩:=h;exact⟨a,w,h1,h2,e _ _ h3,h4.mono (Off.mono e)⟩
 | tk ks=>obtain⟨a,h1,h2⟩:=h;exact⟨a,h1,Off.mono e _ _ h2⟩
theorem Rel.mono (e:Same H H') (r:Rel K H₀ ρ σ H):Rel K H₀ ρ σ H':=by
 obtain⟨O,h1,ho,h2,hl,h3⟩:=r
 exact⟨O,h1,ho.mono e,h2.trans (Off.mono e),hl,fun i sv q=>(h3 i sv q).mono e⟩
theorem Rel.get (r:Rel K H₀ ρ σ H) {i:Nat} {sv:SV} (q:ρ[i]? =some (some sv)): ∃v,σ[i]? =some (some v)∧Is K H sv.cur v:=by
 obtain⟨O,h1,ho,h2,hl,h3⟩:=r
 have z:=h3 i sv q
 cases sv with
 | sh d=>obtain⟨v,e1,e2⟩:=z;exact⟨v,e1,e2.mono (Off.same _ _)⟩
 | own ds=>obtain⟨a,vs,e1,e2,e3,e4⟩:=z;exact⟨.ref a,e2,.lst (SqL.of e3) (e4.mono (Off.same _ _))⟩
 | oin a C dx fs=>obtain⟨e1,e2,e3,vs,e4,e5⟩:=z;exact⟨.ref a,e2,.obj e4 (e5.mono (Off.same _ _))⟩
 | ow o=>obtain⟨a,w,e1,e2,e3,e4⟩:=z;exact⟨.ref a,e2,(e4.mono (Off.same _ _)).is e3⟩
 | tk ks=>obtain⟨a,e1,e2⟩:=z;exact⟨.ref a,e1,.tup (TQ.of (Off.same _ _ _ _ e2)) (isL_kD ks)⟩
theorem Rel.kept (r:Rel K H₀ ρ σ H):Same H₀ H:=by
 obtain⟨O,h1,ho,h2,_⟩:=r
 exact h2.trans (Off.same _ _)
end
mutual
noncomputable def D.imm:D→Bool
 | .non=>true | .bl _=>true | .int _=>true | .str _=>true
 | .tup ds=>immL ds
 | .lst _=>false
 | .obj _ _=>false
 | .dk _=>false
 | .dt _=>false
 | .exc _=>false
 | .set _=>false
noncomputable def immL:List D→Bool
 | []=>true
 | d::ds=>d.imm&&immL ds
end
section
variable {K:PySem.W.Frag} {H H':Hp}
theorem Is.alike (ht: ∀b xs,H b=some (.tup xs)→H' b=some (.tup xs)) (hf: ∀b o u,H b=some (.frz o u)→H' b=some (.frz o u)) {d:D} {v:V} (q:d.imm=true) (h:Is K H d v):Is K H' d v:=
 Is.rec (motive_1:=fun d v _=>d.imm=true→Is K H' d v) (motive_2:=fun _ _ _=>True) (motive_3:=fun _ _ _=>True) (motive_4:=fun ds vs _=>immL ds=true→IsL K H' ds vs) (motive_5:=fun _ _ _=>True)
  (fun _=> .non) (fun b _=> .bl b) (fun i _=> .int i) (fun x _=> .str x) (fun h _ r q=> .tup (ht _ _ h) (r q)) (fun _ _ _ q=>Bool.noConfusion (show false=true from q)) (fun _ _ _ q=>Bool.noConfusion (show false=true from q)) (fun _ _ _ q=>Bool.noConfusion (show false=true from q)) (fun _ _ _ q=>Bool.noConfusion (show false=true from q)) (fun _ q=>Bool.noConfusion (show false=true from q)) (fun _ q=>Bool.noConfusion (show false=true from q))
  trivial (fun _ _ _ _=>trivial) trivial (fun _ _ _ _=>trivial) (fun _=> .nil) (fun _ _ i r q=> .cons (i (Bool.and_eq_true_iff.mp q).1) (r (Bool.and_eq_true_iff.mp q).2)) trivial (fun _ _ _ _=>trivial) h q
theorem IsL.alike (ht: ∀b xs,H b=some (.tup xs)→H' b=some (.tup xs)) (hf: ∀b o u,H b=some (.frz o u)→H' b=some (.frz o u)): ∀{ds:List D} {vs:List V},immL ds=true→IsL K H ds vs→IsL K H' ds vs:=by
 intro ds
 induction ds with
 | nil=>intro vs q h;cases h;exact .nil
 | cons d ds ih=>
  intro vs q h
  rw[immL,Bool.and_eq_true] at q
  cases h with | cons i r=>exact .cons (Is.alike ht hf q.1 i) (ih q.2 r)
theorem off_imm {O:Nat→Option Addr} (ho:OwnK H O) {d:D} {v:V} (q:d.imm=true) (h:Is K H d v):Is K (Off H O) d v:=by
 refine Is.alike (fun b xs e=>Off.of e fun i z=> ?_) (fun b o u e=>Off.of e fun i z=> ?_) q h
 ·obtain⟨u,w,m⟩:=ho i b z;rw[w] at e;cases e;cases m
 ·obtain⟨u,w,m⟩:=ho i b z;rw[w] at e;cases e;cases m
theorem offL_imm {O:Nat→Option Addr} (ho:OwnK H O) {ds:List D} {vs:List V} (q:immL ds=true) (h:IsL K H ds vs):IsL K (Off H O) ds vs:=by
 refine IsL.alike (fun b xs e=>Off.of e fun i z=> ?_) (fun b o u e=>Off.of e fun i z=> ?_) q h
 ·obtain⟨u,w,m⟩:=ho i b z;rw[w] at e;cases e;cases m
 ·obtain⟨u,w,m⟩:=ho i b z;rw[w] at e;cases e;cases m
end
noncomputable abbrev M (α:Type):=Option (Except Addr α)
noncomputable def ok {α:Type} (a:α):M α:=some (.ok a)
noncomputable def err {α:Type} (c:Addr):M α:=some (.error c)
noncomputable def bnd {α β:Type} (m:M α) (k:α→M β):M β:=match m with
 | none=>none
 | some (.error c)=>some (.error c)
 | some (.ok a)=>k a
@[simp] theorem aDh {α β:Type} (a:α) (k:α→M β):bnd (ok a) k=k a:=rfl
@[simp] theorem bnd_err {α β:Type} (c:Addr) (k:α→M β):bnd (err c:M α) k=err c:=rfl
@[simp] theorem bnd_none {α β:Type} (k:α→M β):bnd (none:M α) k=none:=rfl
theorem aC3 {α:Type} {a b:α} (h:ok a=ok b):a=b:=by cases h;rfl
theorem bnd_eq_ok {α β:Type} {m:M α} {k:α→M β} {b:β} (h:bnd m k=ok b): ∃a,m=ok a∧k a=ok b:=by
 unfold bnd at h
 split at h
 ·cases h
 ·cases h
 ·exact⟨_,rfl,h⟩
noncomputable def Fly (P:Program) (w:World) (outer:List Env) (s:Shared) (ea c:Addr) (H':Hp) (s':Shared):Prop:=
 ∃Bs a0,Heap.FlyingW Bs outer ea (.ref c) a0 s'.heap∧(∀b o o',s.heap.get? b=some o'→b∉frs outer→s'.heap.get? b=some o→Bs.get? b=some o)∧HOk P w H' Bs
noncomputable def Exc (X:Cx) (pins:List (Addr×Obj)) (σ:St) (H:Hp) (c:Addr) (e:Value) (s:Shared):Prop:= ∃ea,e= .ref ea∧
 ((∃h args,Heap.MadeExcOf h s.heap ea (.ref c) args∧Inv X pins σ H {s with heap:=h})∨
  (∃s1 H1,Inv X pins σ H1 s1∧s.os=s1.os∧AllBare s.gens∧Un (frs X.stack) [] H1 H s1.heap s.heap∧Fly X.prog X.w X.stack s1 ea c H s))
noncomputable def Thr (X:Cx) (σ:St) (H:Hp) (c:Addr):Prop:= ∀(pins:List (Addr×Obj)) (s:Shared) (H':Hp) (e:Value),Same H H'→Exc X pins σ H' c e s→X.xe e s
theorem Thr.mono {X:Cx} {σ:St} {H H':Hp} {c:Addr} (e:Same H H') (t:Thr X σ H c):Thr X σ H' c:=fun pins s H2 ev q x=>t pins s H2 ev (e.trans q) x
noncomputable def Res {α:Type} (X:Cx) (σ:St) (H:Hp) (Q:α→Prop) (m:M α):Prop:=match m with
 | none=>False
 | some (.error c)=>Thr X σ H c
 | some (.ok a)=>Q a
theorem Res.bind {α β:Type} {X:Cx} {σ:St} {H:Hp} {Q:β→Prop} {m:M α} {k:α→M β} (h:Res X σ H Q (bnd m k)):Res X σ H (fun a=>Res X σ H Q (k a)) m:=by
 unfold bnd at h
 split at h
 ·exact h
 ·exact h
 ·exact h
theorem Res.mono {α:Type} {X:Cx} {σ:St} {H H':Hp} {Q Q':α→Prop} {m:M α} (e:Same H H') (h:Res X σ H Q m) (i: ∀a,Q a→Q' a):Res X σ H' Q' m:=by
 unfold Res at*
 split at h
 ·exact h
 ·exact Thr.mono e h
 ·exact i _ h
theorem Res.imp {α:Type} {X:Cx} {σ:St} {H:Hp} {Q Q':α→Prop} {m:M α} (h:Res X σ H Q m) (i: ∀a,Q a→Q' a):Res X σ H Q' m:=h.mono (Same.refl H) i
noncomputable def tD (X:Cx) (B:Hp) (f:Rho→M D):TE:=fun σ H Q=> ∃ρ,Rel X.K B ρ σ H∧Res X σ H (fun d=> ∀v H',Same H H'→Is X.K H' d v→Q v H') (f ρ)
noncomputable def tDT (X:Cx) (B:Hp) (f:Rho→M Bool):TT:=fun σ H Q=> ∃ρ,Rel X.K B ρ σ H∧Res X σ H (fun b=> ∀H',Same H H'→Q b H') (f ρ)
noncomputable def tDA (X:Cx) (B:Hp) (f:Rho→M (List D)):TA:=fun σ H Q=> ∃ρ,Rel X.K B ρ σ H∧Res X σ H (fun ds=> ∀vs H',Same H H'→IsL X.K H' ds vs→Q vs H') (f ρ)
noncomputable abbrev PD (X:Cx) (B:Hp) (e:Expr) (f:Rho→M D):Prop:=PE X e (tD X B f)
noncomputable abbrev PDT (X:Cx) (B:Hp) (e:Expr) (f:Rho→M Bool):Prop:=PT X e (tDT X B f)
noncomputable abbrev PDW (X:Cx) (B:Hp) (e:Expr) (f:Rho→M Bool):Prop:=PW X e (tDT X B f)
noncomputable abbrev PDA (X:Cx) (B:Hp) (es:List Expr) (f:Rho→M (List D)):Prop:=PA X es (tDA X B f)
section
variable {X:Cx} {B:Hp} {e a b c:Expr} {es:List Expr} {pos:Pos}
theorem PE.of {t t':TE} (h:PE X e t) (i: ∀σ H Q,t' σ H Q→t σ H Q):PE X e t':=fun pins s σ H Q I q=>h pins s σ H Q I (i σ H Q q)
theorem PT.of {t t':TT} (h:PT X e t) (i: ∀σ H Q,t' σ H Q→t σ H Q):PT X e t':=fun pins s σ H Q I q=>h pins s σ H Q I (i σ H Q q)
theorem PW.of {t t':TT} (h:PW X e t) (i: ∀σ H Q,t' σ H Q→t σ H Q):PW X e t':=fun wh pins s σ H Q I q=>h wh pins s σ H Q I (i σ H Q q)
theorem PA.of {t t':TA} (h:PA X es t) (i: ∀σ H Q,t' σ H Q→t σ H Q):PA X es t':=fun pos pins s σ H Q I q=>h pos pins s σ H Q I (i σ H Q q)
noncomputable def look (i:Nat):Rho→M D:=fun ρ=>match ρ[i]? with
 | some (some sv)=>ok sv.cur
 | _=>none
theorem aAa (i:Nat) {x:Str} {pos:Pos} (hN:X.N[i]? =some x:=by rfl) (hv:Vis X.env.scope x:=by first | exact Or.inl rfl | exact Or.inr (Or.inl rfl) | exact Or.inr (Or.inr rfl)) (hd:(x==("__debug__":Str))=false:=by decide)
  (hcd:(x==("__classdict__":Str))=false:=by decide):PD X B (.Name x pos) (look i):=by
 refine PE.of (pe_var hN hv hd hcd) fun σ H Q h=> ?_
 obtain⟨ρ,r,h⟩:=h
 unfold look at h
 split at h
 ·rename_i sv q
  obtain⟨v,e1,e2⟩:=r.get q
  exact⟨v,e1,h v H (Same.refl H) e2⟩
 ·exact False.elim h
noncomputable def con (d:D):Rho→M D:=fun _=>ok d
theorem aAg {i j pos}:PD X B (.Constant (.int i) j pos) (con (.int i)):=PE.of pe_int fun σ H Q ⟨ρ,r,h⟩=>h _ H (Same.refl H) (.int i)
theorem pd_bl {i j pos}:PD X B (.Constant (.bool i) j pos) (con (.bl i)):=PE.of pe_bl fun σ H Q ⟨ρ,r,h⟩=>h _ H (Same.refl H) (.bl i)
theorem aCt {x j pos}:PD X B (.Constant (.str x) j pos) (con (.str x)):=PE.of pe_str fun σ H Q ⟨ρ,r,h⟩=>h _ H (Same.refl H) (.str x)
noncomputable def b2 (g:D→D→M D) (fa fb:Rho→M D):Rho→M D:=fun ρ=>bnd (fa ρ) fun x=>bnd (fb ρ) fun y=>g x y
noncomputable def R2ok (X:Cx) (r:R2) (g:D→D→M D):Prop:= ∀(H:Hp) (x y:V) (dx dy d:D) (Q:VK),Is X.K H dx x→Is X.K H dy y→g dx dy=ok d→(∀v H',Same H H'→Is X.K H' d v→Q v H')→r x y H Q
noncomputable def NoErr {α β:Type} (g:α→β→M D):Prop:= ∀x y c,g x y≠err c
variable {fa fb fc:Rho→M D}
theorem b2_red {r:R2} {g:D→D→M D} (hg:R2ok X r g) (hn:NoErr g) {σ:St} {H:Hp} {Q:VK} (h:tD X B (b2 g fa fb) σ H Q):tOp r (tD X B fa) (tD X B fb) σ H Q:=by
 obtain⟨ρ,r1,h⟩:=h
 refine⟨ρ,r1,(Res.bind h).imp fun dx h1 v H1 e1 i1=>⟨ρ,r1.mono e1,(Res.bind h1).mono e1 fun dy h2 u H2 e2 i2=> ?_⟩⟩
 cases q:g dx dy with
 | none=>rw[q] at h2;exact False.elim h2
 | some z=>
  cases z with
  | error c=>exact absurd q (hn dx dy c)
  | ok d=>
   rw[q] at h2
   exact hg H2 v u dx dy d Q (i1.mono e2) i2 q fun w H3 e3 i3=>h2 w H3 ((e1.trans e2).trans e3) i3
theorem pd_op {op:Operator} {r:R2} {g:D→D→M D} (ho:OpR X (binaryOp op) r) (hg:R2ok X r g) (hn:NoErr g) (ha:PD X B a fa) (hb:PD X B b fb):PD X B (.BinOp a op b pos) (b2 g fa fb):=
 PE.of (pe_op ho ha hb) fun _ _ _ h=>b2_red hg hn h
theorem pd_cmp {op:CmpOp} {r:R2} {g:D→D→M D} (ho:OpR X (compareOp op) r) (hg:R2ok X r g) (hn:NoErr g) (ha:PD X B a fa) (hb:PD X B b fb) (hm:behindInMarks op b=false):PD X B (.Compare a [op] [b] pos) (b2 g fa fb):=
 PE.of (pe_cmpR ho ha hb hm) fun _ _ _ h=>b2_red hg hn h
noncomputable def tru:D→M Bool
 | .non=>ok false
 | .bl b=>ok b
 | .int i=>ok (i !=0)
 | .tup ds=>ok (!ds.isEmpty)
 | .lst ds=>ok (!ds.isEmpty)
 | _=>none
noncomputable def blOf:D→M Bool
 | .bl b=>ok b
 | _=>none
noncomputable def test (f:Rho→M D):Rho→M Bool:=fun ρ=>bnd (f ρ) tru
noncomputable def aAt (f:Rho→M D):Rho→M Bool:=fun ρ=>bnd (f ρ) blOf
theorem aEc {op:CmpOp} {r:R2} {g:D→D→M D} (ho:OpR X (compareOp op) r) (hg:R2ok X r g) (hn:NoErr g) (ha:PD X B a fa) (hb:PD X B b fb) (hm:behindInMarks op b=false):PDT X B (.Compare a [op] [b] pos) (aAt (b2 g fa fb)):=by
 refine PT.of (pt_cmpR ho ha hb hm) fun σ H Q h=> ?_
 obtain⟨ρ,r1,h⟩:=h
 refine b2_red hg hn ⟨ρ,r1,(Res.bind h).imp fun d h1 v H1 e1 i1=> ?_⟩
 unfold blOf at h1
 split at h1
 ·rename_i k
  cases i1
  exact⟨k,rfl,h1 H1 e1⟩
 ·exact False.elim h1
theorem isEmpty_isL {K:PySem.W.Frag} {H:Hp} {ds:List D} {vs:List V} (r:IsL K H ds vs):vs.isEmpty=ds.isEmpty:=by cases r<;>rfl
theorem tru_V {K:PySem.W.Frag} {H:Hp} {d:D} {v:V} {k:Bool} (i:Is K H d v) (h:tru d=ok k):TruV K v H k:=by
 cases i with
 | non=>exact (aC3 h).symm
 | bl b=>exact (aC3 h).symm
 | int i=>exact (aC3 h).symm
 | str x=>exact absurd h (by simp[tru,ok])
 | tup h1 r=>exact .inr (.inl ⟨_,h1,by rw[isEmpty_isL r];exact (aC3 h).symm⟩)
 | lst h1 r=>exact .inl ⟨_,h1,by rw[isEmpty_isL r];exact (aC3 h).symm⟩
 | obj h1 r=>exact absurd h (by simp[tru,ok])
 | dk h1 r=>exact absurd h (by simp[tru,ok])
 | dt h1 r=>exact absurd h (by simp[tru,ok])
 | exc h1=>exact absurd h (by simp[tru,ok])
 | set h1=>exact absurd h (by simp[tru,ok])
theorem tru_noerr (d:D) (c:Addr):tru d≠err c:=by cases d<;>simp[tru,ok,err]
theorem pdt_val (ha:PD X B a fa) (he: ∀whole,isTrue a X.env whole=(do let v←whole;standAt a.pos;holding [v] (truthy v)):=by intro _;rfl):PDT X B a (test fa):=by
 refine PT.of (pt_truth ha he) fun σ H Q h=> ?_
 obtain⟨ρ,r1,h⟩:=h
 refine⟨ρ,r1,(Res.bind h).imp fun d h1 v H1 e1 i1=> ?_⟩
 cases q:tru d with
 | none=>rw[q] at h1;exact False.elim h1
 | some z=>
  cases z with
  | error c=>exact absurd q (tru_noerr d c)
  | ok k=>rw[q] at h1;exact⟨k,tru_V i1 q,h1 H1 e1⟩
variable {ta tb tc:Rho→M Bool} {rest:List Expr}
noncomputable def andB (f g:Rho→M Bool):Rho→M Bool:=fun ρ=>bnd (f ρ) fun x=>if x=true then g ρ else ok false
noncomputable def orB (f g:Rho→M Bool):Rho→M Bool:=fun ρ=>bnd (f ρ) fun x=>if x=true then ok true else g ρ
noncomputable def notB (f:Rho→M Bool):Rho→M Bool:=fun ρ=>bnd (f ρ) fun x=>ok (!x)
theorem pdw_and1 (ha:PDT X B a ta):PDW X B (.BoolOp .And [a] pos) ta:=pw_and1 ha
theorem pdw_or1 (ha:PDT X B a ta):PDW X B (.BoolOp .Or [a] pos) ta:=pw_or1 ha
theorem pdw_and (ha:PDT X B a ta) (hb:PDW X B (.BoolOp .And (b::rest) pos) tb):PDW X B (.BoolOp .And (a::b::rest) pos) (andB ta tb):=by
 refine PW.of (pw_and ha hb) fun σ H Q h=> ?_
 obtain⟨ρ,r1,h⟩:=h
 refine⟨ρ,r1,(Res.bind h).imp fun x h1 H1 e1=> ?_⟩
 cases x with
 | true=>exact⟨ρ,r1.mono e1,Res.mono e1 h1 fun y q H2 e2=>q H2 (e1.trans e2)⟩
 | false=>exact h1 H1 e1
theorem pdw_or (ha:PDT X B a ta) (hb:PDW X B (.BoolOp .Or (b::rest) pos) tb):PDW X B (.BoolOp .Or (a::b::rest) pos) (orB ta tb):=by
 refine PW.of (pw_or ha hb) fun σ H Q h=> ?_
 obtain⟨ρ,r1,h⟩:=h
 refine⟨ρ,r1,(Res.bind h).imp fun x h1 H1 e1=> ?_⟩
 cases x with
 | false=>exact⟨ρ,r1.mono e1,Res.mono e1 h1 fun y q H2 e2=>q H2 (e1.trans e2)⟩
 | true=>exact h1 H1 e1
theorem PDW.pdt {f:Rho→M Bool} (h:PDW X B e f):PDT X B e f:=h.pt
theorem pdt_not (ha:PDT X B a ta):PDT X B (.UnaryOp .Not a pos) (notB ta):=by
 refine PT.of (pt_not ha) fun σ H Q h=> ?_
 obtain⟨ρ,r1,h⟩:=h
 exact⟨ρ,r1,(Res.bind h).imp fun x h1 H1 e1=>h1 H1 e1⟩
noncomputable def andV (f g:Rho→M D):Rho→M D:=fun ρ=>bnd (f ρ) fun x=>bnd (blOf x) fun k=>if k=true then g ρ else ok (.bl false)
theorem blOf_res {σ:St} {H:Hp} {Q:Bool→Prop} {d:D} (h:Res X σ H Q (blOf d)): ∃k,d= .bl k∧Q k:=by
 unfold blOf at h
 split at h
 ·exact⟨_,rfl,h⟩
 ·exact False.elim h
theorem pd_one {op} (h:PD X B a fa):PD X B (.BoolOp op [a] pos) fa:=pe_one h
theorem pd_and (ha:PD X B a fa) (hb:PD X B (.BoolOp .And (b::rest) pos) fb):PD X B (.BoolOp .And (a::b::rest) pos) (andV fa fb):=by
 refine PE.of (pe_and ha hb) fun σ H Q h=> ?_
 obtain⟨ρ,r1,h⟩:=h
 refine⟨ρ,r1,(Res.bind h).imp fun d h1 v H1 e1 i1=> ?_⟩
 obtain⟨k,rfl,h2⟩:=blOf_res (Res.bind h1)
 cases i1
 refine⟨k,rfl,?_⟩
 cases k with
 | true=>exact⟨ρ,r1.mono e1,Res.mono e1 h2 fun y q u H2 e2 i2=>q u H2 (e1.trans e2) i2⟩
 | false=>exact h2 _ H1 e1 (.bl false)
noncomputable def aD0:Expr→Bool
 | .Starred .. =>false
 | _=>true
theorem aBg {e:Expr} {es:List Expr} {env:Env} (h:aD0 e=true):starEach (e::es) env=(false,eval e env)::starEach es env:=by
 cases e<;>first | rfl | cases h
theorem star1 {e:Expr} {env:Env} (h:aD0 e=true):starEach [e] env=[(false,eval e env)]:=aBg h
theorem star2 {e f:Expr} {env:Env} (h:aD0 e=true) (h':aD0 f=true):starEach [e,f] env=[(false,eval e env),(false,eval f env)]:=by rw[aBg h,star1 h']
noncomputable def aAs:Rho→M (List D):=fun _=>ok []
noncomputable def aAe (f:Rho→M D) (g:Rho→M (List D)):Rho→M (List D):=fun ρ=>bnd (f ρ) fun x=>bnd (g ρ) fun xs=>ok (x::xs)
variable {ga:Rho→M (List D)}
theorem aAh:PDA X B [] aAs:=PA.of aD9 fun σ H Q ⟨ρ,r,h⟩=>h [] H (Same.refl H) .nil
theorem aAb (ha:PD X B e fa) (hr:PDA X B es ga) (hs:starEach (e::es) X.env=(false,eval e X.env)::starEach es X.env:=by exact aBg rfl):PDA X B (e::es) (aAe fa ga):=by
 refine PA.of (aCh ha hr hs) fun σ H Q h=> ?_
 obtain⟨ρ,r1,h⟩:=h
 refine⟨ρ,r1,(Res.bind h).imp fun d h1 v H1 e1 i1=>⟨ρ,r1.mono e1,(Res.bind h1).mono e1 fun ds h2 vs H2 e2 i2=> ?_⟩⟩
 exact h2 (v::vs) H2 (e1.trans e2) (.cons (i1.mono e2) i2)
theorem aAw {H:Hp} {p:Addr} (h:H p=none) (o:HO):Same H (upd H p o):=fun b u q=>by rw[aB5 (aEd q h)];exact q
noncomputable def mkT (g:Rho→M (List D)):Rho→M D:=fun ρ=>bnd (g ρ) fun ds=>if ds.length≤1000 then ok (.tup ds) else none
noncomputable def mkL (g:Rho→M (List D)):Rho→M D:=fun ρ=>bnd (g ρ) fun ds=>if ds.length≤1000 then ok (.lst ds) else none
theorem le_line {n:Nat} (h:n≤1000):n≤sizeLine:=Nat.le_of_lt (small1000 h)
theorem aB0 {x1} (h:PDA X B es ga):PD X B (.Tuple es x1 pos) (mkT ga):=by
 refine PE.of (pe_tup h) fun σ H Q h=> ?_
 obtain⟨ρ,r1,h⟩:=h
 refine⟨ρ,r1,(Res.bind h).imp fun ds h1 vs H1 e1 i1=> ?_⟩
 by_cases hl:ds.length≤1000
 ·rw[if_pos hl] at h1
  exact⟨by rw[←i1.length];exact le_line hl,fun p hp=>h1 _ _ (e1.trans (aAw hp _)) (.tup (TQ.of aA6) (i1.mono (aAw hp _)))⟩
 ·rw[if_neg hl] at h1;exact False.elim h1
theorem pd_lst (h:PDA X B es ga):PD X B (.List es pos) (mkL ga):=by
 refine PE.of (pe_lst h) fun σ H Q h=> ?_
 obtain⟨ρ,r1,h⟩:=h
 refine⟨ρ,r1,(Res.bind h).imp fun ds h1 vs H1 e1 i1=> ?_⟩
 by_cases hl:ds.length≤1000
 ·rw[if_pos hl] at h1
  exact⟨by rw[←i1.length];exact le_line hl,fun p hp=>h1 _ _ (e1.trans (aAw hp _)) (.lst (SqL.of aA6) (i1.mono (aAw hp _)))⟩
 ·rw[if_neg hl] at h1;exact False.elim h1
end
noncomputable def gSub:D→D→M D
 | .int i,.int j=>ok (.int (i-j))
 | _,_=>none
noncomputable def mulB (i j:Int):Bool:=decide (Builtin.Int.intBits i≤1048576)&&decide (Builtin.Int.intBits j≤1048576)
noncomputable def gMul:D→D→M D
 | .int i,.int j=>if mulB i j=true then ok (.int (i*j)) else none
 | _,_=>none
noncomputable def aCo:D→D→M D
 | .int i,.int j=>if 0<j∧j<1073741824 then ok (.int (i/j)) else none
 | _,_=>none
noncomputable def aCf:D→D→M D
 | .int i,.int j=>if 0<j then ok (.int (i%j)) else none
 | _,_=>none
noncomputable def gPow:D→D→M D
 | .int i,.int j=>if 0≤j∧j≤1000∧i.natAbs<1000 then ok (.int (i^j.toNat)) else none
 | _,_=>none
section
variable {X:Cx} {B:Hp} {a b:Expr} {fa fb:Rho→M D} {pos:Pos}
theorem mulB_ok {i j:Int} (h:mulB i j=true):IntMulOk i j:=by
 unfold mulB at h
 rw[Bool.and_eq_true] at h
 exact IntMulOk.of_bits (of_decide_eq_true h.1) (of_decide_eq_true h.2)
theorem op_mulB:OpR X (binaryOp .Mult) (rI (fun i j=>mulB i j=true) fun i j=> .int (i*j)):=opI fun _ _ _ _ _ _ _ hc q=>mul_int q (mulB_ok hc)
theorem r_int0 {h:Int→Int→Int} {g:D→D→M D} (hg: ∀dx dy d,g dx dy=ok d→∃i j,dx= .int i∧dy= .int j∧d= .int (h i j)):R2ok X (rI0 fun i j=> .int (h i j)) g:=by
 intro H x y dx dy d Q ix iy e q
 obtain⟨i,j,rfl,rfl,rfl⟩:=hg _ _ _ e
 cases ix;cases iy
 exact⟨i,j,rfl,rfl,q _ H (Same.refl H) (.int _)⟩
theorem r_int {C:Int→Int→Prop} {h:Int→Int→Int} {g:D→D→M D} (hg: ∀dx dy d,g dx dy=ok d→∃i j,dx= .int i∧dy= .int j∧C i j∧d= .int (h i j)):R2ok X (rI C fun i j=> .int (h i j)) g:=by
 intro H x y dx dy d Q ix iy e q
 obtain⟨i,j,rfl,rfl,c,rfl⟩:=hg _ _ _ e
 cases ix;cases iy
 exact⟨i,j,rfl,rfl,c,q _ H (Same.refl H) (.int _)⟩
theorem pd_sub (ha:PD X B a fa) (hb:PD X B b fb):PD X B (.BinOp a .Sub b pos) (b2 gSub fa fb):=
 pd_op op_sub (r_int0 fun dx dy d e=>by
  unfold gSub at e
  split at e<;>first |(cases e;done) | exact⟨_,_,rfl,rfl,(aC3 e).symm⟩) (by intro x y c h;unfold gSub at h;(repeat' split at h)<;>cases h) ha hb
theorem aDz (ha:PD X B a fa) (hb:PD X B b fb):PD X B (.BinOp a .FloorDiv b pos) (b2 aCo fa fb):=
 pd_op op_fdiv (r_int fun dx dy d e=>by
  unfold aCo at e
  split at e<;>first |(cases e;done) | skip
  split at e
  ·rename_i h;exact⟨_,_,rfl,rfl,h,(aC3 e).symm⟩
  ·exact nomatch e) (by intro x y c h;unfold aCo at h;(repeat' split at h)<;>cases h) ha hb
theorem aBq (ha:PD X B a fa) (hb:PD X B b fb):PD X B (.BinOp a .Mod b pos) (b2 aCf fa fb):=
 pd_op op_mod (r_int fun dx dy d e=>by
  unfold aCf at e
  split at e<;>first |(cases e;done) | skip
  split at e
  ·rename_i h;exact⟨_,_,rfl,rfl,h,(aC3 e).symm⟩
  ·exact nomatch e) (by intro x y c h;unfold aCf at h;(repeat' split at h)<;>cases h) ha hb
theorem pd_pow (ha:PD X B a fa) (hb:PD X B b fb):PD X B (.BinOp a .Pow b pos) (b2 gPow fa fb):=
 pd_op op_pow (r_int fun dx dy d e=>by
  unfold gPow at e
  split at e<;>first |(cases e;done) | skip
  split at e
  ·rename_i h;exact⟨_,_,rfl,rfl,⟨h.1,by omega,by have:=h.2.2;omega⟩,(aC3 e).symm⟩
  ·exact nomatch e) (by intro x y c h;unfold gPow at h;(repeat' split at h)<;>cases h) ha hb
noncomputable def gLt:D→D→M D
 | .int i,.int j=>ok (.bl (decide (i<j)))
 | _,_=>none
noncomputable def gGt:D→D→M D
 | .int i,.int j=>ok (.bl (decide (j<i)))
 | _,_=>none
noncomputable def eqF:D→D→Option Bool
 | .non,.non=>some true
 | .non,.int _=>some false
 | .int _,.non=>some false
 | .non,.bl _=>some false
 | .bl _,.non=>some false
 | .non,.str _=>some false
 | .str _,.non=>some false
 | .int i,.int j=>some (decide (i=j))
 | .bl i,.bl j=>some (decide (i=j))
 | .str i,.str j=>some (decide (i=j))
 | .int _,.str _=>some false
 | .str _,.int _=>some false
 | .bl _,.str _=>some false
 | .str _,.bl _=>some false
 | _,_=>none
noncomputable def gEq (x y:D):M D:=match eqF x y with
 | some b=>ok (.bl b)
 | none=>none
noncomputable def gNe (x y:D):M D:=match eqF x y with
 | some b=>ok (.bl (!b))
 | none=>none
theorem r_intB {h:Int→Int→Bool} {g:D→D→M D} (hg: ∀dx dy d,g dx dy=ok d→∃i j,dx= .int i∧dy= .int j∧d= .bl (h i j)):R2ok X (rI0 fun i j=> .bl (h i j)) g:=by
 intro H x y dx dy d Q ix iy e q
 obtain⟨i,j,rfl,rfl,rfl⟩:=hg _ _ _ e
 cases ix;cases iy
 exact⟨i,j,rfl,rfl,q _ H (Same.refl H) (.bl _)⟩
theorem r_lt:R2ok X (rI0 fun i j=> .bl (decide (i<j))) gLt:=r_intB fun dx dy d e=>by
  unfold gLt at e
  split at e<;>first |(cases e;done) | exact⟨_,_,rfl,rfl,(aC3 e).symm⟩
theorem r_gt:R2ok X (rI0 fun i j=> .bl (decide (j<i))) gGt:=r_intB fun dx dy d e=>by
  unfold gGt at e
  split at e<;>first |(cases e;done) | exact⟨_,_,rfl,rfl,(aC3 e).symm⟩
theorem n_lt:NoErr gLt:=by intro x y c h;unfold gLt at h;split at h<;>cases h
theorem n_gt:NoErr gGt:=by intro x y c h;unfold gGt at h;split at h<;>cases h
theorem n_eq:NoErr gEq:=by intro x y c h;unfold gEq at h;split at h<;>exact nomatch h
theorem n_ne:NoErr gNe:=by intro x y c h;unfold gNe at h;split at h<;>exact nomatch h
theorem eqF_V {K:PySem.W.Frag} {H:Hp} {dx dy:D} {x y:V} {b:Bool} (ix:Is K H dx x) (iy:Is K H dy y) (e:eqF dx dy=some b):scal x y=true∧decide (x=y)=b:=by
 cases ix with
 | non=>cases iy<;>first |(cases e;done) |(have e':=Option.some.inj e;subst e';exact⟨rfl,by simp⟩)
 | bl=>cases iy<;>first |(cases e;done) |(have e':=Option.some.inj e;subst e';exact⟨rfl,by simp⟩)
 | int=>cases iy<;>first |(cases e;done) |(have e':=Option.some.inj e;subst e';exact⟨rfl,by simp⟩)
 | str=>cases iy<;>first |(cases e;done) |(have e':=Option.some.inj e;subst e';exact⟨rfl,by simp⟩)
 | _=>exact nomatch e
theorem r_eq:R2ok X rEq gEq:=by
 intro H x y dx dy d Q ix iy e q
 unfold gEq at e
 split at e
 ·rename_i b hb
  obtain⟨h1,h2⟩:=eqF_V ix iy hb
  have e':=aC3 e;subst e'
  exact⟨h1,by rw[h2];exact q _ H (Same.refl H) (.bl _)⟩
 ·exact nomatch e
theorem r_ne:R2ok X rNe gNe:=by
 intro H x y dx dy d Q ix iy e q
 unfold gNe at e
 split at e
 ·rename_i b hb
  obtain⟨h1,h2⟩:=eqF_V ix iy hb
  have e':=aC3 e;subst e'
  exact⟨h1,by rw[h2];exact q _ H (Same.refl H) (.bl _)⟩
 ·exact nomatch e
theorem pd_gt (ha:PD X B a fa) (hb:PD X B b fb):PD X B (.Compare a [.Gt] [b] pos) (b2 gGt fa fb):=pd_cmp op_gt r_gt n_gt ha hb (nomark _)
theorem pd_eq (ha:PD X B a fa) (hb:PD X B b fb):PD X B (.Compare a [.Eq] [b] pos) (b2 gEq fa fb):=pd_cmp op_eq r_eq n_eq ha hb (nomark _)
theorem pdt_lt (ha:PD X B a fa) (hb:PD X B b fb):PDT X B (.Compare a [.Lt] [b] pos) (aAt (b2 gLt fa fb)):=aEc op_lt r_lt n_lt ha hb (nomark _)
theorem pdt_gt (ha:PD X B a fa) (hb:PD X B b fb):PDT X B (.Compare a [.Gt] [b] pos) (aAt (b2 gGt fa fb)):=aEc op_gt r_gt n_gt ha hb (nomark _)
theorem pdt_eq (ha:PD X B a fa) (hb:PD X B b fb):PDT X B (.Compare a [.Eq] [b] pos) (aAt (b2 gEq fa fb)):=aEc op_eq r_eq n_eq ha hb (nomark _)
theorem pdt_ne (ha:PD X B a fa) (hb:PD X B b fb):PDT X B (.Compare a [.NotEq] [b] pos) (aAt (b2 gNe fa fb)):=aEc op_ne r_ne n_ne ha hb (nomark _)
noncomputable def gIx:D→D→M D
 | .lst ds,.int i=>match atI ds i with | some d=>ok d | none=>none
 | .tup ds,.int i=>match atI ds i with | some d=>ok d | none=>none
 | .str z,.int i=>if z.length≤1000 then (match atI z.cps.toList i with | some c=>ok (.str ⟨#[c]⟩) | none=>none) else none
 | _,_=>none
theorem n_ix:NoErr gIx:=by intro x y c h;unfold gIx at h;(repeat' split at h)<;>cases h
theorem atI_isL {K:PySem.W.Frag} {H:Hp} {ds:List D} {vs:List V} {i:Int} {d:D} (r:IsL K H ds vs) (e:atI ds i=some d): ∃v,atI vs i=some v∧Is K H d v:=by
 unfold atI at e⊢
 rw[r.length] at e
 cases q:ixN vs.length i with
 | none=>rw[q] at e;exact nomatch e
 | some j=>rw[q] at e;exact r.get e
theorem r_ix:R2ok X (rIx X.K) gIx:=by
 intro H x y dx dy d Q ix iy e q
 unfold gIx at e
 split at e
 ·split at e
  ·rename_i d' hd
   cases ix with
   | lst h r=>
    cases iy
    have e':=aC3 e;subst e'
    obtain⟨v,h1,h2⟩:=atI_isL r hd
    exact .inl ⟨_,_,_,v,rfl,rfl,h,h1,q _ H (Same.refl H) h2⟩
  ·cases e
 ·split at e
  ·rename_i d' hd
   cases ix with
   | tup h r=>
    cases iy
    have e':=aC3 e;subst e'
    obtain⟨v,h1,h2⟩:=atI_isL r hd
    exact .inr (.inl ⟨_,_,_,v,rfl,rfl,h,h1,q _ H (Same.refl H) h2⟩)
  ·cases e
 ·split at e
  ·rename_i hz
   split at e
   ·rename_i c hc
    cases ix;cases iy
    have e':=aC3 e;subst e'
    exact .inr (.inr ⟨_,_,c,rfl,rfl,Nat.le_trans hz (by decide),hc,q _ H (Same.refl H) (.str _)⟩)
   ·cases e
  ·cases e
 ·cases e
theorem aBa (ha:PD X B a fa) (hb:PD X B b fb) (hs:PlainIx b):PD X B (.Subscript a b pos) (b2 gIx fa fb):=PE.of (pe_ix ix_seq ha hb hs) fun _ _ _ h=>b2_red r_ix n_ix h
noncomputable def aBk (f:Rho→M D):Rho→M (Option Int):=fun ρ=>bnd (f ρ) fun d=>match d with | .int i=>ok (some i) | _=>none
noncomputable def aBu:Rho→M (Option Int):=fun _=>ok none
noncomputable def tDO (X:Cx) (B:Hp) (f:Rho→M (Option Int)):TO:=fun σ H Q=> ∃ρ,Rel X.K B ρ σ H∧Res X σ H (fun o=> ∀H',Same H H'→Q o H') (f ρ)
theorem aBo:PO X none (tDO X B aBu):=fun pins s σ H Q I ⟨ρ,r,h⟩=>po_none pins s σ H Q I (h H (Same.refl H))
theorem aBe {e:Expr} (he:PD X B e fa):PO X (some e) (tDO X B (aBk fa)):=fun pins s σ H Q I ⟨ρ,r,h⟩=>by
 refine po_some he pins s σ H Q I ⟨ρ,r,(Res.bind h).imp fun d h1 v H1 e1 i1=> ?_⟩
 cases i1<;>first | exact False.elim h1 | exact⟨_,rfl,h1 H1 e1⟩
noncomputable def cutD (xs:List D) (lo hi:Option Int):List D:=(xs.drop (HT.sIx xs.length 0 lo)).take (HT.sIx xs.length xs.length hi-HT.sIx xs.length 0 lo)
noncomputable def strCut (z:Str) (lo hi:Option Int):Str:=⟨((z.cps.toList.drop (HT.sIx z.length 0 lo)).take (HT.sIx z.length z.length hi-HT.sIx z.length 0 lo)).toArray⟩
theorem cut_whole {α:Type} (xs:List α) {i j:Nat} (h:i=0) (h':j=xs.length):(xs.drop i).take (j-i)=xs:=by
 subst h h'
 rw[List.drop_zero,Nat.sub_zero,List.take_length]
section
variable {prog:Program} {w:World} {A:Around} {E:Value→Shared→Prop} {s:Shared}
theorem getItem_tuple_whole {t sl:Addr} {items:Array Value} {vl vu:Value} {lo hi:Option Int} {Q:Value→Shared→Prop} (ht:IsTup s.heap t items) (hs:s.heap.IsSliceOf sl vl vu .none) (pl:IsPart vl lo) (pu:IsPart vu hi)
  (hw:HT.sIx items.size 0 lo=0∧HT.sIx items.size items.size hi=items.size) (h:Q (.ref t) s):wpAny (model prog w) A (getItem (.ref t) (.ref sl)) Q E s:=by
 obtain⟨os,hos,hcs,hds⟩:=id hs
 have hTs:s.TypeIs (.ref sl) "slice":=⟨os,hos,hcs⟩
 unfold getItem
 try with_reducible refine wpAny_holding ?_
 first | refine wpAny_bind (wpAny_pure ?_) | skip
 refine wpAny_bind (wpAny_sequenceKey ht.typeIs (by decide) ?_)
 refine wpAny_bind (wpAny_callSpecial?_slot (name:=Str.ofString "__getitem__") ht.typeIs PyProof.Rows.slot_tuple_getitem
  (wpAny_call_entry PyProof.Rows.slot_tuple_getitem ht.typeIs entry_tuple_getitem ?_ (args_tuple_getitem _ _)))
 show wpAny _ _ (Builtin.Tuple.tupleItemsOf (.ref t)>>=_) _ _ s
 refine wpAny_bind (tupleItemsOf_ ht ?_)
 refine wpAny_bind (wpAny_typeOf hTs ?_)
 rw[if_pos (by decide)]
 refine wpAny_bind (HT.sliceApplied_gen hs pl pu ?_)
 show wpAny _ _ (if (((HT.sIx items.size 0 lo:Nat):Int)==0&&(1:Int)==1&&(HT.sIx items.size items.size hi-HT.sIx items.size 0 lo)==items.size)=true then _ else _) _ _ s
 rw[if_pos (by rw[hw.1,hw.2];simp)]
 refine wpAny_bind (m:=Builtin.Tuple.tupleIsExact _) (wpAny_bind (m:=typeOf _) (wpAny_typeOf ht.typeIs (wpAny_pure ?_)))
 rw[if_pos (by decide)]
 exact wpAny_bind (wpAny_rule (wpAny_bind (wpAny_pure (wpAny_pure ⟨_,rfl,wpAny_pure h⟩))))
theorem strPicked_cut (z:Str) (l u:Option (Int×Tok)):slicePicked z l u none=(List.range (HT.sIx z.length z.length (u.map (·.1))-HT.sIx z.length 0 (l.map (·.1)))).map (HT.sIx z.length 0 (l.map (·.1))+ ·):=by
 have cl: ∀(i:Int) (d:Nat),max 0 (min (if i<0 then i+(z.length:Int) else i) (z.length:Int))=((HT.sIx z.length d (some i):Nat):Int):=by
  intro i d
  show _=(((if i<0 then (i+(z.length:Int)).toNat else min i.toNat z.length):Nat):Int)
  by_cases hv:i<0
  ·simp only[if_pos hv];omega
  ·simp only[if_neg hv];omega
 have e:slicePicked z l u none=sliceRange ((HT.sIx z.length 0 (l.map (·.1)):Nat):Int) ((HT.sIx z.length z.length (u.map (·.1)):Nat):Int) 1:=by
  unfold slicePicked Builtin.Str.strSliceIndices
  simp only[Option.map_none,Option.getD_none,show (1:Int)>0 by decide,if_true]
  congr 1
  ·cases l with
   | none=>rfl
   | some i=>exact cl i.1 0
  ·cases u with
   | none=>rfl
   | some i=>exact cl i.1 z.length
 rw[e,sliceRange_one]
end
section
variable {X:Cx}
noncomputable def rSlW (K:PySem.W.Frag):V→Option Int→Option Int→Hp→VK→Prop:=fun x lo hi H Q=> ∃a xs,x= .ref a∧SqT K H a xs∧(HT.sIx xs.length 0 lo=0∧HT.sIx xs.length xs.length hi=xs.length)∧Q (.ref a) H
theorem sl_tupW:SlR X (rSlW X.K):=by
 intro pins s σ H x v vl vu lo hi sl Q I rx hs pl pu h
 obtain⟨a,xs,rfl,hx,hw,q⟩:=h
 cases rx
 obtain⟨its,r,ht,hz⟩:=I.tuple hx
 have hlen:its.toArray.size=xs.length:=by rw[List.size_toArray];exact r.length.symm
 exact⟨"tuple",_,PyProof.Rows.slot_tuple_getitem.lookup,ht.typeIs,getItem_tuple_whole ht hs pl pu (by rw[hlen];exact hw) ⟨.ref a,H,I,rfl,q⟩⟩
noncomputable def rSlS:V→Option Int→Option Int→Hp→VK→Prop:=fun x lo hi H Q=> ∃z,x= .str z∧z.length≤sizeLine∧Q (.str (strCut z lo hi)) H
theorem part_of {v:Value} {o:Option Int} (p:IsPart v o): ∃l:Option (Int×Tok),v=partValue l∧l.map (·.1)=o:=by
 cases p with
 | none=>exact⟨none,rfl,rfl⟩
 | int i t=>exact⟨some (i,t),rfl,rfl⟩
theorem sl_str:SlR X rSlS:=by
 intro pins s σ H x v vl vu lo hi sl Q I rx hs pl pu h
 obtain⟨z,rfl,hz,q⟩:=h
 obtain⟨t,rfl⟩:=rx
 obtain⟨l,rfl,rfl⟩:=part_of pl
 obtain⟨u,rfl,rfl⟩:=part_of pu
 refine⟨"str",_,slot_str_getitem.lookup,typeIs_str s z t,?_⟩
 refine wpAny_getItem_str_slice (l:=l) (u:=u) (st:=none) hs rfl ?_
 have hp:=strPicked_cut z l u
 have hj:HT.sIx z.length z.length (u.map (·.1))≤z.length:=HT.sIx_le _ _ (Nat.le_refl _) _
 have hi0:HT.sIx z.length 0 (l.map (·.1))≤z.length:=HT.sIx_le _ 0 (Nat.zero_le _) _
 have hc:z.cps.toList.length=z.length:=by simp[Str.length]
 unfold sliceMade
 rw[hp]
 split
 ·rename_i hh
  simp only[Option.map_none,Option.getD_none,List.length_map,List.length_range,Bool.and_eq_true,beq_iff_eq] at hh
  have e:strCut z (l.map (·.1)) (u.map (·.1))=z:=by
   unfold strCut
   rw[cut_whole _ (by omega) (by omega)]
  exact⟨.str z,H,I,⟨t,rfl⟩,by rw[e] at q;exact q⟩
 ·rw[pick_run]
  refine⟨?_,⟨.str (strCut z (l.map (·.1)) (u.map (·.1))),H,I.tok _,⟨_,rfl⟩,q⟩⟩
  show ((z.cps.toList.drop (HT.sIx z.length 0 (l.map (·.1)))).take _).toArray.size≤sizeLine
  rw[List.size_toArray,List.length_take,List.length_drop,hc]
  omega
end
noncomputable def gCut:D→Option Int→Option Int→M D
 | .lst ds,lo,hi=>ok (.lst (cutD ds lo hi))
 | .tup ds,lo,hi=>ok (.tup (cutD ds lo hi))
 | .str z,lo,hi=>if z.length≤1000 then ok (.str (strCut z lo hi)) else none
 | _,_,_=>none
noncomputable def aEg (fa:Rho→M D) (fl fh:Rho→M (Option Int)):Rho→M D:=fun ρ=>bnd (fa ρ) fun x=>bnd (fl ρ) fun l=>bnd (fh ρ) fun h=>gCut x l h
theorem isL_cut {K:PySem.W.Frag} {H:Hp} {ds:List D} {vs:List V} (r:IsL K H ds vs) (lo hi:Option Int):IsL K H (cutD ds lo hi) (cutV vs lo hi):=by
 unfold cutD cutV
 rw[r.length]
 exact (r.drop _).take _
theorem aBh {e:Expr} {lo hi:Option Expr} {fl fh:Rho→M (Option Int)} {p2:Pos} (he:PD X B e fa) (hl:PO X lo (tDO X B fl)) (hu:PO X hi (tDO X B fh)):PD X B (.Subscript e (.Slice lo hi none p2) pos) (aEg fa fl fh):=by
 refine PE.of (pe_slice (SlR.or sl_list (SlR.or sl_tup (SlR.or sl_tupW sl_str))) he hl hu) fun σ H Q h=> ?_
 obtain⟨ρ,r1,h⟩:=h
 refine⟨ρ,r1,(Res.bind h).imp fun d h1 v H1 e1 i1=>⟨ρ,r1.mono e1,(Res.bind h1).mono e1 fun l h2 H2 e2=>⟨ρ,(r1.mono e1).mono e2,(Res.bind h2).mono (e1.trans e2) fun u h3 H3 e3=> ?_⟩⟩⟩
 have i3:=(i1.mono e2).mono e3
 cases i3 with
 | lst hh r=>exact .inl ⟨_,_,rfl,hh,fun p hp=>h3 _ _ (((e1.trans e2).trans e3).trans (aAw hp _)) (.lst (SqL.of aA6) ((isL_cut r l u).mono (aAw hp _)))⟩
 | tup hh r=>
  rename_i a' ds' vs'
  have hlen:=r.length
  by_cases hn:HT.sIx vs'.length 0 l=0∧HT.sIx vs'.length vs'.length u=vs'.length
  ·have e:cutD ds' l u=ds':=by
    unfold cutD
    rw[hlen]
    exact cut_whole _ hn.1 (by rw[hn.2,hlen])
   refine .inr (.inr (.inl ⟨_,_,rfl,hh,hn,?_⟩))
   have h4:=h3 _ _ ((e1.trans e2).trans e3) (show Is X.K H3 (.tup (cutD ds' l u)) (.ref a') by rw[e];exact .tup hh r)
   exact h4
  ·exact .inr (.inl ⟨_,_,rfl,hh,hn,fun p hp=>h3 _ _ (((e1.trans e2).trans e3).trans (aAw hp _)) (.tup (TQ.of aA6) ((isL_cut r l u).mono (aAw hp _)))⟩)
 | str z=>
  dsimp only[gCut] at h3
  split at h3
  ·rename_i hz
   exact .inr (.inr (.inr ⟨_,rfl,Nat.le_trans hz (by decide),h3 _ _ ((e1.trans e2).trans e3) (.str _)⟩))
  ·exact False.elim h3
 | _=>exact False.elim h3
end
noncomputable def tyN:D→Option String
 | .non=>some "NoneType"
 | .bl _=>some "bool"
 | .int _=>some "int"
 | .str _=>some "str"
 | .tup _=>some "tuple"
 | .lst _=>some "list"
 | .obj _ _=>none
 | .dk _=>some "dict"
 | .dt _=>some "dict"
 | .exc _=>none
 | .set _=>none
noncomputable def isB (t T:String):Bool:=t==T ||(t=="bool"&&T=="int")
noncomputable def kTys:List String:=["tuple","list","bool","str","int","dict"]
theorem kit_tab (K:PySem.W.Frag) {d:D} {t T:String} (ht:tyN d=some t) (hT:T∈kTys):PySem.W.kitOne K (.type t) (.type T)=some (isB t T):=by
 unfold kTys at hT
 simp only[List.mem_cons,List.not_mem_nil,or_false] at hT
 cases d<;>(have e:=ht;unfold tyN at e;first |(cases e;done) | skip)<;>(have e':=Option.some.inj e;subst e')<;>rcases hT with rfl | rfl | rfl | rfl | rfl | rfl<;>kernel_rfl
section
variable {X:Cx} {B:Hp} {pins:List (Addr×Obj)} {σ:St} {H:Hp} {s:Shared}
theorem kit_of {d:D} {x:V} {u:Value} {t:String} (I:Inv X pins σ H s) (i:Is X.K H d x) (r:RelV x u) (ht:tyN d=some t):
  ∃HH:Heap→Prop,PySem.W.KitX X.K u (.type t) HH∧HH s.heap∧u≠ .builtin "__main__.__loader__#opaque":=by
 cases i with
 | non=>cases r;cases ht;exact⟨_,PySem.W.kitx_none,True.intro,fun z=>nomatch z⟩
 | bl b=>cases r;cases ht;exact⟨_,PySem.W.kitx_bool,True.intro,fun z=>nomatch z⟩
 | int b=>obtain⟨t,rfl⟩:=r;cases ht;exact⟨_,PySem.W.kitx_int,True.intro,fun z=>nomatch z⟩
 | str b=>obtain⟨t,rfl⟩:=r;cases ht;exact⟨_,PySem.W.kitx_str,True.intro,fun z=>nomatch z⟩
 | lst h rr=>
  cases r;cases ht
  obtain⟨its,_,⟨o,n,e,hc,_,_⟩,_⟩:=I.list h
  exact⟨_,PySem.W.kitx_list,⟨o,e,hc⟩,fun z=>nomatch z⟩
 | tup h rr=>
  cases r;cases ht
  obtain⟨its,_,⟨o,e,hc,_,_⟩,_⟩:=I.tuple h.sq
  exact⟨_,PySem.W.kitx_tuple,⟨o,e,hc⟩,fun z=>nomatch z⟩
 | obj h rr=>cases ht
 | dk h rr=>
  cases r;cases ht
  obtain⟨_,_,vs,_,o,es,ep,e1,e2,_⟩:=(show aDs X.prog X.w H s.heap _ (.dK _) from I.hok _ _ h)
  exact⟨_,PySem.W.kitx_dict,⟨o,e1,e2.1⟩,fun z=>nomatch z⟩
 | dt h rr=>
  cases r;cases ht
  obtain⟨_,_,vs,_,o,es,ep,e1,e2,_⟩:=(show aDs X.prog X.w H s.heap _ (.dT _) from I.hok _ _ h)
  exact⟨_,PySem.W.kitx_dict,⟨o,e1,e2.1⟩,fun z=>nomatch z⟩
 | exc h=>cases ht
 | set h=>cases ht
end
section
variable {X:Cx} {B:Hp} {e:Expr} {fa:Rho→M D} {pos p p2:Pos}
noncomputable def isi (T:String) (f:Rho→M D):Rho→M D:=fun ρ=>bnd (f ρ) fun d=>match tyN d with | some t=>ok (.bl (isB t T)) | none=>none
theorem pd_isi {x:Str} {T:String} (hg:Gl X "isinstance") (hm:X.mg "isinstance"=none) (hg2:Gl X x) (hm2:X.mg x=none) (hv:bootBuiltins x=some (.type T)) (hT:T∈kTys) (ha:PD X B e fa) (hn:x≠"__name__":=by decide) (hd:(x==("__debug__":Str))=false:=by decide)
  (he:starEach [e,.Name x p2] X.env=[(false,eval e X.env),(false,eval (.Name x p2) X.env)]:=by exact star2 rfl rfl) (he2:starEach [.Name x p2] X.env=[(false,eval (.Name x p2) X.env)]:=by exact star1 rfl):PD X B (.Call (.Name "isinstance" p) [e,.Name x p2] [] pos) (isi T fa):=by
 have hc:CallR X (.builtin "isinstance") (fun xs H Q=> ∃d y t,xs=[y,.ty T]∧Is X.K H d y∧tyN d=some t∧Q (.bl (isB t T)) H):=by
  intro pins s σ H xs us Q I r h
  obtain⟨d,y,t,rfl,i,ht,q⟩:=h
  obtain⟨u,w',rfl,r1,r2⟩:=vals2 r
  cases r2
  obtain⟨HH,k1,k2,k3⟩:=kit_of I i r1 ht
  exact PySem.W.kia_one k1 I.kIn k2 (kit_tab X.K ht hT) k3 fun tk=>⟨.bl _,H,I.tok _,rfl,q⟩
 refine PE.of (pe_callB hc hg hm boot_isinstance (aCh ha (aCh (pe_bltn hg2 hm2 hv (v:=V.ty T) rfl hn hd) aD9 he2) (by rw[he,he2])) (he:=by rw[he,he2]) (hpl:=by rw[he2];rfl)) fun σ H Q h=> ?_
 obtain⟨ρ,r1,h⟩:=h
 refine⟨ρ,r1,(Res.bind h).imp fun d h1 v H1 e1 i1=> ?_⟩
 cases q:tyN d with
 | none=>rw[q] at h1;exact False.elim h1
 | some t=>rw[q] at h1;exact⟨d,v,t,rfl,i1,q,h1 _ H1 e1 (.bl _)⟩
noncomputable def aEa:D→M D
 | .tup ds=>ok (.int ds.length)
 | .lst ds=>ok (.int ds.length)
 | _=>none
noncomputable def f1 (g:D→M D) (f:Rho→M D):Rho→M D:=fun ρ=>bnd (f ρ) g
theorem aC2 (hg:Gl X "len") (hm:X.mg "len"=none) (ha:PD X B e fa) (he:starEach [e] X.env=[(false,eval e X.env)]:=by exact star1 rfl):PD X B (.Call (.Name "len" p) [e] [] pos) (f1 aEa fa):=by
 refine PE.of (pe_callB call_len_seq hg hm PySem.boot_len (aCh ha aD9 he) (he:=by rw[he];rfl) (hpl:=by rfl)) fun σ H Q h=> ?_
 obtain⟨ρ,r1,h⟩:=h
 refine⟨ρ,r1,(Res.bind h).imp fun d h1 v H1 e1 i1=> ?_⟩
 cases i1 with
 | lst hh r=>exact⟨_,_,rfl,.inl hh,by rw[←r.length];exact h1 _ H1 e1 (.int _)⟩
 | tup hh r=>exact⟨_,_,rfl,.inr hh,by rw[←r.length];exact h1 _ H1 e1 (.int _)⟩
 | _=>exact False.elim h1
noncomputable def gMin:D→D→M D
 | .int i,.int j=>ok (.int (if j<i then j else i))
 | _,_=>none
theorem pd_min2 {a b:Expr} {fb:Rho→M D} (hcm:X.calm=true) (hg:Gl X "min") (hm:X.mg "min"=none) (ha:PD X B a fa) (hb:PD X B b fb) (he:starEach [a,b] X.env=[(false,eval a X.env),(false,eval b X.env)]:=by exact star2 rfl rfl) (he2:starEach [b] X.env=[(false,eval b X.env)]:=by exact star1 rfl):
  PD X B (.Call (.Name "min" p) [a,b] [] pos) (b2 gMin fa fb):=by
 refine PE.of (pe_callB (call_min2 hcm) hg hm boot_min (aCh ha (aCh hb aD9 he2) (by rw[he,he2])) (he:=by rw[he,he2]) (hpl:=by rw[he2];rfl)) fun σ H Q h=> ?_
 obtain⟨ρ,r1,h⟩:=h
 refine⟨ρ,r1,(Res.bind h).imp fun d h1 v H1 e1 i1=>⟨ρ,r1.mono e1,(Res.bind h1).mono e1 fun d2 h2 v2 H2 e2 i2=> ?_⟩⟩
 cases i1<;>first | exact False.elim h2 | skip
 cases i2<;>first | exact False.elim h2 | skip
 exact⟨_,_,rfl,h2 _ H2 (e1.trans e2) (.int _)⟩
end
inductive Out where
 | nx (ρ:Rho) | rt (d:D) | bk (ρ:Rho) | ct (ρ:Rho) | ex (c:Addr) (ρ:Rho)
noncomputable def Good (X:Cx) (B:Hp) (E:Ends):Out→Prop
 | .nx ρ=> ∀σ H,Rel X.K B ρ σ H→E.nx σ H
 | .rt d=> ∀v H,Same B H→Is X.K H d v→E.rt v H
 | .bk ρ=> ∀σ H,Rel X.K B ρ σ H→E.bk σ H
 | .ct ρ=> ∀σ H,Rel X.K B ρ σ H→E.ct σ H
 | .ex c ρ=> ∀(pins:List (Addr×Obj)) (s:Shared) (σ:St) (H:Hp) (e:Value),Rel X.K B ρ σ H→Exc X pins σ H c e s→X.xe e s
noncomputable def GoodO (X:Cx) (B:Hp) (E:Ends):Option Out→Prop
 | none=>False
 | some o=>Good X B E o
noncomputable def tDS (X:Cx) (B:Hp) (F:Rho→Option Out):TS:=fun E σ H=> ∃ρ,Rel X.K B ρ σ H∧GoodO X B E (F ρ)
noncomputable abbrev PDS (X:Cx) (B:Hp) (st:Stmt) (F:Rho→Option Out):Prop:=PS X st (tDS X B F)
noncomputable abbrev PDB (X:Cx) (B:Hp) (st:List Stmt) (F:Rho→Option Out):Prop:=PSs X st (tDS X B F)
noncomputable def lft {α:Type} (m:M α) (ρ:Rho) (k:α→Option Out):Option Out:=match m with
 | none=>none
 | some (.error c)=>some (.ex c ρ)
 | some (.ok a)=>k a
@[simp] theorem lft_ok {α:Type} (a:α) (ρ:Rho) (k:α→Option Out):lft (ok a) ρ k=k a:=rfl
@[simp] theorem lft_err {α:Type} (c:Addr) (ρ:Rho) (k:α→Option Out):lft (err c:M α) ρ k=some (.ex c ρ):=rfl
theorem lft_red {α:Type} {X:Cx} {B:Hp} {E:Ends} {σ:St} {H:Hp} {ρ:Rho} {m:M α} {k:α→Option Out} (r:Rel X.K B ρ σ H) (h:GoodO X B E (lft m ρ k)):Res X σ H (fun a=>GoodO X B E (k a)) m:=by
 unfold lft at h
 split at h
 ·exact h
 ·exact fun pins s H' e q x=>h pins s σ H' e (r.mono q) x
 ·exact h
section
variable {X:Cx} {B:Hp} {e c:Expr} {fa:Rho→M D} {tc:Rho→M Bool} {pos pos':Pos} {st:Stmt} {sts rest:List Stmt} {F G:Rho→Option Out}
theorem PS.of {t t':TS} (h:PS X st t) (i: ∀E σ H,t' E σ H→t E σ H):PS X st t':=fun pins s σ H E I q=>h pins s σ H E I (i E σ H q)
theorem PSs.of {t t':TS} (h:PSs X sts t) (i: ∀E σ H,t' E σ H→t E σ H):PSs X sts t':=fun pins s σ H E I q=>h pins s σ H E I (i E σ H q)
noncomputable def aBd:Rho→Option Out:=fun ρ=>some (.nx ρ)
noncomputable def aAm (F G:Rho→Option Out):Rho→Option Out:=fun ρ=>match F ρ with
 | some (.nx ρ')=>G ρ'
 | o=>o
theorem aAj:PDB X B [] aBd:=PSs.of pss_nil fun E σ H ⟨ρ,r,h⟩=>h σ H r
theorem aAd (h1:PDS X B st F) (h2:PDB X B rest G):PDB X B (st::rest) (aAm F G):=by
 refine PSs.of (pss_cons h1 h2) fun E σ H h=> ?_
 obtain⟨ρ,r,h⟩:=h
 refine⟨ρ,r,?_⟩
 unfold aAm at h
 cases q:F ρ with
 | none=>rw[q] at h;exact h
 | some o=>
  rw[q] at h
  cases o with
  | nx ρ'=>exact fun σ' H' r'=>⟨ρ',r',h⟩
  | rt d=>exact h
  | bk ρ'=>exact h
  | ct ρ'=>exact h
  | ex c ρ'=>exact h
noncomputable def aD8 (f:Rho→M D):Rho→Option Out:=fun ρ=>lft (f ρ) ρ fun d=>some (.rt d)
theorem aAx (he:PD X B e fa):PDS X B (.Return (some e) pos) (aD8 fa):=by
 refine PS.of (ps_ret he) fun E σ H h=> ?_
 obtain⟨ρ,r,h⟩:=h
 exact⟨ρ,r,(lft_red r h).imp fun d h1 v H1 e1 i1=>h1 v H1 (r.kept.trans e1) i1⟩
noncomputable def sIf (t:Rho→M Bool) (F G:Rho→Option Out):Rho→Option Out:=fun ρ=>lft (t ρ) ρ fun k=>if k=true then F ρ else G ρ
theorem aB8 {a b:List Stmt} (hc:PDT X B c tc) (ha:PDB X B a F) (hb:PDB X B b G):PDS X B (.If c a b pos) (sIf tc F G):=by
 refine PS.of (ps_if hc ha hb) fun E σ H h=> ?_
 obtain⟨ρ,r,h⟩:=h
 refine⟨ρ,r,(lft_red r h).imp fun k h1 H1 e1=> ?_⟩
 cases k with
 | true=>exact⟨ρ,r.mono e1,h1⟩
 | false=>exact⟨ρ,r.mono e1,h1⟩
noncomputable def SV.rel:SV→SV
 | .sh d=> .sh d
 | .own ds=> .sh (.lst ds)
 | .oin a C dx fs=> .sh (.obj C fs)
 | .ow o=> .sh o.d
 | .tk ks=> .sh (.tup (ks.map kD))
noncomputable def free (ρ:Rho):Rho:=ρ.map fun o=>o.map SV.rel
noncomputable def setV (i:Nat) (d:D) (ρ:Rho):Rho:=if d.imm=true then ρ.set i (some (.sh d)) else (free ρ).set i (some (.sh d))
theorem Rel.set_sh {K:PySem.W.Frag} {H₀ H:Hp} {ρ:Rho} {σ:St} {i:Nat} {d:D} {v:V} (O:Nat→Option Addr) (h1: ∀i j a,O i=some a→O j=some a→i=j) (ho:OwnK H O) (h2:Same H₀ (Off H O)) (hl:ρ.length=σ.length) (h3: ∀j sv,ρ[j]? =some (some sv)→j≠i→Slot K H O σ j sv)
  (iv:Is K (Off H O) d v):Rel K H₀ (ρ.set i (some (.sh d))) (σ.set i (some v)) H:=by
 have hO: ∀(j:Nat) (a:Addr),(if j=i then none else O j)=some a→O j=some a:=fun j a q=>by
  split at q
  ·cases q
  ·exact q
 have less:Same (Off H O) (Off H fun j=>if j=i then none else O j):=Off.less fun j a q=>⟨j,hO j a q⟩
 refine⟨fun j=>if j=i then none else O j,fun j k a q1 q2=>h1 j k a (hO j a q1) (hO k a q2),fun j a q=>ho j a (hO j a q),h2.trans less,by rw[List.length_set,List.length_set,hl],fun j sv q=> ?_⟩
 by_cases e:j=i
 ·subst e
  have hj:j<ρ.length:=by
   have:=(List.getElem?_eq_some_iff.mp q).1
   rwa [List.length_set] at this
  rw[List.getElem?_set_self hj] at q
  have q':=Option.some.inj (Option.some.inj q)
  subst q'
  exact⟨v,List.getElem?_set_self (by rw[←hl];exact hj),iv.mono less⟩
 ·rw[List.getElem?_set_ne (Ne.symm e)] at q
  have z:=h3 j sv q e
  cases sv with
  | sh d'=>obtain⟨v',e1,e2⟩:=z;exact⟨v',by rw[List.getElem?_set_ne (Ne.symm e)];exact e1,e2.mono less⟩
  | own ds=>obtain⟨a,vs,e1,e2,e3,e4⟩:=z;exact⟨a,vs,by show (if j=i then none else O j)=some a;rw[if_neg e];exact e1,by rw[List.getElem?_set_ne (Ne.symm e)];exact e2,e3,e4.mono less⟩
  | oin a C dx fs=>obtain⟨e1,e2,e3,vs,e4,e5⟩:=z;exact⟨by show (if j=i then none else O j)=some a;rw[if_neg e];exact e1,by rw[List.getElem?_set_ne (Ne.symm e)];exact e2,e3,vs,e4,e5.mono less⟩
  | ow o=>obtain⟨a,w,e1,e2,e3,e4⟩:=z;exact⟨a,w,by show (if j=i then none else O j)=some a;rw[if_neg e];exact e1,by rw[List.getElem?_set_ne (Ne.symm e)];exact e2,e3,e4.mono less⟩
  | tk ks=>obtain⟨a,e1,e2⟩:=z;exact⟨a,by rw[List.getElem?_set_ne (Ne.symm e)];exact e1,less _ _ e2⟩
theorem Rel.freed {K:PySem.W.Frag} {H₀ H:Hp} {ρ:Rho} {σ:St} (r:Rel K H₀ ρ σ H):Rel K H₀ (free ρ) σ H:=by
 obtain⟨O,h1,ho,h2,hl,h3⟩:=id r
 have e0:Off H (fun _=>none)=H:=by funext b;unfold Off;rw[if_neg (fun⟨i,e⟩=>nomatch e)]
 refine⟨fun _=>none,(by intro _ _ _ q;cases q),(by intro _ _ q;cases q),by rw[e0];exact r.kept,by unfold free;rw[List.length_map,hl],fun i sv q=> ?_⟩
 unfold free at q
 rw[List.getElem?_map] at q
 obtain⟨o,e1,e2⟩:=Option.map_eq_some_iff.mp q
 cases o with
 | none=>cases e2
 | some sv0=>
  have e2':sv0.rel=sv:=Option.some.inj e2
  subst e2'
  obtain⟨v,e3,e4⟩:=r.get e1
  have:sv0.rel= .sh sv0.cur:=by cases sv0<;>rfl
  rw[this]
  exact⟨v,e3,by rw[e0];exact e4⟩
theorem Rel.setV {K:PySem.W.Frag} {H₀ H:Hp} {ρ:Rho} {σ:St} {i:Nat} {d:D} {v:V} (r:Rel K H₀ ρ σ H) (iv:Is K H d v):Rel K H₀ (setV i d ρ) (σ.set i (some v)) H:=by
 unfold PU.setV
 by_cases q:d.imm=true
 ·rw[if_pos q]
  obtain⟨O,h1,ho,h2,hl,h3⟩:=r
  exact Rel.set_sh O h1 ho h2 hl (fun j sv e _=>h3 j sv e) (off_imm ho q iv)
 ·rw[if_neg q]
  obtain⟨O,h1,ho,h2,hl,h3⟩:=r.freed
  have e0:Off H (fun _=>none)=H:=by funext b;unfold Off;rw[if_neg (fun⟨i,e⟩=>nomatch e)]
  have s0:Same (Off H O) (Off H fun _=>none):=Off.less (by intro j a q;cases q)
  refine Rel.set_sh (fun _=>none) (by intro _ _ _ q;cases q) (by intro _ _ q;cases q) (h2.trans s0) hl (fun j sv e _=> ?_) (by rw[e0];exact iv)
  unfold free at e
  rw[List.getElem?_map] at e
  obtain⟨o,e1,e2⟩:=Option.map_eq_some_iff.mp e
  cases o with
  | none=>cases e2
  | some sv0=>
   have e2':sv0.rel=sv:=Option.some.inj e2
   subst e2'
   have z:=h3 j sv0.rel (by unfold free;rw[List.getElem?_map,e1];rfl)
   have:sv0.rel= .sh sv0.cur:=by cases sv0<;>rfl
   rw[this] at z⊢
   obtain⟨v',f1,f2⟩:=z
   exact⟨v',f1,f2.mono s0⟩
noncomputable def aDl (i:Nat) (f:Rho→M D):Rho→Option Out:=fun ρ=>lft (f ρ) ρ fun d=>some (.nx (setV i d ρ))
theorem aA2 {i:Nat} {x:Str} (hN:X.N.Nodup) (hi:X.N[i]? =some x) (hx:Loc X.env.scope x) (he:PD X B e fa) (hs:swapsWith e (some (.Name x pos')) pos.line X.env=pure false:=by rfl) (hf:X.fn x=true∨X.env.scope.names.lookup x=some .local:=by first | exact .inl rfl | exact .inr rfl | assumption):
  PDS X B (.Assign [.Name x pos'] e pos) (aDl i fa):=by
 refine PS.of (ps_set hN hi hx he hs hf) fun E σ H h=> ?_
 obtain⟨ρ,r,h⟩:=h
 exact⟨ρ,r,(lft_red r h).imp fun d h1 v H1 e1 i1=>h1 _ H1 ((r.mono e1).setV i1)⟩
end
noncomputable def spR (K:PySem.W.Frag) (H:Hp) (Q:VK) (E:XK):M D→Prop
 | none=>False
 | some (.error c)=> ∀H',Same H H'→E (.ref c) none H'
 | some (.ok d)=> ∀v H',Same H H'→Is K H' d v→Q v H'
noncomputable def spD (K:PySem.W.Frag) (n:Nat) (F:List D→M D):Sp:=fun vs H Q E=> ∃ds,IsL K H ds vs∧vs.length=n∧spR K H Q E (F ds)
noncomputable def CXD (P:Program) (w:World):CXT:=fun outer H s E e s'=> ∃(c ea:Addr) (H':Hp),e= .ref ea∧s'.os=s.os∧AllBare s'.gens∧Un (frs outer) [] H H' s.heap s'.heap∧Fly P w outer s ea c H' s'∧E (.ref c) none H'
noncomputable abbrev FnD (P:Program) (w:World) (K:PySem.W.Frag) (mg:Str→Option Value) (base:Heap) (k:Nat) (f:Addr) (fd:FuncData) (ps:List Str) (F:List D→M D):Prop:=FnOk P w K mg base (CXD P w) k f fd ps (spD K ps.length F)
noncomputable def Def (P:Program) (w:World) (K:PySem.W.Frag) (mg:Str→Option Value) (base:Heap) (k:Nat) (x:Str) (F:List D→M D):Prop:=
 ∃f fd ps,mg x=some (.ref f)∧PySem.W.keepIn K (.ref f)=true∧Binds K fd ps []∧(∀ds r,F ds=some r→ds.length=ps.length)∧FnD P w K mg base k f fd ps F
section
variable {X:Cx} {B:Hp} {k:Nat} {f:Addr} {fd:FuncData} {ps:List Str} {F:List D→M D} {pins:List (Addr×Obj)} {σ:St} {H:Hp} {s:Shared} {Q:VK} {us:List Value} {vs:List V} {ds:List D}
theorem run_D (G:FnD X.prog X.w X.K X.mg X.base k f fd ps F) (hr:Room k X.A) (hb:Binds X.K fd ps []) (I:Inv X pins σ H s) (r:Vals vs us) (i:IsL X.K H ds vs)
  (h:Res X σ H (fun d=> ∀v H',Same H H'→Is X.K H' d v→Q v H') (F ds)) (hL: ∀ds r,F ds=some r→ds.length=ps.length):wpAny (model X.prog X.w) X.A (call (.ref f) us) (EP X pins σ Q) X.xe s:=by
 have hn:ds.length=ps.length:=by
  cases q:F ds with
  | none=>rw[q] at h;exact False.elim h
  | some z=>exact hL ds z q
 have hl:(us++ []).length=ps.length:=by rw[List.append_nil,←r.length,←i.length];exact hn
 have hbb:=hb s us I.kIn hl
 rw[List.append_nil] at hbb
 have hsp:spD X.K ps.length F vs H Q (fun cv _ H'=> ∃c,cv= .ref c∧Same H H'∧Thr X σ H c):=by
  refine⟨ds,i,by rw[←i.length];exact hn,?_⟩
  cases q:F ds with
  | none=>rw[q] at h;exact False.elim h
  | some z=>
   rw[q] at h
   cases z with
   | error c=>exact fun H' e=>⟨c,rfl,e,h⟩
   | ok d=>exact h
 refine wpAny_call (codeAny_mono (G.run X.A X.stack s H ⟨us,[]⟩ us vs Q _ hr I.env0 hbb r hsp) fun r s' hq=> ?_)
 cases r with
 | error e=>
  obtain⟨c,ea,H',ee,os,bare,un,fl,c',ec,sm',th⟩:=hq
  cases ec
  exact th pins s' H' e sm' ⟨ea,ee,.inr ⟨s,H,I,os,bare,un,fl⟩⟩
 | ok fl=>
  cases fl with
  | ret u=>exact I.after hq
  | next=>exact False.elim hq
  | brk=>exact False.elim hq
  | cont=>exact False.elim hq
variable {x m:Str} {p pos apos:Pos} {e o:Expr} {es:List Expr} {ga:Rho→M (List D)} {fo:Rho→M D} {C:Addr}
noncomputable def app (F:List D→M D) (g:Rho→M (List D)):Rho→M D:=fun ρ=>bnd (g ρ) F
theorem app_red {R:List V→Hp→Prop} (hR: ∀ds vs H1,Same H H1→IsL X.K H1 ds vs→Res X σ H1 (fun d=> ∀v H',Same H1 H'→Is X.K H' d v→Q v H') (F ds)→R vs H1) (h:tD X B (app F ga) σ H Q):tDA X B ga σ H R:=by
 obtain⟨ρ,r,h⟩:=h
 exact⟨ρ,r,(Res.bind h).imp fun ds h1 vs H1 e1 i1=>hR ds vs H1 e1 i1 (h1.mono e1 fun d q v H2 e2 i2=>q v H2 (e1.trans e2) i2)⟩
theorem aA1 (G:Def X.prog X.w X.K X.mg X.base k x F) (hr:Room k X.A) (hg:Gl X x) (ha:PDA X B (e::es) ga) (hdb:(x==("__debug__":Str))=false:=by decide) (he:starEach (e::es) X.env=(false,eval e X.env)::starEach es X.env:=by exact aBg rfl)
  (hpl:(backTo pos (starEach es X.env)).any (·.1)=false:=by rfl):PD X B (.Call (.Name x p) (e::es) [] pos) (app F ga):=by
 intro pins s σ H Q I h
 obtain⟨f,fd,ps,h1,h2,h3,hl,h4⟩:=G
 refine wpAny_Call_Name_kw (ld_glob I hg h1 ?_ hdb)
 refine PySem.W.callWith_K (h₀:=X.base) I.ok.mod.kin h2 (thn (ha pos pins s σ H _ I (app_red (R:=fun vs H1=> ∃ds,IsL X.K H1 ds vs∧Res X σ H1 (fun d=> ∀v H',Same H1 H'→Is X.K H' d v→Q v H') (F ds)) (fun ds vs H1 e1 i1 h1=>⟨ds,i1,h1⟩) h)) fun us s1 ⟨vs,H1,I1,r,ds,i1,q⟩=>⟨I1.kIn,?_⟩) he hpl
 exact run_D h4 hr h3 I1 r i1 q hl
noncomputable def hid (H:Hp) (a:Addr):Hp:=fun b=>if b=a then none else H b
end
noncomputable def tDG (X:Cx) (B:Hp) (G:D→Rho→Option Rho):TG:=fun v σ H Q=> ∃ρ d ρ',Rel X.K B ρ σ H∧Is X.K H d v∧G d ρ=some ρ'∧∀σ' H',Rel X.K B ρ' σ' H'→Q σ' H'
noncomputable abbrev PDG (X:Cx) (B:Hp) (tg:Expr) (G:D→Rho→Option Rho):Prop:=PG X tg (tDG X B G)
section
variable {X:Cx} {B:Hp} {tg:Expr} {pos:Pos} {x:Str}
noncomputable def gN (i:Nat):D→Rho→Option Rho:=fun d ρ=>some (setV i d ρ)
theorem aDy {i:Nat} (hN:X.N.Nodup) (hi:X.N[i]? =some x) (hx:Loc X.env.scope x) (hf:X.fn x=true∨X.env.scope.names.lookup x=some .local:=by first | exact .inl rfl | exact .inr rfl | assumption):PDG X B (.Name x pos) (gN i):=by
 intro pins s σ H v u Q I r h
 obtain⟨ρ,d,ρ',r1,i1,e,q⟩:=h
 cases e
 exact pg_name hN hi hx hf pins s σ H v u Q I r (q _ H (r1.setV i1))
noncomputable def gN2 (i j:Nat):D→Rho→Option Rho:=fun d ρ=>match d with
 | .tup [a,b]=>some (setV j b (setV i a ρ))
 | _=>none
theorem pdg_tup2 {i j:Nat} {y:Str} {p1 p2:Pos} {k:Nat} (hc:X.calm=true) (hN:X.N.Nodup) (hi:X.N[i]? =some x) (hx:Loc X.env.scope x) (hj:X.N[j]? =some y) (hy:Loc X.env.scope y)
  (hf:X.fn x=true∨X.env.scope.names.lookup x=some .local:=by first | exact .inl rfl | exact .inr rfl | assumption) (hf2:X.fn y=true∨X.env.scope.names.lookup y=some .local:=by first | exact .inl rfl | exact .inr rfl | assumption):
  PDG X B (.Tuple [.Name x p1,.Name y p2] k pos) (gN2 i j):=by
 intro pins s σ H v u Q I r h
 obtain⟨ρ,d,ρ',r1,i1,e,q⟩:=h
 unfold gN2 at e
 split at e
 ·rename_i a b
  cases e
  cases i1 with
  | tup hh rr=>
   cases rr with
   | cons ia rr=>
    cases rr with
    | cons ib rr=>
     cases rr
     refine pg_tup (n:=2) hc (pgs_cons (pg_name hN hi hx hf) (pgs_cons (pg_name hN hj hy hf2) pgs_nil)) rfl rfl pins s σ H _ u Q I r ?_
     refine⟨_,_,rfl,hh.sq,rfl,_,_,rfl,_,_,rfl,rfl,?_⟩
     exact q _ H ((r1.setV ia).setV ib)
 ·cases e
end
noncomputable def loop (G:D→Rho→Option Rho) (F:Rho→Option Out):List D→Rho→Option Out
 | [],ρ=>some (.nx ρ)
 | d::ds,ρ=>match G d ρ with
  | none=>none
  | some ρ1=>match F ρ1 with
   | some (.nx ρ2)=>loop G F ds ρ2
   | some (.ct ρ2)=>loop G F ds ρ2
   | some (.bk ρ2)=>some (.nx ρ2)
   | some (.rt d)=>some (.rt d)
   | some (.ex c ρ2)=>some (.ex c ρ2)
   | none=>none
structure ItD (K:PySem.W.Frag) (J:It) (ds:List D) (B:Hp):Prop where
 go: ∀j H,Same B H→j<ds.length→J.go j H
 yld: ∀j H x H',Same B H→J.yld j H x H'→j<ds.length→Same H H'∧∃d,ds[j]? =some d∧Is K H' d x
 stop: ∀j H,Same B H→ds.length≤j→J.stop j H
theorem itd_list {K:PySem.W.Frag} {a:Addr} {ds:List D} {vs:List V} {B:Hp} (h:SqL K B a vs) (r:IsL K B ds vs):ItD K (Itl K a) ds B where
 go:=fun j H e q=>⟨vs,vs[j]'(by rw[←r.length];exact q),e.seq h,by simp[show j<vs.length by rw[←r.length];exact q]⟩
 yld:=fun j H x H' e y q=>by
  obtain⟨y1,y2⟩:=y
  subst y1
  obtain⟨d,h1,h2⟩:=r.getV (y2 vs (e.seq h))
  exact⟨Same.refl _,d,h1,h2.mono e⟩
 stop:=fun j H e q=>⟨vs,e.seq h,by rw[←r.length];exact q⟩
theorem itd_tup {K:PySem.W.Frag} {a:Addr} {ds:List D} {vs:List V} {B:Hp} (h:SqT K B a vs) (r:IsL K B ds vs):ItD K (Itt K a) ds B where
 go:=fun j H e q=>⟨vs,vs[j]'(by rw[←r.length];exact q),SqT.mono e h,by simp[show j<vs.length by rw[←r.length];exact q]⟩
 yld:=fun j H x H' e y q=>by
  obtain⟨y1,y2⟩:=y
  subst y1
  obtain⟨d,h1,h2⟩:=r.getV (y2 vs (SqT.mono e h))
  exact⟨Same.refl _,d,h1,h2.mono e⟩
 stop:=fun j H e q=>⟨vs,SqT.mono e h,by rw[←r.length];exact q⟩
noncomputable def rng (lo:Int) (n:Nat):List D:=(List.range n).map fun (j:Nat)=>D.int (lo+(j:Int))
theorem itd_rng {K:PySem.W.Frag} (lo:Int) (n:Nat) (B:Hp):ItD K (Itr lo n) (rng lo n) B where
 go:=fun j H e q=>by unfold rng at q;rw[List.length_map,List.length_range] at q;exact q
 yld:=fun j H x H' e y q=>by
  unfold rng at q;rw[List.length_map,List.length_range] at q
  obtain⟨y1,y2⟩:=y
  subst y2
  subst y1
  refine⟨Same.refl _,.int (lo+j),?_,.int _⟩
  unfold rng
  rw[List.getElem?_map,List.getElem?_range q];rfl
 stop:=fun j H e q=>by unfold rng at q;rw[List.length_map,List.length_range] at q;exact q
section
variable {X:Cx} {B:Hp} {tg iter:Expr} {pos:Pos} {G:D→Rho→Option Rho} {F:Rho→Option Out} {body:List Stmt}
theorem Rel.sub {K:PySem.W.Frag} {B B':Hp} {ρ:Rho} {σ:St} {H:Hp} (e:Same B B') (r:Rel K B' ρ σ H):Rel K B ρ σ H:=by
 obtain⟨O,h1,ho,h2,hl,h3⟩:=r
 exact⟨O,h1,ho,e.trans h2,hl,h3⟩
noncomputable def IterOk (X:Cx) (B:Hp) (σ:St) (ds:List D) (ρ1:Rho) (J:It) (H1:Hp):Prop:= ∃B',ItD X.K J ds B'∧Rel X.K B' ρ1 σ H1∧Same B B'
theorem for_red {J:It} {H1:Hp} {σ:St} {E:Ends} {ds:List D} {ρ1:Rho} (hi:IterOk X B σ ds ρ1 J H1) (h:GoodO X B E (loop G F ds ρ1)) {g:TG} {tb:TS} (hg: ∀B v σ H Q,tDG X B G v σ H Q→g v σ H Q) (hb: ∀B E σ H,tDS X B F E σ H→tb E σ H):
  ∃W:Nat→Nat→St→Hp→Prop,(∃m,W 0 m σ H1)∧∀i m σ H,W i m σ H→
   (J.stop i H∧E.nx σ H)∨(J.go i H∧∃N:St→Hp→Prop,(∀σ' H',N σ' H'→∃m',m'<m∧W (i+1) m' σ' H')∧∀x H',J.yld i H x H'→g x σ H' fun σ2 H2=>tb {E with nx:=N,ct:=N,bk:=E.nx} σ2 H2):=by
 obtain⟨B',hJ,r1,sB⟩:=hi
 refine⟨fun j m σ H=>m=ds.length-j∧j≤ds.length∧∃ρj,Rel X.K B' ρj σ H∧GoodO X B E (loop G F (ds.drop j) ρj),⟨ds.length,by simp,Nat.zero_le _,ρ1,r1,by simpa using h⟩,?_⟩
 rintro j m σ H ⟨rfl,hj,ρj,rj,gj⟩
 have sH:Same B' H:=rj.kept
 by_cases hlt:j<ds.length
 ·have hd:ds.drop j=ds[j]::ds.drop (j+1):=List.drop_eq_getElem_cons hlt
  rw[hd] at gj
  refine .inr ⟨hJ.go j H sH hlt,fun σ' H'=> ∃ρ',Rel X.K B' ρ' σ' H'∧GoodO X B E (loop G F (ds.drop (j+1)) ρ'),fun σ' H' ⟨ρ',r',g'⟩=>⟨ds.length-(j+1),by omega,rfl,hlt,ρ',r',g'⟩,fun x H' y=> ?_⟩
  obtain⟨e1,d,e2,e3⟩:=hJ.yld j H x H' sH y hlt
  have ed:ds[j]=d:=by rw[List.getElem?_eq_getElem hlt] at e2;exact Option.some.inj e2
  rw[ed] at gj
  unfold loop at gj
  cases q:G d ρj with
  | none=>rw[q] at gj;exact False.elim gj
  | some ρa=>
   rw[q] at gj
   refine hg B' x σ H' _ ⟨ρj,d,ρa,rj.mono e1,e3,q,fun σ2 H2 r2=>hb B' _ σ2 H2 ⟨ρa,r2,?_⟩⟩
   dsimp only at gj
   cases qf:F ρa with
   | none=>rw[qf] at gj;exact False.elim gj
   | some o=>
    rw[qf] at gj
    cases o with
    | nx ρ2=>exact fun σ3 H3 r3=>⟨ρ2,r3,gj⟩
    | ct ρ2=>exact fun σ3 H3 r3=>⟨ρ2,r3,gj⟩
    | bk ρ2=>exact fun σ3 H3 r3=>gj σ3 H3 (r3.sub sB)
    | rt d=>exact fun v H3 s3 i3=>gj v H3 (sB.trans s3) i3
    | ex c ρ2=>exact fun pins s σ3 H3 ev r3 x3=>gj pins s σ3 H3 ev (r3.sub sB) x3
 ·have e:ds.drop j=[]:=List.drop_eq_nil_of_le (by omega)
  rw[e] at gj
  exact .inl ⟨hJ.stop j H sH (by omega),gj σ H (rj.sub sB)⟩
noncomputable def itD:D→M (List D)
 | .lst ds=>ok ds
 | .tup ds=>ok ds
 | _=>none
noncomputable def iD (X:Cx) (tl:TE):TI:=fun σ H R=>tl σ H fun x H1=>(∃a,x= .ref a∧(∃xs,SqL X.K H1 a xs)∧R (Itl X.K a) H1)∨(∃a,x= .ref a∧(∃xs,SqT X.K H1 a xs)∧R (Itt X.K a) H1)
theorem pi_D {l:Expr} {tl:TE} (hl:PE X l tl):PI X tg l (iD X tl):=by
 intro pins s σ H R I h
 refine thn (hl pins s σ H _ I h) fun v s1 ⟨x,H1,I1,r1,q1⟩=> ?_
 rcases q1 with⟨a,e,⟨xs,hq⟩,q⟩ |⟨a,e,⟨xs,hq⟩,q⟩
 ·subst e
  cases r1
  obtain⟨its,rv,p,hz⟩:=I1.list hq
  refine wpAny_pyIter_list p.isList ?_
  refine⟨s1.heap.objs.size,[s1.heap.objs.size],_,_,H1,rfl,I1.kept (t':=s1.toks) fun b o e=>Heap.get?_push_of_some _ e,turn_list a _,⟨_,Heap.get?_push_size _ rfl,rfl,rfl⟩,fun b hb=> ?_,q⟩
  have e:b=s1.heap.objs.size:=by simpa using hb
  subst e
  exact I1.fpOk (Nat.le_refl _) (I1.hok.fresh (Nat.le_refl _))
 ·subst e
  cases r1
  obtain⟨its,rv,p,hz⟩:=I1.tuple hq
  refine wpAny_pyIter_tuple (show s1.heap.IsTuple a its.toArray from p) ?_
  refine⟨s1.heap.objs.size,[s1.heap.objs.size],_,_,H1,rfl,I1.kept (t':=s1.toks) fun b o e=>Heap.get?_push_of_some _ e,turn_tuple a _,⟨_,Heap.get?_push_size _ rfl,rfl,rfl⟩,fun b hb=> ?_,q⟩
  have e:b=s1.heap.objs.size:=by simpa using hb
  subst e
  exact I1.fpOk (Nat.le_refl _) (I1.hok.fresh (Nat.le_refl _))
theorem pds_forG {wi:TI} {S:Rho→Option Out} (hp:PassesOwn (model X.prog X.w) X.A X.env X.xe) (hc:X.calm=true) (hi:PI X tg iter wi) (hg: ∀B,PDG X B tg G) (hb: ∀B,PDB X B body F)
  (hr: ∀E σ H R,tDS X B S E σ H→(∀J H1 ds ρ1,IterOk X B σ ds ρ1 J H1→GoodO X B E (loop G F ds ρ1)→R J H1)→wi σ H R) (hs: ∀x,foldedSetIterable iter X.env x=pure x:=by intro _;rfl):PDS X B (.For tg iter body [] pos) S:=by
 have hg':PG X tg (fun v σ H Q=> ∃B,tDG X B G v σ H Q):=fun pins s σ H v u Q I r ⟨B,h⟩=>hg B pins s σ H v u Q I r h
 have hb':PSs X body (fun E σ H=> ∃B,tDS X B F E σ H):=fun pins s σ H E I ⟨B,h⟩=>hb B pins s σ H E I h
 refine PS.of (ps_for hp hc hi hg' hb' hs) fun E σ H h=> ?_
 exact hr E σ H _ h fun J H1 ds ρ1 i1 g1=>for_red (g:=fun v σ H Q=> ∃B,tDG X B G v σ H Q) (tb:=fun E σ H=> ∃B,tDS X B F E σ H) i1 g1 (fun B v σ H Q q=>⟨B,q⟩) fun B E σ H q=>⟨B,q⟩
noncomputable def relAt (i:Nat) (ρ:Rho):Rho:=match ρ[i]? with
 | some (some (.own _))=>free ρ
 | some (some (.oin _ _ _ _))=>free ρ
 | some (some (.ow _))=>free ρ
 | some (some (.tk _))=>free ρ
 | _=>ρ
noncomputable def sForN (i:Nat) (G:D→Rho→Option Rho) (F:Rho→Option Out):Rho→Option Out:=fun ρ=>match look i ρ with
 | some (.ok d)=>(match itD d with
  | some (.ok ds)=>loop G F ds (relAt i ρ)
  | _=>none)
 | _=>none
theorem Rel.base {K:PySem.W.Frag} {B:Hp} {ρ:Rho} {σ:St} {H:Hp} (r:Rel K B ρ σ H): ∃B',Rel K B' ρ σ H∧Same B B'∧Same B' H∧(∀(i:Nat) (d:D),ρ[i]? =some (some (SV.sh d))→∃v,σ[i]? =some (some v)∧Is K B' d v)∧(∀d v,d.imm=true→Is K H d v→Is K B' d v):=by
 obtain⟨O,h1,ho,h2,hl,h3⟩:=r
 exact⟨Off H O,⟨O,h1,ho,Same.refl _,hl,h3⟩,h2,Off.same _ _,fun i d q=>h3 i _ q,fun d v q i=>off_imm ho q i⟩
theorem Rel.baseAll {K:PySem.W.Frag} {B:Hp} {ρ:Rho} {σ:St} {H:Hp} (r:Rel K B ρ σ H):Rel K H (free ρ) σ H:=by
 have e0:Off H (fun _=>none)=H:=by funext b;unfold Off;rw[if_neg (fun⟨i,e⟩=>nomatch e)]
 refine⟨fun _=>none,(by intro _ _ _ q;cases q),(by intro _ _ q;cases q),by rw[e0];exact Same.refl _,?_,fun i sv q=> ?_⟩
 ·obtain⟨O,_,_,_,hl,_⟩:=r.freed
  exact hl
 ·unfold free at q
  rw[List.getElem?_map] at q
  obtain⟨o,e1,e2⟩:=Option.map_eq_some_iff.mp q
  cases o with
  | none=>cases e2
  | some sv0=>
   have e2':sv0.rel=sv:=Option.some.inj e2
   subst e2'
   obtain⟨v,e3,e4⟩:=r.get e1
   have:sv0.rel= .sh sv0.cur:=by cases sv0<;>rfl
   rw[this]
   exact⟨v,e3,by rw[e0];exact e4⟩
theorem iter_of {K:PySem.W.Frag} {H:Hp} {d:D} {v:V} {ds:List D} (i:Is K H d v) (h:itD d=ok ds): ∃a vs,v= .ref a∧IsL K H ds vs∧(SqL K H a vs∨SqT K H a vs):=by
 cases i with
 | lst hh r=>have:=aC3 h;subst this;exact⟨_,_,rfl,r,.inl hh⟩
 | tup hh r=>have:=aC3 h;subst this;exact⟨_,_,rfl,r,.inr hh⟩
 | _=>exact nomatch h
theorem pds_forN (i:Nat) {x:Str} {p:Pos} (hN:X.N[i]? =some x) (hv:Vis X.env.scope x) (hp:PassesOwn (model X.prog X.w) X.A X.env X.xe) (hc:X.calm=true) (hg: ∀B,PDG X B tg G) (hb: ∀B,PDB X B body F)
  (hd:(x==("__debug__":Str))=false:=by decide) (hcd:(x==("__classdict__":Str))=false:=by decide) (hs: ∀y,foldedSetIterable (.Name x p) X.env y=pure y:=by intro _;rfl):PDS X B (.For tg (.Name x p) body [] pos) (sForN i G F):=by
 refine pds_forG hp hc (pi_D (pe_var hN hv hd hcd)) hg hb (fun E σ H R h k=> ?_) hs
 obtain⟨ρ,r,h⟩:=h
 unfold sForN look at h
 split at h
 ·rename_i d0 hd0
  split at hd0
  ·rename_i sv q
   have e:=aC3 hd0
   subst e
   split at h
   ·rename_i ds hds
    obtain⟨v,e1,e2⟩:=r.get q
    obtain⟨a,vs,rfl,il,hq⟩:=iter_of e2 hds
    refine⟨_,e1,?_⟩
    have key: ∃B' vs,Rel X.K B' (relAt i ρ) σ H∧Same B B'∧IsL X.K B' ds vs∧(SqL X.K B' a vs∨SqT X.K B' a vs):=by
     cases sv with
     | sh d=>
      obtain⟨B',b1,b2,b3,b4,b5⟩:=r.base
      obtain⟨v',f1,f2⟩:=b4 i d q
      rw[e1] at f1
      have:=Option.some.inj (Option.some.inj f1);subst this
      obtain⟨a',vs',ea,il',hq'⟩:=iter_of f2 hds
      cases ea
      have e:relAt i ρ=ρ:=by unfold relAt;rw[q]
      exact⟨B',vs',by rw[e];exact b1,b2,il',hq'⟩
     | own ds'=>
      have e:relAt i ρ=free ρ:=by unfold relAt;rw[q]
      exact⟨H,vs,by rw[e];exact r.baseAll,r.kept,il,hq⟩
     | oin a C dx fs=>
      have e:relAt i ρ=free ρ:=by unfold relAt;rw[q]
      exact⟨H,vs,by rw[e];exact r.baseAll,r.kept,il,hq⟩
     | ow o=>
      have e:relAt i ρ=free ρ:=by unfold relAt;rw[q]
      exact⟨H,vs,by rw[e];exact r.baseAll,r.kept,il,hq⟩
     | tk ks=>
      have e:relAt i ρ=free ρ:=by unfold relAt;rw[q]
      exact⟨H,vs,by rw[e];exact r.baseAll,r.kept,il,hq⟩
    obtain⟨B',vs',k1,k2,k3,k4⟩:=key
    rcases k4 with k4 | k4
    ·exact .inl ⟨a,rfl,⟨_,k1.kept.seq k4⟩,k _ H ds (relAt i ρ) ⟨B',itd_list k4 k3,k1,k2⟩ h⟩
    ·exact .inr ⟨a,rfl,⟨_,SqT.mono k1.kept k4⟩,k _ H ds (relAt i ρ) ⟨B',itd_tup k4 k3,k1,k2⟩ h⟩
   ·exact False.elim h
  ·exact nomatch hd0
 ·exact False.elim h
noncomputable def sForE (f:Rho→M D) (G:D→Rho→Option Rho) (F:Rho→Option Out):Rho→Option Out:=fun ρ=>lft (f ρ) ρ fun d=>match itD d with
 | some (.ok ds)=>loop G F ds (if d.imm=true then ρ else free ρ)
 | _=>none
theorem pds_forE {fa:Rho→M D} (hp:PassesOwn (model X.prog X.w) X.A X.env X.xe) (hc:X.calm=true) (he:PD X B iter fa) (hg: ∀B,PDG X B tg G) (hb: ∀B,PDB X B body F) (hs: ∀y,foldedSetIterable iter X.env y=pure y:=by intro _;rfl):PDS X B (.For tg iter body [] pos) (sForE fa G F):=by
 refine pds_forG hp hc (pi_D he) hg hb (fun E σ H R h k=> ?_) hs
 obtain⟨ρ,r,h⟩:=h
 refine⟨ρ,r,(lft_red r h).imp fun d h1 v H1 e1 i1=> ?_⟩
 split at h1
 ·rename_i ds hds
  obtain⟨a,vs,rfl,il,hq⟩:=iter_of i1 hds
  have r1:=r.mono e1
  have key: ∃B' vs,Rel X.K B' (if d.imm=true then ρ else free ρ) σ H1∧Same B B'∧IsL X.K B' ds vs∧(SqL X.K B' a vs∨SqT X.K B' a vs):=by
   by_cases q:d.imm=true
   ·obtain⟨B',b1,b2,b3,b4,b5⟩:=r1.base
    obtain⟨a',vs',ea,il',hq'⟩:=iter_of (b5 d _ q i1) hds
    cases ea
    rw[if_pos q]
    exact⟨B',vs',b1,b2,il',hq'⟩
   ·rw[if_neg q]
    exact⟨H1,vs,r1.baseAll,r1.kept,il,hq⟩
  obtain⟨B',vs',k1,k2,k3,k4⟩:=key
  rcases k4 with k4 | k4
  ·exact .inl ⟨a,rfl,⟨_,k1.kept.seq k4⟩,k _ H1 ds _ ⟨B',itd_list k4 k3,k1,k2⟩ h1⟩
  ·exact .inr ⟨a,rfl,⟨_,SqT.mono k1.kept k4⟩,k _ H1 ds _ ⟨B',itd_tup k4 k3,k1,k2⟩ h1⟩
 ·exact False.elim h1
noncomputable def sForR1 (f:Rho→M D) (G:D→Rho→Option Rho) (F:Rho→Option Out):Rho→Option Out:=fun ρ=>lft (f ρ) ρ fun d=>match d with
 | .int j=>if j<2^62∧ -(2^62)≤j then loop G F (rng 0 j.toNat) ρ else none
 | _=>none
theorem pds_forR1 {a:Expr} {fa:Rho→M D} {p p1:Pos} (hgl:Gl X "range") (hm:X.mg "range"=none) (hp:PassesOwn (model X.prog X.w) X.A X.env X.xe) (hc:X.calm=true) (he:PD X B a fa) (hg: ∀B,PDG X B tg G) (hb: ∀B,PDB X B body F)
  (hst:starEach [a] X.env=[(false,eval a X.env)]:=by exact star1 rfl) (hs: ∀y,foldedSetIterable (.Call (.Name "range" p) [a] [] p1) X.env y=pure y:=by intro _;rfl):PDS X B (.For tg (.Call (.Name "range" p) [a] [] p1) body [] pos) (sForR1 fa G F):=by
 refine pds_forG hp hc (pi_range1 hgl hm (aCh he aD9 hst) hst) hg hb (fun E σ H R h k=> ?_) hs
 obtain⟨ρ,r,h⟩:=h
 refine⟨ρ,r,(lft_red r h).imp fun d h1 v H1 e1 i1=> ?_⟩
 cases i1<;>first | exact False.elim h1 | skip
 rename_i j
 dsimp only at h1
 split at h1
 ·rename_i hj
  obtain⟨B',b1,b2,b3,b4,b5⟩:=(r.mono e1).base
  exact⟨j,rfl,hj.2,hj.1,k _ H1 _ ρ ⟨B',itd_rng 0 j.toNat B',b1,b2⟩ h1⟩
 ·exact False.elim h1
end
noncomputable def aB7 (N:List Str) (ds:List D):Rho:=ds.map (fun d=>some (.sh d))++List.replicate (N.length-ds.length) none
noncomputable def aAr:Option Out→M D
 | some (.rt d)=>ok d
 | some (.nx _)=>ok .non
 | some (.ex c _)=>err c
 | _=>none
theorem get_append_map {α β:Type} {f:α→β}: ∀{l:List α} {r:List β} {i:Nat} {b:β},(l.map f++r)[i]? =some b→(∃a,l[i]? =some a∧b=f a)∨(l.length≤i∧r[i-l.length]? =some b)
 | l,r,i,b,h=>by
  by_cases q:i<l.length
  ·rw[List.getElem?_append_left (by simpa using q),List.getElem?_map] at h
   obtain⟨a,e1,e2⟩:=Option.map_eq_some_iff.mp h
   exact .inl ⟨a,e1,e2.symm⟩
  ·rw[List.getElem?_append_right (by simpa using q),List.length_map] at h
   exact .inr ⟨by omega,h⟩
theorem start_get {N:List Str} {vs:List V} {i:Nat} {v:V} (h:vs[i]? =some v):(start N vs)[i]? =some (some v):=by
 unfold start
 have q:i<vs.length:=(List.getElem?_eq_some_iff.mp h).1
 rw[List.getElem?_append_left (by simpa using q),List.getElem?_map,h];rfl
theorem start_length {N:List Str} {vs:List V} (h:vs.length≤N.length):(start N vs).length=N.length:=by
 unfold start;rw[List.length_append,List.length_map,List.length_replicate];omega
theorem rho0_length {N:List Str} {ds:List D} (h:ds.length≤N.length):(aB7 N ds).length=N.length:=by
 unfold aB7;rw[List.length_append,List.length_map,List.length_replicate];omega
theorem rel_start {K:PySem.W.Frag} {H:Hp} {N:List Str} {ds:List D} {vs:List V} (i:IsL K H ds vs) (hl:ds.length≤N.length):Rel K H (aB7 N ds) (start N vs) H:=by
 have e0:Off H (fun _=>none)=H:=by funext b;unfold Off;rw[if_neg (fun⟨i,e⟩=>nomatch e)]
 refine⟨fun _=>none,(by intro _ _ _ q;cases q),(by intro _ _ q;cases q),by rw[e0];exact Same.refl _,by rw[rho0_length hl,start_length (by rw[←i.length];exact hl)],fun j sv q=> ?_⟩
 unfold aB7 at q
 rcases get_append_map q with⟨d,e1,e2⟩ |⟨_,e2⟩
 ·cases e2
  obtain⟨v,h1,h2⟩:=i.get e1
  exact⟨v,start_get h1,by rw[e0];exact h2⟩
 ·rw[List.getElem?_replicate] at e2
  split at e2<;>cases e2
section
variable {P:Program} {w:World} {K:PySem.W.Frag} {mg:Str→Option Value} {base:Heap}
noncomputable abbrev cxN (P:Program) (w:World) (K:PySem.W.Frag) (mg:Str→Option Value) (base:Heap) (N:List Str) (qual:Str) (scope:Scope) (f:Addr) (cd:Value) (A:Around) (outer:List Env) (s:Shared) (H:Hp) (E:XK):Cx:=
 (cxOf (CXD P w) P w K mg base N qual scope f cd A outer s H E).nox
theorem fn_D {x qual:Str} {st:Stmt} {f:Addr} {fd:FuncData} {N ps:List Str} {k:Nat} {F:List D→M D} (Fu:Fun K x qual st f fd) (S:aBx N ps (aAi st)) (hL: ∀ds r,F ds=some r→ds.length=ps.length)
  (hbody: ∀(cdv:Value) (A:Around) (outer:List Env) (s:Shared) (H:Hp) (E:XK),Room k (A.deeper (envOfC qual (aAi st) s.heap.objs.size f cdv))→
   ∃F',(∀B,PDB (cxN P w K mg base N qual (aAi st) f cdv A outer s H E) B (aBi st) F')∧∀ds r,F ds=some r→∃d,r= .ok d∧aAr (F' (aB7 N ds))=ok d):FnD P w K mg base (k+1) f fd ps F:=by
 obtain⟨oc,od,kV,doc,pm,an,cdv,ct,osl,rfl,lk,hcd⟩:=Fu.ex
 refine fn_of lk hcd S (fun vs H Q E ⟨ds,i,hl,_⟩=>hl) fun A outer s H vs Q E hr hsp=> ?_
 obtain⟨F',hF,hq⟩:=hbody cdv A outer s H E hr
 refine⟨_,(hF H).nox,?_⟩
 obtain⟨ds,i,hl,h⟩:=hsp
 have hn:ps.length≤N.length:=by have:=congrArg List.length S.pre;rw[List.length_take] at this;omega
 cases q:F ds with
 | none=>rw[q] at h;exact False.elim h
 | some r=>
  rw[q] at h
  obtain⟨d,rfl,e⟩:=hq ds r q
  refine⟨aB7 N ds,rel_start i (by rw[i.length,hl];exact hn),?_⟩
  cases qf:F' (aB7 N ds) with
  | none=>rw[qf] at e;cases e
  | some o=>
   rw[qf] at e
   cases o with
   | rt d'=>have:=aC3 e;subst this;exact fun v H' s' i'=>h v H' s' i'
   | nx ρ=>have:=aC3 e;subst this;exact fun σ' H' r'=>h _ H' r'.kept .non
   | bk ρ=>cases e
   | ct ρ=>cases e
   | ex c ρ=>cases e
end
theorem aAf {F G:Rho→Option Out} {ρ ρ':Rho} (h:F ρ=some (.nx ρ')):aAm F G ρ=G ρ':=by unfold aAm;rw[h]
theorem aAl {F G:Rho→Option Out} {ρ:Rho} {d:D} (h:F ρ=some (.rt d)):aAm F G ρ=some (.rt d):=by unfold aAm;rw[h]
theorem aEb {t:Rho→M Bool} {F G:Rho→Option Out} {ρ:Rho} (h:t ρ=ok true):sIf t F G ρ=F ρ:=by unfold sIf;rw[h];rfl
theorem aCd {t:Rho→M Bool} {F G:Rho→Option Out} {ρ:Rho} (h:t ρ=ok false):sIf t F G ρ=G ρ:=by unfold sIf;rw[h];rfl
theorem aAz {f:Rho→M D} {ρ:Rho} {d:D} (h:f ρ=ok d):aD8 f ρ=some (.rt d):=by unfold aD8;rw[h];rfl
theorem sSet_ok {i:Nat} {f:Rho→M D} {ρ:Rho} {d:D} (h:f ρ=ok d):aDl i f ρ=some (.nx (setV i d ρ)):=by unfold aDl;rw[h];rfl
theorem setV_imm {i:Nat} {d:D} {ρ:Rho} (h:d.imm=true):setV i d ρ=ρ.set i (some (.sh d)):=by unfold setV;rw[if_pos h]
theorem sForR1_ok {f:Rho→M D} {G:D→Rho→Option Rho} {F:Rho→Option Out} {ρ:Rho} {j:Int} (h:f ρ=ok (.int j)) (h1:j<2^62) (h2: -(2^62)≤j):sForR1 f G F ρ=loop G F (rng 0 j.toNat) ρ:=by
 unfold sForR1
 rw[h,lft_ok]
 dsimp only
 rw[if_pos ⟨h1,h2⟩]
theorem sForE_ok {f:Rho→M D} {G:D→Rho→Option Rho} {F:Rho→Option Out} {ρ:Rho} {d:D} {ds:List D} (h:f ρ=ok d) (h1:itD d=ok ds):sForE f G F ρ=loop G F ds (if d.imm=true then ρ else free ρ):=by
 unfold sForE
 rw[h,lft_ok,h1]
 rfl
theorem loop_inv {G:D→Rho→Option Rho} {F:Rho→Option Out} (P:List D→Rho→Prop): ∀(ds pre:List D) (ρ:Rho),P pre ρ→
  (∀p d q ρ,pre++ds=p++d::q→P p ρ→∃ρ1 ρ2,G d ρ=some ρ1∧(F ρ1=some (.nx ρ2)∨F ρ1=some (.ct ρ2))∧P (p++ [d]) ρ2)→∃ρ',loop G F ds ρ=some (.nx ρ')∧P (pre++ds) ρ'
 | [],pre,ρ,h,_=>⟨ρ,rfl,by rw[List.append_nil];exact h⟩
 | d::ds,pre,ρ,h,st=>by
  obtain⟨ρ1,ρ2,h1,h2,h3⟩:=st pre d ds ρ rfl h
  obtain⟨ρ',h4,h5⟩:=loop_inv P ds (pre++ [d]) ρ2 h3 (fun p d' q ρ e hp=>st p d' q ρ (by rw[←e,List.append_assoc];rfl) hp)
  refine⟨ρ',?_,by rw[List.append_assoc] at h5;exact h5⟩
  unfold loop
  rw[h1]
  dsimp only
  rcases h2 with h2 | h2<;>rw[h2]<;>exact h4
theorem loop_inv0 {G:D→Rho→Option Rho} {F:Rho→Option Out} (P:List D→Rho→Prop) (ds:List D) (ρ:Rho) (h:P [] ρ)
  (st: ∀p d q ρ,ds=p++d::q→P p ρ→∃ρ1 ρ2,G d ρ=some ρ1∧(F ρ1=some (.nx ρ2)∨F ρ1=some (.ct ρ2))∧P (p++ [d]) ρ2): ∃ρ',loop G F ds ρ=some (.nx ρ')∧P ds ρ':=by
 have:=loop_inv P ds [] ρ h (fun p d q ρ e=>st p d q ρ (by simpa using e))
 simpa using this
mutual
noncomputable def D.dep:D→Nat
 | .tup ds=>depL ds+1
 | .lst ds=>depL ds+1
 | _=>0
noncomputable def depL:List D→Nat
 | []=>0
 | d::ds=>max d.dep (depL ds)
end
mutual
noncomputable def D.pl:D→Bool
 | .tup ds=>decide (ds.length≤100000)&&plL ds
 | .lst ds=>decide (ds.length≤100000)&&plL ds
 | .obj _ _=>false
 | .dk _=>false
 | .dt _=>false
 | .exc _=>false
 | .set _=>false
 | _=>true
noncomputable def plL:List D→Bool
 | []=>true
 | d::ds=>d.pl&&plL ds
end
open Classical in
noncomputable def tt (S:List D→Prop):List D→M D:=fun ds=>if S ds then ok (.bl true) else none
theorem tt_ok {S:List D→Prop} {ds:List D} (h:S ds):tt S ds=ok (.bl true):=by unfold tt;rw[if_pos h]
theorem tt_inv {S:List D→Prop} {ds:List D} {r:Except Addr D} (h:tt S ds=some r):S ds∧r= .ok (.bl true):=by
 unfold tt at h
 split at h
 ·rename_i q;exact⟨q,(Option.some.inj h).symm⟩
 ·cases h
theorem intBits_le {a:Int} {k:Nat} (h:a.natAbs<2^k):Builtin.Int.intBits a≤k:=by
 unfold Builtin.Int.intBits
 split
 ·exact Nat.zero_le _
 ·rename_i q
  have hz:a.natAbs≠0:=by intro z;apply q;simp_all
  have:=(Nat.log2_lt hz).mpr h
  omega
theorem mulB_of {i j:Int} (hi:i.natAbs<2^1048576) (hj:j.natAbs<2^1048576):mulB i j=true:=by
 unfold mulB
 rw[Bool.and_eq_true]
 exact⟨decide_eq_true (intBits_le hi),decide_eq_true (intBits_le hj)⟩
theorem pow_line {n m k:Nat} (h:n<2^m) (q:m≤k):n<2^k:=Nat.lt_of_lt_of_le h (Nat.pow_le_pow_right (by decide) q)
noncomputable def fAt:List D→M D
 | [.lst xs,.int k]=>if 0≤k then (if k<xs.length then (match xs[k.toNat]? with | some d=>ok d | none=>none) else ok (.int 0)) else none
 | _=>none
theorem fAt_len: ∀ds r,fAt ds=some r→ds.length=2:=by
 intro ds r h
 unfold fAt at h
 split at h
 ·rfl
 ·cases h
noncomputable def atZ (ns:List Int) (k:Nat):Int:=ns.getD k 0
theorem fAt_ints (ns:List Int) (k:Nat):fAt [.lst (ns.map D.int),.int k]=ok (.int (atZ ns k)):=by
 show (if 0≤(k:Int) then (if (k:Int)<(ns.map D.int).length then (match (ns.map D.int)[((k:Int)).toNat]? with | some d=>ok d | none=>none) else ok (.int 0)) else none)=_
 rw[if_pos (by omega),Int.toNat_natCast,List.length_map]
 unfold atZ
 by_cases h:k<ns.length
 ·rw[if_pos (by omega),List.getElem?_map,List.getElem?_eq_getElem h]
  simp[List.getD_eq_getElem?_getD,List.getElem?_eq_getElem h]
 ·rw[if_neg (by omega)]
  simp[List.getD_eq_getElem?_getD,List.getElem?_eq_none (Nat.le_of_not_lt h)]
noncomputable def denAt:Rho→Option Out:=
  (aAm (sIf (aAt (b2 gLt (look 1) (f1 aEa (look 0)))) (aAm (aD8 (b2 gIx (look 0) (look 1)))
  aBd) aBd)
  (aAm (aD8 (con (.int 0)))
  aBd))
theorem at_den (N:List Str) (hN:N.length=2): ∀ds r,fAt ds=some r→∃d,r= .ok d∧aAr (denAt (aB7 N ds))=ok d:=by
 intro ds r h
 unfold fAt at h
 split at h
 ·rename_i xs k
  have e0:aB7 N [.lst xs,.int k]=[some (.sh (.lst xs)),some (.sh (.int k))]:=by unfold aB7;rw[hN];rfl
  rw[e0]
  split at h
  ·rename_i h0
   split at h
   ·rename_i hk
    split at h
    ·rename_i d hd
     cases h
     refine⟨d,rfl,?_⟩
     have t1:aAt (b2 gLt (look 1) (f1 aEa (look 0))) [some (.sh (.lst xs)),some (.sh (.int k))]=ok true:=by
      show ok (decide (k<(xs.length:Int)))=ok true
      rw[decide_eq_true hk]
     have t2:b2 gIx (look 0) (look 1) [some (.sh (.lst xs)),some (.sh (.int k))]=ok d:=by
      show (match atI xs k with | some d=>ok d | none=>none)=ok d
      have e:k=((k.toNat:Nat):Int):=by omega
      have:atI xs k=some d:=by rw[e];exact atI_nat hd
      rw[this]
     unfold denAt
     rw[aAl (d:=d)]
     ·rfl
     ·rw[aEb t1,aAl (aAz t2)]
    ·cases h
   ·rename_i hk
    cases h
    refine⟨_,rfl,?_⟩
    have t1:aAt (b2 gLt (look 1) (f1 aEa (look 0))) [some (.sh (.lst xs)),some (.sh (.int k))]=ok false:=by
     show ok (decide (k<(xs.length:Int)))=ok false
     rw[decide_eq_false hk]
    unfold denAt
    rw[aAf (ρ':=[some (.sh (.lst xs)),some (.sh (.int k))])]
    ·rfl
    ·rw[aCd t1];rfl
  ·cases h
 ·cases h
theorem aBn {F:List D→M D} {g:Rho→M (List D)} {ρ:Rho} {ds:List D} (h:g ρ=ok ds):app F g ρ=F ds:=by
 unfold app;rw[h,aDh]
theorem aAc {f:Rho→M D} {g:Rho→M (List D)} {ρ:Rho} {d:D} {ds:List D} (h1:f ρ=ok d) (h2:g ρ=ok ds):aAe f g ρ=ok (d::ds):=by
 unfold aAe;rw[h1,aDh,h2,aDh]
theorem aAn {ρ:Rho}:aAs ρ=ok []:=rfl
theorem mkT_ok {g:Rho→M (List D)} {ρ:Rho} {ds:List D} (h:g ρ=ok ds) (hl:ds.length≤1000:=by simp):mkT g ρ=ok (.tup ds):=by
 unfold mkT;rw[h,aDh,if_pos hl]
theorem mkL_ok {g:Rho→M (List D)} {ρ:Rho} {ds:List D} (h:g ρ=ok ds) (hl:ds.length≤1000:=by simp):mkL g ρ=ok (.lst ds):=by
 unfold mkL;rw[h,aDh,if_pos hl]
theorem aBj {g:D→D→M D} {fa fb:Rho→M D} {ρ:Rho} {x y:D} {r:M D} (h1:fa ρ=ok x) (h2:fb ρ=ok y) (h3:g x y=r):b2 g fa fb ρ=r:=by
 unfold b2;rw[h1,aDh,h2,aDh,h3]
theorem test_ok {f:Rho→M D} {ρ:Rho} {d:D} {b:Bool} (h:f ρ=ok d) (q:tru d=ok b):test f ρ=ok b:=by unfold test;rw[h,aDh,q]
theorem aAp {f:Rho→M D} {ρ:Rho} {b:Bool} (h:f ρ=ok (.bl b)):aAt f ρ=ok b:=by unfold aAt;rw[h,aDh];rfl
theorem notB_ok {f:Rho→M Bool} {ρ:Rho} {b:Bool} (h:f ρ=ok b):notB f ρ=ok (!b):=by unfold notB;rw[h,aDh]
theorem fn_none {P:Program} {w:World} {K:PySem.W.Frag} {mg:Str→Option Value} {base:Heap} {k:Nat} {f:Addr} {fd:FuncData} {ps:List Str} {F:List D→M D} (h: ∀ds,F ds=none):FnD P w K mg base k f fd ps F:=by
 have no: ∀vs H Q E,¬spD K ps.length F vs H Q E:=fun vs H Q E ⟨ds,_,_,q⟩=>by rw[h ds] at q;exact q
 exact⟨fun vs H Q E q=>absurd q (no vs H Q E),fun A outer s H args us vs Q E _ _ _ _ q=>absurd q (no vs H Q E)⟩
noncomputable def num (c:Int):Int:=if c%3=0 then c/3%4 else if c%3=1 then c/3%100000000000000000000*1000000000000000000000000000000000000000+c%7 else c/3%1000000000000000000000000000000000000000000000000000000000000
theorem mul_small {i j:Int} (h1:0≤i) (h2:i<1000000000000000000000000000000000000000000000000000000000000) (h3:0≤j) (h4:j<1000000000000000000000000000000000000000000000000000000000000):mulB i j=true:=by
 have q: ∀z:Int,0≤z→z<1000000000000000000000000000000000000000000000000000000000000→z.natAbs<2^1048576:=fun z a b=>pow_line (m:=200) (by omega) (by decide)
 exact mulB_of (q i h1 h2) (q j h3 h4)
noncomputable abbrev cxC (X:Cx) (scope:Scope) (cl:List (Str×Addr)) (N:List Str) (C:Addr) (s₀:Shared) (H₀:Hp) (ex:List Addr):Cx:=
 {X with env:=compEnvC scope cl C X.env,N:=N,s₀:=s₀,H₀:=H₀,outer:=X.stack,ex:=ex,fn:=fun _=>false,pn:=[],xe:=fun _ _=>False}
noncomputable def lkAll (cl:List (Str×Addr)) (env:Env):Bool:=cl.all fun p=>(env.cells.lookup p.1==some p.2)&&(env.kindOf p.1==some .cell || env.kindOf p.1==some .free)
noncomputable def nmAll (N N':List Str) (sc:Scope):Bool:=(List.range N.length).all fun i=>match N'[i]? with
 | some x=>((N[i]? ==some x)&&(sc.names.lookup x==some .cell || sc.names.lookup x==some .free)) ||(sc.names.lookup x==none)
 | none=>false
noncomputable def frAll (cl:List (Str×Addr)) (sc:Scope):Bool:=sc.names.all fun p=>(p.2 != .cell&&p.2 != .free) ||(cl.lookup p.1).isSome
theorem lookup_mem {α β:Type} [BEq α] [LawfulBEq α]: ∀{l:List (α×β)} {x:α} {b:β},l.lookup x=some b→(x,b)∈l
 | [],_,_,h=>by simp at h
 |(y,c)::l,x,b,h=>by
  rw[List.lookup_cons] at h
  cases q:x==y with
  | true=>rw[q] at h;simp at h;subst h;have:=LawfulBEq.eq_of_beq q;subst this;exact List.mem_cons_self
  | false=>rw[q] at h;exact List.mem_cons_of_mem _ (lookup_mem h)
theorem codeAny_compLoopG {prog:Program} {w:World} {A:Around} {R:Result→Shared→Prop} {s:Shared} {elt target iter:Expr} {ifs:List Expr} {scope:Scope} {pos:Pos} {it acc:Value} {env:Env} (I:Nat→Shared→Prop)
  (turn: ∀n s,I n s→wpAny (model prog w) A (pyNext it) (fun r s₁=>match r with
   | none=>R (.ok .next) s₁
   | some v=>wpAny (model prog w) A (letOwnedTupleGo target it v) (fun _ s₁'=>wpAny (model prog w) A (assign target env v) (fun _ s₂=>
     wpAny (model prog w) A (forIn ifs true fun c r=>if r=true then do let ok←isTrue c env (eval c env);pure (ForInStep.yield ok) else pure (ForInStep.yield r)) (fun ok s₃=>
      if ok=true then wpAny (model prog w) A (eval elt env) (fun x s₄=>
       wpAny (model prog w) A (call (.builtin "list.append") [acc,x]) (fun _ s₅=> ∃m,m<n∧I m s₅) (fun _ _=>False) s₄) (fun _ _=>False) s₃
      else∃m,m<n∧I m s₃) (fun _ _=>False) s₂) (fun _ _=>False) s₁') (fun _ _=>False) s₁) (fun _ _=>False) s)
  (n:Nat) (h:I n s):codeAny (model prog w) A (.compLoop (.ListComp elt [⟨target,iter,ifs,0⟩] scope pos) 0 it acc env) R s:=by
 refine codeAny_loop rfl I (fun n s hI=> ?_) n h
 show wpAny _ A ((compTurn (.ListComp elt [⟨target,iter,ifs,0⟩] scope pos) 0 it acc env).onRaise (fun x=>do noteFrame x env;theTreesLotGoes x)) _ _ s
 refine wpAny_noted ?_
 rw[compTurn_list]
 refine wpAny_bind (wpAny_standAt (wpAny_bind (wpAny_mono (turn n s hI) (fun r s₁ h₁=> ?_) fun _ _ h'=>h'.elim)))
 cases r with
 | none=>exact wpAny_pure h₁
 | some v=>
  refine wpAny_bind (wpAny_mono h₁ (fun _ s₁' h₁'=> ?_) fun _ _ h'=>h'.elim)
  refine wpAny_bind (wpAny_mono h₁' (fun _ s₂ h₂=>wpAny_bind (wpAny_mono h₂ (fun ok s₃ h₃=> ?_) fun _ _ h'=>h'.elim)) fun _ _ h'=>h'.elim)
  cases ok with
  | false=>exact wpAny_pure ⟨rfl,h₃⟩
  | true=>
   exact wpAny_bind (wpAny_bind (wpAny_mono h₃ (fun x s₄ h₄=>wpAny_bind (wpAny_mono h₄ (fun _ s₅ h₅=>wpAny_pure (wpAny_pure ⟨rfl,h₅⟩)) fun _ _ h'=>h'.elim)) fun _ _ h'=>h'.elim))
noncomputable def PIf (X:Cx) (B:Hp) (ifs:List Expr) (ft:Rho→M Bool):Prop:=(ifs=[]∧ft=fun _=>ok true)∨∃c,ifs=[c]∧PDT X B c ft
noncomputable def setS (σ:St):List Nat→List V→St
 | k::ks,v::vs=>setS (σ.set k (some v)) ks vs
 | _,_=>σ
noncomputable def setR (ρ:Rho):List Nat→List D→Rho
 | k::ks,d::ds=>setR (ρ.set k (some (.sh d))) ks ds
 | _,_=>ρ
noncomputable def PDH (X:Cx) (tg:Expr) (ks:List Nat) (G:D→Option (List D)):Prop:=
 PG X tg (fun v σ H Q=> ∃d es,Is X.K H d v∧G d=some es∧∀vs,IsL X.K H es vs→vs.length=ks.length→Q (setS σ ks vs) H)
noncomputable def cmpL (ks:List Nat) (G:D→Option (List D)) (ft:Rho→M Bool) (fe:Rho→M D):List D→Rho→M (List D)
 | [],_=>ok []
 | d::ds,ρ=>match G d with
  | none=>none
  | some es=>match ft (setR ρ ks es) with
   | some (.ok true)=>(match fe (setR ρ ks es) with
    | some (.ok r)=>if r.imm=true then bnd (cmpL ks G ft fe ds ρ) fun rs=>ok (r::rs) else none
    | _=>none)
   | some (.ok false)=>cmpL ks G ft fe ds ρ
   | _=>none
noncomputable def ext (m:Nat) (ρ:Rho):Rho:=ρ++List.replicate m none
noncomputable def cmp (m:Nat) (it:Rho→M (List D)) (ks:List Nat) (G:D→Option (List D)) (ft:Rho→M Bool) (fe:Rho→M D):Rho→M D:=fun ρ=>
 bnd (it ρ) fun ds=>if ds.length≤1000000 then bnd (cmpL ks G ft fe ds (ext m (free ρ))) fun rs=>ok (.lst rs) else none
theorem cmpL_noerr {ks:List Nat} {G:D→Option (List D)} {ft:Rho→M Bool} {fe:Rho→M D}: ∀{ds:List D} {ρ:Rho} {c:Addr},cmpL ks G ft fe ds ρ≠some (.error c)
 | [],ρ,c=>fun h=>by cases h
 | d::ds,ρ,c=>fun h=>by
  unfold cmpL at h
  split at h
  ·cases h
  ·split at h
   ·split at h
    ·split at h
     ·cases q:cmpL ks G ft fe ds ρ with
      | none=>rw[q] at h;cases h
      | some z=>
       cases z with
       | error c'=>exact cmpL_noerr q
       | ok z=>rw[q] at h;cases h
     ·cases h
    ·cases h
   ·exact cmpL_noerr h
   ·cases h
theorem immL_append: ∀(a b:List D),immL (a++b)=(immL a&&immL b)
 | [],b=>by simp[immL]
 | d::a,b=>by
  show (d.imm&&immL (a++b))=((d.imm&&immL a)&&immL b)
  rw[immL_append a b,Bool.and_assoc]
theorem setS_length: ∀{ks:List Nat} {σ:St} {vs:List V},(setS σ ks vs).length=σ.length
 | [],σ,vs=>by cases vs<;>rfl
 | k::ks,σ,[]=>rfl
 | k::ks,σ,v::vs=>by
  show (setS (σ.set k (some v)) ks vs).length=_
  rw[setS_length,List.length_set]
theorem setS_out: ∀{ks:List Nat} {σ:St} {vs:List V} {i:Nat},i∉ks→(setS σ ks vs)[i]? =σ[i]?
 | [],σ,vs,i,_=>by cases vs<;>rfl
 | k::ks,σ,[],i,_=>rfl
 | k::ks,σ,v::vs,i,h=>by
  show (setS (σ.set k (some v)) ks vs)[i]? =_
  rw[setS_out (fun z=>h (List.mem_cons_of_mem _ z)),List.getElem?_set_ne (fun z=>h (by rw[z];exact List.mem_cons_self))]
noncomputable def Shr (K:PySem.W.Frag) (H:Hp) (ρ:Rho) (σ:St):Prop:=ρ.length=σ.length∧∀(i:Nat) (sv:SV),ρ[i]? =some (some sv)→∃d v,sv= .sh d∧σ[i]? =some (some v)∧Is K H d v
theorem Shr.rel {K:PySem.W.Frag} {H:Hp} {ρ:Rho} {σ:St} (h:Shr K H ρ σ):Rel K H ρ σ H:=by
 have e0:Off H (fun _=>none)=H:=by funext b;unfold Off;rw[if_neg (fun⟨i,e⟩=>nomatch e)]
 refine⟨fun _=>none,(by intro _ _ _ q;cases q),(by intro _ _ q;cases q),by rw[e0];exact Same.refl _,h.1,fun i sv q=> ?_⟩
 obtain⟨d,v,rfl,e1,e2⟩:=h.2 i sv q
 exact⟨v,e1,by rw[e0];exact e2⟩
theorem Shr.mono {K:PySem.W.Frag} {H H':Hp} {ρ:Rho} {σ:St} (e:Same H H') (h:Shr K H ρ σ):Shr K H' ρ σ:=⟨h.1,fun i sv q=>by
 obtain⟨d,v,e0,e1,e2⟩:=h.2 i sv q
 exact⟨d,v,e0,e1,e2.mono e⟩⟩
theorem Shr.free {K:PySem.W.Frag} {B H:Hp} {ρ:Rho} {σ:St} (r:Rel K B ρ σ H):Shr K H (free ρ) σ:=by
 refine⟨?_,fun i sv q=> ?_⟩
 ·obtain⟨_,_,_,_,hl,_⟩:=r.freed;exact hl
 ·unfold PU.free at q
  rw[List.getElem?_map] at q
  obtain⟨o,e1,e2⟩:=Option.map_eq_some_iff.mp q
  cases o with
  | none=>cases e2
  | some sv0=>
   have e2':sv0.rel=sv:=Option.some.inj e2
   subst e2'
   obtain⟨v,e3,e4⟩:=r.get e1
   exact⟨sv0.cur,v,by cases sv0<;>rfl,e3,e4⟩
theorem Shr.more {K:PySem.W.Frag} {H:Hp} {ρ:Rho} {σ:St} (m:Nat) (h:Shr K H ρ σ):Shr K H (ext m ρ) (σ++List.replicate m none):=by
 refine⟨by unfold ext;simp[h.1],fun i sv e=> ?_⟩
 have e':ρ[i]? =some (some sv):=by
  unfold ext at e
  by_cases hi:i<ρ.length
  ·rw[List.getElem?_append_left hi] at e;exact e
  ·rw[List.getElem?_append_right (by omega),List.getElem?_replicate] at e
   split at e<;>cases e
 have hi:i<σ.length:=by rw[←h.1];exact (List.getElem?_eq_some_iff.mp e').1
 obtain⟨d,v,e0,e1,e2⟩:=h.2 i sv e'
 exact⟨d,v,e0,by rw[List.getElem?_append_left hi];exact e1,e2⟩
theorem Shr.set {K:PySem.W.Frag} {H:Hp} {ρ:Rho} {σ:St} {k:Nat} {d:D} {v:V} (h:Shr K H ρ σ) (i:Is K H d v):Shr K H (ρ.set k (some (.sh d))) (σ.set k (some v)):=by
 refine⟨by rw[List.length_set,List.length_set,h.1],fun j sv e=> ?_⟩
 by_cases q:j=k
 ·subst q
  have hj:j<ρ.length:=by
   have:=(List.getElem?_eq_some_iff.mp e).1
   rwa [List.length_set] at this
  rw[List.getElem?_set_self hj] at e
  have e':=Option.some.inj (Option.some.inj e)
  exact⟨d,v,e'.symm,List.getElem?_set_self (by rw[←h.1];exact hj),i⟩
 ·rw[List.getElem?_set_ne (Ne.symm q)] at e
  obtain⟨d',v',e0,e1,e2⟩:=h.2 j sv e
  exact⟨d',v',e0,by rw[List.getElem?_set_ne (Ne.symm q)];exact e1,e2⟩
theorem Shr.setAll {K:PySem.W.Frag} {H:Hp}: ∀{ks:List Nat} {ρ:Rho} {σ:St} {ds:List D} {vs:List V},Shr K H ρ σ→IsL K H ds vs→Shr K H (setR ρ ks ds) (setS σ ks vs)
 | [],ρ,σ,ds,vs,h,i=>by cases i<;>exact h
 | k::ks,ρ,σ,_,_,h,.nil=>h
 | k::ks,ρ,σ,d::ds,v::vs,h,.cons i r=>by
  show Shr K H (setR (ρ.set k (some (.sh d))) ks ds) (setS (σ.set k (some v)) ks vs)
  exact Shr.setAll (ks:=ks) (h.set (k:=k) i) r
section
variable {X:Cx} {B:Hp} {scope:Scope} {cl:List (Str×Addr)} {N':List Str} {m:Nat}
theorem vis_cl {env:Env} (hf:frAll cl (relabel scope env)=true) {x:Str} {k:NameKind} (hk:(relabel scope env).names.lookup x=some k) (hc:k= .cell∨k= .free): ∃c,cl.lookup x=some c:=by
 have h:=List.all_eq_true.mp hf _ (lookup_mem hk)
 dsimp only at h
 rw[Bool.or_eq_true] at h
 rcases h with h | h
 ·rcases hc with rfl | rfl<;>simp at h
 ·exact Option.isSome_iff_exists.mp h
theorem comp_start {pins:List (Addr×Obj)} {σ:St} {H:Hp} {s:Shared} {fp:List Addr} {h₁:Heap} {tk:Nat} (I:Inv X pins σ H s) (hkind:scope.kind= .function) (hcl:lkAll cl X.env=true) (hnm:nmAll X.N N' (relabel scope X.env)=true) (hf:frAll cl (relabel scope X.env)=true) (hl:N'.length=X.N.length+m)
  (hfp: ∀b∈fp,FpOk X pins H b∧b<s.heap.objs.size) (hk: ∀b o,s.heap.get? b=some o→h₁.get? b=some o) {mm:Str→Option Value} (hns:h₁.Ns s.heap.objs.size mm):
  Inv (cxC X scope cl N' s.heap.objs.size s H fp) [] (σ++List.replicate m none) H {s with heap:=h₁,toks:=tk}:=by
 have sub: ∀x c,cl.lookup x=some c→X.env.cells.lookup x=some c∧(X.env.kindOf x=some .cell∨X.env.kindOf x=some .free):=fun x c e=>by
  have h:=List.all_eq_true.mp hcl _ (lookup_mem e)
  dsimp only at h
  rw[Bool.and_eq_true,Bool.or_eq_true] at h
  exact⟨beq_iff_eq.mp h.1,h.2.elim (fun z=> .inl (beq_iff_eq.mp z)) fun z=> .inr (beq_iff_eq.mp z)⟩
 have frs_sub: ∀b∈fp,b∉frs X.stack:=fun b hb z=>by
  rcases List.mem_cons.mp (I.stkSub b z) with e | e
  ·exact (hfp b hb).1.2.1 e
  ·exact (hfp b hb).1.2.2.1 e
 refine⟨⟨I.ok.mod,hkind,I.ok.glob,I.ok.blt,Nat.le_refl _,fun x y c h1 h2=>I.ok.inj x y c (sub x c h1).1 (sub y c h2).1,fun x hx=> ?_,(fun x c h=>by cases h),I.ok.hd,I.ok.frames,.inl rfl,fun b hb=> ?_,I.bs,Nat.le_trans I.ok.bsz I.sz,fun b o e hb=> ?_,frs_sub,I.stack,I.stkFree⟩,
  rfl,I.bare,Un.kept hk,⟨mm,hns,fun i x v h1 h2 h3=> ?_⟩,fun x c e=> ?_,I.hok.fresh (Nat.le_refl _),fun x c e=>I.freeC x c (sub x c e).1,(fun p hp=>by cases hp),I.hok.kept hk,?_⟩
 ·rcases hx with hx | hx
  ·exact vis_cl hf hx (.inl rfl)
  ·exact vis_cl hf hx (.inr rfl)
 ·exact⟨Nat.ne_of_lt (hfp b hb).2,fun x c e=>(hfp b hb).1.2.2.2.2.1 x c (sub x c e).1⟩
 ·rcases (hfp b hb).1.2.2.2.1 with z | z
  ·exact I.ok.noex b o e z
  ·exact absurd (Nat.lt_of_lt_of_le (Heap.lt_size e) (Nat.le_trans I.ok.bsz z)) (Nat.lt_irrefl _)
 ·--a name of the outer def
  have hi:i<σ.length:=by
   by_cases hi:i<σ.length
   ·exact hi
   ·rw[List.getElem?_append_right (by omega),List.getElem?_replicate] at h2
    split at h2<;>cases h2
  rw[List.getElem?_append_left hi] at h2
  have hiN:i<X.N.length:=by rw[←I.len];exact hi
  have hn:=List.all_eq_true.mp hnm i (List.mem_range.mpr hiN)
  (try dsimp only at h1)
  (try dsimp only at hn)
  rw[h1] at hn
  (try dsimp only at hn)
  rw[Bool.or_eq_true] at hn
  have hvis: ∃k,(relabel scope X.env).names.lookup x=some k:=by
   rcases h3 with h | h | h
   ·exact⟨_,h⟩
   ·exact⟨_,h⟩
   ·exact⟨_,h⟩
  obtain⟨kx,hkx⟩:=hvis
  rcases hn with hn | hn
  ·rw[Bool.and_eq_true,Bool.or_eq_true] at hn
   have hXN:X.N[i]? =some x:=beq_iff_eq.mp hn.1
   have hcf:(relabel scope X.env).names.lookup x=some .cell∨(relabel scope X.env).names.lookup x=some .free:=hn.2.elim (fun z=> .inl (beq_iff_eq.mp z)) fun z=> .inr (beq_iff_eq.mp z)
   obtain⟨c,hc⟩: ∃c,cl.lookup x=some c:=hcf.elim (fun z=>vis_cl hf z (.inl rfl)) fun z=>vis_cl hf z (.inr rfl)
   obtain⟨m0,hm0,lk⟩:=I.loc
   have hk0:=(sub x c hc).2
   obtain⟨u,ru,lu⟩:=lk i x v hXN h2 (hk0.elim (fun z=> .inr (.inl z)) fun z=> .inr (.inr z))
   refine⟨u,ru,.inr ⟨hcf,c,hc,?_⟩⟩
   rcases lu with⟨z1,_⟩ |⟨_,c',e1,o,ho,hd⟩
   ·rcases hk0 with z | z<;>rw[z] at z1<;>cases z1
   ·rw[(sub x c hc).1] at e1
    cases e1
    exact⟨o,hk _ _ ho,hd⟩
  ·have e:=beq_iff_eq.mp hn
   rw[hkx] at e;cases e
 ·obtain⟨v,z⟩:=I.cell x c (sub x c e).1
  obtain⟨o,ho,hd⟩:=z
  exact⟨v,o,hk _ _ ho,hd⟩
 ·show (σ++List.replicate m none).length=N'.length
  rw[List.length_append,List.length_replicate,I.len,hl]
variable {x:Str} {tg iter elt:Expr} {ifs:List Expr} {pos:Pos} {ks:List Nat} {G:D→Option (List D)} {ft:Rho→M Bool} {fe:Rho→M D} {it:Rho→M (List D)}
noncomputable def PIt (X:Cx) (B:Hp) (tg iter:Expr) (it:Rho→M (List D)):Prop:=
 ∀(pins:List (Addr×Obj)) (s:Shared) (σ:St) (H:Hp) (R:It→Hp→Prop) (ρ:Rho),Inv X pins σ H s→Rel X.K B ρ σ H→
  Res X σ H (fun ds=> ∀J H1,Same H H1→ItD X.K J ds H1→R J H1) (it ρ)→
  wpAny (model X.prog X.w) X.A (eval iter X.env) (fun v s1=>wpAny (model X.prog X.w) X.A (pyIter v) (PIE X pins σ tg R) X.xe s1) X.xe s
noncomputable def OutC (X:Cx) (pins:List (Addr×Obj)) (C:Addr):Prop:=(C∈X.ex∨X.s₀.heap.objs.size≤C)∧C≠X.env.locals∧(∀x c,X.env.cells.lookup x=some c→c≠C)∧∀p∈X.pn++pins,p.1≠C
theorem none_of {H H':Hp} {a:Addr} (e:Same H H') (h:H' a=none):H a=none:=by
 cases q:H a with
 | none=>rfl
 | some o=>rw[e _ _ q] at h;cases h
theorem comp_core (hclos:closureFor scope X.env=pure cl) (hcell: ∀y∈scope.names,y.2≠ .cell) (hkind:scope.kind= .function) (hnames: ∀y∈scope.names,y.2= .local→scope.names.lookup y.1=some .local) (hcl:lkAll cl X.env=true)
  (hnm:nmAll X.N N' (relabel scope X.env)=true) (hf:frAll cl (relabel scope X.env)=true) (hl:N'.length=X.N.length+m) (hks: ∀k∈ks,X.N.length≤k) (hcm:X.calm=true) (hi:PIt X B tg iter it)
  (hg: ∀C s₀ H₀ ex,PDH (cxC X scope cl N' C s₀ H₀ ex) tg ks G) (ht: ∀C s₀ H₀ ex B,PIf (cxC X scope cl N' C s₀ H₀ ex) B ifs ft) (he: ∀C s₀ H₀ ex B,PD (cxC X scope cl N' C s₀ H₀ ex) B elt fe)
  (hs: ∀x,foldedSetIterable iter X.env x=pure x) {p0:Pos} {use:Option (Value→Sem Unit)} {Q':Value→Shared→Prop} {Kp:List D→Prop} {pins:List (Addr×Obj)} {s:Shared} {σ:St} {H:Hp} {ρ:Rho} (I:Inv X pins σ H s) (r:Rel X.K B ρ σ H) (h:Res X σ H (fun d=> ∀rs,d= .lst rs→Kp rs) (cmp m it ks G ft fe ρ))
  (fin: ∀(Dd Cc:Addr) (s3:Shared) (Hj:Hp) (rs:List D),(∀h',Heap.SameBut Cc s3.heap h'→Inv X pins σ Hj {s3 with heap:=h'})→(∃m,s3.heap.Ns Cc m)→OutC X pins Cc→Hj Cc=none→Same H Hj→H Dd=none→immL rs=true→Is X.K Hj (.lst rs) (.ref Dd)→Kp rs→
   compPost (model X.prog X.w) X.A X.xe use Q' (.ref Dd) Cc (.ok .next) s3):
  wpAny (model X.prog X.w) X.A (comprehension (.ListComp elt [⟨tg,iter,ifs,0⟩] scope pos) scope X.env p0 (newList []) false (eval iter X.env) use) Q' X.xe s:=by
 refine wpAny_comprehension_free (use:=use) rfl hs hclos hkind hnames ?_
 show wpAny (model X.prog X.w) X.A (eval iter X.env) _ X.xe s
 refine thn (hi pins s σ H (fun J H1=> ∃ds,Same H H1∧ItD X.K J ds H1∧ds.length≤1000000∧∃rs,cmpL ks G ft fe ds (ext m (free ρ))=ok rs∧Kp rs) ρ I r ((Res.bind h).imp fun ds h1 J H1 e1 i1=> ?_)) fun v s1 h1=>thn h1 fun itv s2 h2=> ?_
 ·split at h1
  ·rename_i hlen
   refine⟨ds,e1,i1,hlen,?_⟩
   have h2:=Res.bind h1
   cases q:cmpL ks G ft fe ds (ext m (free ρ)) with
   | none=>rw[q] at h2;exact False.elim h2
   | some z=>
    cases z with
    | error c=>exact absurd q cmpL_noerr
    | ok rs=>rw[q] at h2;exact⟨rs,rfl,h2 rs rfl⟩
  ·exact False.elim h1
 obtain⟨ia,fp,tn,J,H2,rfl,I2,T,st2,f2,ds,e1,hJ,hlen,rs,hrs,hQ⟩:=h2
 have shr2:Shr X.K H2 (ext m (free ρ)) (σ++List.replicate m none):=((Shr.free r).mono e1).more m
 have fpl: ∀b∈fp,b<s2.heap.objs.size:=fun b hb=>let ⟨o,ho,_⟩:=T.obj 0 _ st2 b hb;Heap.lt_size ho
 refine wpAny_newObj_type (wpAny_newFunctionEnv hcell (by intro y hy;simp at hy) (fun h₁ hns₁ hsb₁=> ?_) hkind)
 dsimp only at hns₁ hsb₁⊢
 have I0:Inv X pins σ (upd H2 s2.heap.objs.size (.lst [])) {s2 with heap:=s2.heap.push {cls:= .type "list",dict:=none,data:= .seq ([]:List Value).toArray}}:=I2.lnew (t':=s2.toks) (its:=[]) .nil (Nat.zero_le _)
 have hsz:(s2.heap.push {cls:= .type "list",dict:=none,data:= .seq ([]:List Value).toArray}).objs.size=s2.heap.objs.size+1:=Heap.size_push _ _
 generalize hP:s2.heap.push {cls:= .type "list",dict:=none,data:= .seq ([]:List Value).toArray}=P2 at hns₁ hsb₁ I0 hsz⊢
 generalize hD:s2.heap.objs.size=Dd at*
 generalize hC:P2.objs.size=Cc at*
 have neDC:Dd≠Cc:=by omega
 have hk01: ∀b o,P2.get? b=some o→h₁.get? b=some o:=fun b o e=>hsb₁.extBut b o (Nat.ne_of_lt (by rw[←hC];exact Heap.lt_size e)) (Heap.get?_push_of_some _ e)
 have hk2P: ∀b o,s2.heap.get? b=some o→P2.get? b=some o:=fun b o e=>by rw[←hP];exact Heap.get?_push_of_some _ e
 have nD2:H2 Dd=none:=I2.hok.fresh (by omega)
 have nC2:H2 Cc=none:=I2.hok.fresh (by omega)
 have sm0:Same H2 (upd H2 Dd (.lst [])):=aAw nD2 _
 have fp0: ∀b∈fp,FpOk X pins (upd H2 Dd (.lst [])) b∧b<P2.objs.size:=fun b hb=>by
  have hb':=fpl b hb
  obtain⟨f0,f1⟩:=f2 b hb
  exact⟨⟨by rw[aB5 (Nat.ne_of_lt hb')];exact f0,f1⟩,by rw[hC,hsz];exact Nat.lt_succ_of_lt hb'⟩
 have IC:=comp_start (tk:=s2.toks+([]:List (Str×Value)).length) I0 hkind hcl hnm hf hl fp0 hk01 (by rw[hC];exact hns₁)
 rw[hC] at IC
 have loop: ∀s₄:Shared,s₄={s2 with heap:=h₁,toks:=s2.toks+([]:List (Str×Value)).length}→
   codeAny (model X.prog X.w) X.A (.compLoop (.ListComp elt [⟨tg,iter,ifs,0⟩] scope pos) 0 (.ref ia) (.ref Dd) (compEnvC scope cl Cc X.env)) (compPost (model X.prog X.w) X.A X.xe use Q' (.ref Dd) Cc) s₄:=by
  rintro s₄ rfl
  refine codeAny_compLoopG (fun n s'=> ∃j Hj vs rj rest,n=ds.length+1-j∧j≤ds.length∧Inv (cxC X scope cl N' Cc {s2 with heap:=P2} (upd H2 Dd (.lst [])) fp) [] (σ++List.replicate m none) Hj s'∧tn j s'.heap∧(∀b∈fp,Hj b=none)∧
   Hj Dd=some (.lst vs)∧IsL X.K Hj rj vs∧immL rj=true∧rj.length≤j∧Same H2 Hj∧cmpL ks G ft fe (ds.drop j) (ext m (free ρ))=ok rest∧rs=rj++rest) ?_ (ds.length+1)
   ⟨0,_,[],[],rs,rfl,Nat.zero_le _,IC,T.keep _ _ _ st2 fun b hb o e=>hk01 _ _ (hk2P _ _ e),fun b hb=>(fp0 b hb).1.1,aA6,.nil,rfl,Nat.le_refl _,sm0,by simpa using hrs,rfl⟩
  rintro n s' ⟨j,Hj,vs,rj,rest,rfl,hj,IJ,stj,frj,hDj,ilj,imj,hlj,smj,hrest,hrs'⟩
  have fpX: ∀{H':Hp},(∀b∈fp,H' b=none)→∀b∈fp,FpOk (cxC X scope cl N' Cc {s2 with heap:=P2} (upd H2 Dd (.lst [])) fp) [] H' b:=fun hn b hb=>
   ⟨hn b hb,(IJ.ok.exf b hb).1,IJ.ok.exfs b hb,.inl hb,(IJ.ok.exf b hb).2,(fun p hp=>by cases hp)⟩
  by_cases hlt:j<ds.length
  ·have hd:ds.drop j=ds[j]::ds.drop (j+1):=List.drop_eq_getElem_cons hlt
   rw[hd] at hrest
   obtain⟨q0,q1,q2,q3⟩:(∃es,G ds[j]=some es)∧True∧True∧True:=by
    refine⟨?_,trivial,trivial,trivial⟩
    cases q:G ds[j] with
    | none=>unfold cmpL at hrest;rw[q] at hrest;cases hrest
    | some es=>exact⟨es,rfl⟩
   obtain⟨es,hG⟩:=q0
   unfold cmpL at hrest
   rw[hG] at hrest
   dsimp only at hrest
   refine thn (T.item (cxC X scope cl N' Cc {s2 with heap:=P2} (upd H2 Dd (.lst [])) fp) rfl rfl rfl hcm j [] s' _ Hj (fun _ _=>False) IJ (fpX frj) stj (hJ.go j Hj smj hlt)) fun r s3 ⟨u,hr,h4⟩=> ?_
   subst hr
   refine thn h4 fun _ s5 ⟨xv,H5,I5,r5,y5,st5,fr5⟩=> ?_
   obtain⟨e5,d,e6,e7⟩:=hJ.yld j Hj xv H5 smj y5 hlt
   replace hDj:=e5 _ _ hDj
   replace ilj:=IsL.mono e5 ilj
   replace smj:=smj.trans e5
   have ed:ds[j]=d:=by rw[List.getElem?_eq_getElem hlt] at e6;exact Option.some.inj e6
   rw[ed] at hG
   have I5':=I5.pinned (fpX fr5) (T.obj _ _ st5)
   rw[List.nil_append] at I5'
   refine thn (hg Cc {s2 with heap:=P2} (upd H2 Dd (.lst [])) fp _ s5 _ H5 xv u (fun σ6 H6=>H6=H5∧∃vs',IsL X.K H5 es vs'∧σ6=setS (σ++List.replicate m none) ks vs') I5' r5 ⟨d,es,e7,hG,fun vs' iv' _=>⟨rfl,vs',iv',rfl⟩⟩) fun _ s6 ⟨σ6,H6,I6,q6⟩=> ?_
   obtain⟨rfl,vs',iv',rfl⟩:=q6
   have rel6:Rel X.K H6 (setR (ext m (free ρ)) ks es) (setS (σ++List.replicate m none) ks vs') H6:=(Shr.setAll (shr2.mono smj) iv').rel
   have turn: ∀(s7:Shared) (H7:Hp) (vs7:List V) (r7 rest7:List D),Inv (cxC X scope cl N' Cc {s2 with heap:=P2} (upd H2 Dd (.lst [])) fp) (pinsAt fp s5.heap) (setS (σ++List.replicate m none) ks vs') H7 s7→H7 Dd=some (.lst vs7)→IsL X.K H7 r7 vs7→immL r7=true→r7.length≤j+1→Same H2 H7→
     cmpL ks G ft fe (ds.drop (j+1)) (ext m (free ρ))=ok rest7→rs=r7++rest7→∃k,k<ds.length+1-j∧∃j' Hj vs rj rest,k=ds.length+1-j'∧j'≤ds.length∧Inv (cxC X scope cl N' Cc {s2 with heap:=P2} (upd H2 Dd (.lst [])) fp) [] (σ++List.replicate m none) Hj s7∧tn j' s7.heap∧(∀b∈fp,Hj b=none)∧
     Hj Dd=some (.lst vs)∧IsL X.K Hj rj vs∧immL rj=true∧rj.length≤j'∧Same H2 Hj∧cmpL ks G ft fe (ds.drop j') (ext m (free ρ))=ok rest∧rs=rj++rest:=by
    intro s7 H7 vs7 r7 rest7 I7 a1 a2 a3 a4 a5 a6 a7
    have pin: ∀b∈fp,∀o,s5.heap.get? b=some o→s7.heap.get? b=some o∧H7 b=none:=fun b hb o e=>
     let z:=I7.pin (b,o) (List.mem_append_right _ (mem_pinsAt hb e));⟨z.1,z.2.1⟩
    refine⟨ds.length+1-(j+1),by omega,j+1,H7,vs7,r7,rest7,rfl,hlt,?_,T.keep _ _ _ st5 fun b hb o e=>(pin b hb o e).1,fun b hb=> ?_,a1,a2,a3,a4,a5,a6,a7⟩
    ·have I8:Inv (cxC X scope cl N' Cc {s2 with heap:=P2} (upd H2 Dd (.lst [])) fp) [] (setS (σ++List.replicate m none) ks vs') H7 s7:=I7.pins_of (fun p hp=>by cases hp)
     refine I8.weak (by rw[setS_length]) fun i v e=> ?_
     rw[setS_out]
     ·exact e
     ·intro hi
      have:=hks i hi
      rw[List.getElem?_append_right (by rw[I2.len];exact this),List.getElem?_replicate] at e
      split at e<;>cases e
    ·obtain⟨o,ho,_⟩:=T.obj _ _ st5 b hb
     exact (pin b hb o ho).2
   have tst:wpAny (model X.prog X.w) X.A (forIn ifs true fun c r=>if r=true then do let ok←isTrue c (compEnvC scope cl Cc X.env) (eval c (compEnvC scope cl Cc X.env));pure (ForInStep.yield ok) else pure (ForInStep.yield r))
     (fun bb s7=> ∃H7,Inv (cxC X scope cl N' Cc {s2 with heap:=P2} (upd H2 Dd (.lst [])) fp) (pinsAt fp s5.heap) (setS (σ++List.replicate m none) ks vs') H7 s7∧Same H6 H7∧ft (setR (ext m (free ρ)) ks es)=ok bb) (fun _ _=>False) s6:=by
    rcases ht Cc {s2 with heap:=P2} (upd H2 Dd (.lst [])) fp H6 with⟨rfl,hft⟩ |⟨c,rfl,hft⟩
    ·exact wpAny_tests_nil ⟨H6,I6,Same.refl _,by rw[hft]⟩
    ·cases qt:ft (setR (ext m (free ρ)) ks es) with
     | none=>rw[qt] at hrest;cases hrest
     | some z=>
      cases z with
      | error ce=>rw[qt] at hrest;cases hrest
      | ok bb=>
       refine wpAny_tests_one (thn (hft _ s6 _ H6 (fun b H7=>Same H6 H7∧b=bb) I6 ⟨_,rel6,by rw[qt];exact fun H7 e=>⟨e,rfl⟩⟩) fun b s7 ⟨H7,I7,e,eb⟩=> ?_)
       subst eb
       exact⟨H7,I7,e,rfl⟩
   refine thn tst fun bb s7 ⟨H7,I7,sm7,hbb⟩=> ?_
   rw[hbb] at hrest
   cases bb with
   | false=>
    rw[if_neg (by decide)]
    exact turn s7 H7 vs rj rest I7 (sm7 _ _ hDj) (ilj.mono sm7) imj (by omega) (smj.trans sm7) hrest hrs'
   | true=>
    rw[if_pos rfl]
    dsimp only[ok] at hrest
    cases qe:fe (setR (ext m (free ρ)) ks es) with
    | none=>rw[qe] at hrest;cases hrest
    | some z=>
     cases z with
     | error ce=>rw[qe] at hrest;cases hrest
     | ok rr=>
      rw[qe] at hrest
      dsimp only at hrest
      split at hrest
      ·rename_i him
       obtain⟨rest',er,er2⟩:=bnd_eq_ok hrest
       have er3:=aC3 er2
       refine thn (he Cc {s2 with heap:=P2} (upd H2 Dd (.lst [])) fp H6 _ s7 _ H7 (fun v H8=>Same H7 H8∧Is X.K H8 rr v) I7 ⟨_,rel6.mono sm7,by rw[qe];exact fun v H8 e i=>⟨e,i⟩⟩) fun u8 s8 ⟨v8,H8,I8,rv8,sm8,i8⟩=> ?_
       have hD8:H8 Dd=some (.lst vs):=sm8 _ _ (sm7 _ _ hDj)
       have hlv:vs.length=rj.length:=ilj.length.symm
       have il8:=(ilj.mono sm7).mono sm8
       have al: ∀o,(∀b xs,H8 b=some (.tup xs)→upd H8 Dd (.lst o) b=some (.tup xs))∧(∀b oo u,H8 b=some (.frz oo u)→upd H8 Dd (.lst o) b=some (.frz oo u)):=fun o=>
        ⟨fun b xs e=>by rw[aB5 (fun z=>by subst z;rw[hD8] at e;cases e)];exact e,fun b oo u e=>by rw[aB5 (fun z=>by subst z;rw[hD8] at e;cases e)];exact e⟩
       refine thn (mt_append _ s8 _ H8 (.ref Dd) [v8] (.ref Dd) [u8] (fun v9 H9=>H9=upd H8 Dd (.lst (vs++ [v8]))) I8 rfl (.cons rv8 .nil) ⟨Dd,vs,v8,rfl,rfl,hD8,by have:=sizeLine_eq;omega,rfl⟩) fun u9 s9 ⟨v9,H9,I9,_,e9⟩=> ?_
       subst e9
       refine turn s9 _ (vs++ [v8]) (rj++ [rr]) rest' I9 aA6 ((IsL.alike (al _).1 (al _).2 imj il8).append (.cons (Is.alike (al _).1 (al _).2 him i8) .nil)) ?_ (by rw[List.length_append];simp only[List.length_cons,List.length_nil];omega) ?_ er (by rw[hrs',←er3,List.append_assoc];rfl)
       ·rw[immL_append,imj]
        show (rr.imm&&true)=true
        rw[him]
        rfl
       ·intro b o e
        rw[aB5 (aEd e nD2)]
        exact sm8 _ _ (sm7 _ _ (smj _ _ e))
      ·cases hrest
  ·have ej:j=ds.length:=by omega
   subst ej
   rw[List.drop_eq_nil_of_le (Nat.le_refl _)] at hrest
   have er:=aC3 hrest
   refine thn (T.done (cxC X scope cl N' Cc {s2 with heap:=P2} (upd H2 Dd (.lst [])) fp) rfl rfl rfl hcm ds.length [] s' _ Hj (fun _ _=>False) IJ (fpX frj) stj (hJ.stop _ Hj smj (Nat.le_refl _))) fun r s3 ⟨hr,I3⟩=> ?_
   subst hr
   obtain⟨mm,hmm,_⟩:=I3.loc
   have nCj:Hj Cc=none:=I3.free
   have zC:=I2.fpOk (b:=Cc) (H':=H2) (by rw[hD,hsz];exact Nat.le_succ _) nC2
   have ers:rs=rj:=by rw[hrs',←er,List.append_nil]
   refine fin Dd Cc s3 Hj rs ?_ ⟨mm,hmm⟩ ⟨zC.2.2.2.1,zC.2.1,zC.2.2.2.2.1,zC.2.2.2.2.2⟩ nCj (e1.trans smj) (none_of e1 nD2) (by rw[ers];exact imj) (.lst (SqL.of hDj) (by rw[ers];exact ilj)) hQ
   intro h' hsb
   have U1:Un (frs X.stack) (Cc::fp) H2 (upd H2 Dd (.lst [])) s2.heap P2:=Un.laid hk2P (by rw[hD];exact Nat.le_refl _) nD2
   have U2:Un (frs X.stack) (Cc::fp) (upd H2 Dd (.lst [])) Hj P2 s3.heap:=I3.base.mono (fun _ z=>z) (fun b z=>List.mem_cons_of_mem _ z)
   have kp: ∀b o,b≠Cc→s3.heap.get? b=some o→h'.get? b=some o:=fun b o hb e=>hsb.extBut b o hb e
   have nc: ∀b,b∉Cc::fp→b≠Cc:=fun b hb z=>hb (by rw[z];exact List.mem_cons_self)
   have U3:Un (frs X.stack) (Cc::fp) Hj Hj s3.heap h':=⟨fun b o e _ _ hx=>kp b o (nc b hx) e,fun b o e _ _ hx=>⟨o.slots,kp b o (nc b hx) e⟩,fun _ _ _ n _=>n,fun b o e hx=>⟨o,kp b o (nc b hx) e⟩,fun _ _ e=>e,fun _ _ _ e=>e,fun b ps e=>⟨#[],by rw[e];simp⟩⟩
   have hok':HOk X.prog X.w Hj h':=fun b u e=>(I3.hok b u e).stay (fun c v hc q=>kp c v (fun z=>by
    rcases hc with hc | hc
    ·rw[hc] at z;rw[z,nCj] at e;cases e
    ·rw[z,nCj] at hc;cases hc) q) (fun _ q=>q) fun _ _ q=>q
   have IX:Inv X pins σ Hj {s3 with heap:=h'}:=I2.call' (ch:=Cc::fp) I3.os ((U1.trans U2).trans U3) hok' I3.bare fun b hb=>by
    rcases List.mem_cons.mp hb with rfl | hb
    ·have z:=I2.fpOk (b:=b) (H':=H2) (by rw[hD,hsz];exact Nat.le_succ _) nC2
     exact⟨z.2.2.2.1,z.2.1,z.2.2.2.2.1,z.2.2.2.2.2⟩
    ·obtain⟨z0,z1,z2,z3,z4,z5⟩:=f2 b hb
     exact⟨z3,z1,z4,z5⟩
   exact IX
 exact codeAny_compStart_list (loop _ rfl) (T.self _ 0 _ _ _ (T.keep _ _ _ st2 fun b hb o e=>hk01 _ _ (hk2P _ _ e)) (loop _ rfl))
theorem pd_comp (hclos:closureFor scope X.env=pure cl) (hcell: ∀y∈scope.names,y.2≠ .cell) (hkind:scope.kind= .function) (hnames: ∀y∈scope.names,y.2= .local→scope.names.lookup y.1=some .local) (hcl:lkAll cl X.env=true)
  (hnm:nmAll X.N N' (relabel scope X.env)=true) (hf:frAll cl (relabel scope X.env)=true) (hl:N'.length=X.N.length+m) (hks: ∀k∈ks,X.N.length≤k) (hcm:X.calm=true) (hi:PIt X B tg iter it)
  (hg: ∀C s₀ H₀ ex,PDH (cxC X scope cl N' C s₀ H₀ ex) tg ks G) (ht: ∀C s₀ H₀ ex B,PIf (cxC X scope cl N' C s₀ H₀ ex) B ifs ft) (he: ∀C s₀ H₀ ex B,PD (cxC X scope cl N' C s₀ H₀ ex) B elt fe)
  (hs: ∀x,foldedSetIterable iter X.env x=pure x:=by intro _;rfl):PD X B (.ListComp elt [⟨tg,iter,ifs,0⟩] scope pos) (cmp m it ks G ft fe):=by
 intro pins s σ H Q I h
 obtain⟨ρ,r,h⟩:=h
 rw[eval_ListComp]
 refine comp_core (use:=none) (Q':=EP X pins σ Q) (Kp:=fun rs=> ∀v H',Same H H'→Is X.K H' (.lst rs) v→Q v H') hclos hcell hkind hnames hcl hnm hf hl hks hcm hi hg ht he hs I r (h.imp fun d q rs e v H' sm i=>by subst e;exact q v H' sm i) ?_
 intro Dd Cc s3 Hj rs IX ⟨mm,hmm⟩ _ _ sm _ _ is hQ
 exact⟨mm,hmm,fun h' hsb=>⟨.ref Dd,Hj,IX h' hsb,rfl,hQ _ Hj sm is⟩⟩
theorem Inv.offC {pins:List (Addr×Obj)} {s:Shared} {σ:St} {H:Hp} {C:Addr} {h':Heap} (I:Inv X pins σ H s) (f:OutC X pins C) (hC:H C=none) (hsb:Heap.SameBut C s.heap h'):Inv X pins σ H {s with heap:=h'}:=by
 have kp: ∀b o,b≠C→s.heap.get? b=some o→h'.get? b=some o:=fun b o hb e=>hsb.extBut b o hb e
 have nc: ∀b,b∉[C]→b≠C:=fun b hb z=>hb (by rw[z];exact List.mem_cons_self)
 have U:Un (frs X.stack) [C] H H s.heap h':=⟨fun b o e _ _ hx=>kp b o (nc b hx) e,fun b o e _ _ hx=>⟨o.slots,kp b o (nc b hx) e⟩,fun _ _ _ n _=>n,fun b o e hx=>⟨o,kp b o (nc b hx) e⟩,fun _ _ e=>e,fun _ _ _ e=>e,fun b ps e=>⟨#[],by rw[e];simp⟩⟩
 have hok':HOk X.prog X.w H h':=fun b u e=>(I.hok b u e).stay (fun c v hc q=>kp c v (fun z=>by
  rcases hc with hc | hc
  ·rw[hc] at z;rw[z,hC] at e;cases e
  ·rw[z,hC] at hc;cases hc) q) (fun _ q=>q) fun _ _ q=>q
 exact I.call' (s':={s with heap:=h'}) (ch:=[C]) rfl U hok' I.bare fun b hb=>by
  rw[List.mem_singleton] at hb
  subst hb
  exact f
end
structure HD where
 m:Addr→Option Bool
 i:Nat
 G:Rho→Option Out
section
variable {X:Cx} {B:Hp} {tg iter c:Expr} {fa:Rho→M D} {ft:Rho→M Bool} {pos p:Pos} {x y:Str} {k k2:Nat}
noncomputable def itE (f:Rho→M D):Rho→M (List D):=fun ρ=>bnd (f ρ) itD
theorem pit_D (h:PD X B iter fa):PIt X B tg iter (itE fa):=by
 intro pins s σ H R ρ I r q
 refine pi_D (tg:=tg) h pins s σ H R I ⟨ρ,r,(Res.bind q).imp fun d q1 v H1 e1 i1=> ?_⟩
 cases i1 with
 | lst hh rr=>exact .inl ⟨_,rfl,⟨_,hh⟩,q1 _ H1 e1 (itd_list hh rr)⟩
 | tup hh rr=>exact .inr ⟨_,rfl,⟨_,hh.sq⟩,q1 _ H1 e1 (itd_tup hh rr)⟩
 | _=>exact False.elim q1
noncomputable def rngD:D→M (List D)
 | .int j=>if-(2^62)≤j∧j<2^62 then ok (rng 0 j.toNat) else none
 | _=>none
noncomputable def itR (f:Rho→M D):Rho→M (List D):=fun ρ=>bnd (f ρ) rngD
theorem pit_r1 (hg:Gl X "range") (hm:X.mg "range"=none) (h:PD X B c fa) (hs:aD0 c=true:=by rfl):PIt X B tg (.Call (.Name "range" p) [c] [] pos) (itR fa):=by
 intro pins s σ H R ρ I r q
 refine pi_range1 (tg:=tg) hg hm (aCh h aD9 (aBg hs)) (star1 hs) pins s σ H R I ⟨ρ,r,(Res.bind q).imp fun d q1 v H1 e1 i1=> ?_⟩
 cases i1 with
 | int j=>
  dsimp only[rngD] at q1
  split at q1
  ·rename_i hb;exact⟨_,rfl,hb.1,hb.2,q1 _ H1 e1 (itd_rng 0 _ H1)⟩
  ·exact False.elim q1
 | _=>exact False.elim q1
noncomputable def h1:D→Option (List D):=fun d=>some [d]
theorem pdn_1 (hN:X.N.Nodup) (hi:X.N[k]? =some x) (hx:Loc X.env.scope x) (hf:X.fn x=true∨X.env.scope.names.lookup x=some .local:=by first | exact .inl rfl | exact .inr rfl | assumption):PDH X (.Name x pos) [k] h1:=by
 intro pins s σ H v u Q I r h
 obtain⟨d,es,i,e,q⟩:=h
 cases e
 exact pg_name hN hi hx hf pins s σ H v u Q I r (q [v] (.cons i .nil) rfl)
noncomputable def h2:D→Option (List D)
 | .tup [a,b]=>some [a,b]
 | _=>none
theorem pdn_2 {p1 p2:Pos} {kt:Nat} (hc:X.calm=true) (hN:X.N.Nodup) (hi:X.N[k]? =some x) (hx:Loc X.env.scope x) (hj:X.N[k2]? =some y) (hy:Loc X.env.scope y)
  (hf:X.fn x=true∨X.env.scope.names.lookup x=some .local:=by first | exact .inl rfl | exact .inr rfl | assumption) (hf2:X.fn y=true∨X.env.scope.names.lookup y=some .local:=by first | exact .inl rfl | exact .inr rfl | assumption):
  PDH X (.Tuple [.Name x p1,.Name y p2] kt pos) [k,k2] h2:=by
 intro pins s σ H v u Q I r h
 obtain⟨d,es,i1,e,q⟩:=h
 unfold h2 at e
 split at e
 ·rename_i a b
  cases e
  cases i1 with
  | tup hh rr=>
   cases rr with
   | cons ia rr=>
    cases rr with
    | cons ib rr=>
     cases rr
     refine pg_tup (n:=2) hc (pgs_cons (pg_name hN hi hx hf) (pgs_cons (pg_name hN hj hy hf2) pgs_nil)) rfl rfl pins s σ H _ u Q I r ?_
     exact⟨_,_,rfl,hh,rfl,_,_,rfl,_,_,rfl,rfl,q [_,_] (.cons ia (.cons ib .nil)) rfl⟩
 ·cases e
theorem pif_none:PIf X B [] (fun _=>ok true):= .inl ⟨rfl,rfl⟩
theorem pif_some (h:PDT X B c ft):PIf X B [c] ft:= .inr ⟨c,rfl,h⟩
end
section
variable {X:Cx} {B:Hp} {e:Expr} {fa:Rho→M D} {pos p:Pos}
noncomputable def toT:D→M D
 | .lst ds=>ok (.tup ds)
 | .tup ds=>ok (.tup ds)
 | _=>none
noncomputable def toL:D→M D
 | .lst ds=>ok (.lst ds)
 | .tup ds=>ok (.lst ds)
 | _=>none
theorem pd_tuple (hg:Gl X "tuple") (hm:X.mg "tuple"=none) (ha:PD X B e fa) (hs:aD0 e=true:=by rfl):PD X B (.Call (.Name "tuple" p) [e] [] pos) (f1 toT fa):=by
 refine PE.of (pe_callTy call_tuple_of hg hm boot_tuple (aCh ha aD9 (aBg hs)) (he:=aBg hs) (hpl:=by rfl)) fun σ H Q h=> ?_
 obtain⟨ρ,r1,h⟩:=h
 refine⟨ρ,r1,(Res.bind h).imp fun d q1 v H1 e1 i1=> ?_⟩
 cases i1 with
 | lst hh rr=>exact⟨_,_,rfl,.inl ⟨hh,fun l hl=>q1 _ _ (e1.trans (aAw hl _)) (.tup (TQ.of aA6) (rr.mono (aAw hl _)))⟩⟩
 | tup hh rr=>exact⟨_,_,rfl,.inr ⟨hh.sq,q1 _ H1 e1 (.tup hh rr)⟩⟩
 | _=>exact False.elim q1
theorem pd_list (hg:Gl X "list") (hm:X.mg "list"=none) (ha:PD X B e fa) (hs:aD0 e=true:=by rfl):PD X B (.Call (.Name "list" p) [e] [] pos) (f1 toL fa):=by
 refine PE.of (pe_callTy call_list_of hg hm boot_list (aCh ha aD9 (aBg hs)) (he:=aBg hs) (hpl:=by rfl)) fun σ H Q h=> ?_
 obtain⟨ρ,r1,h⟩:=h
 refine⟨ρ,r1,(Res.bind h).imp fun d q1 v H1 e1 i1=> ?_⟩
 cases i1 with
 | lst hh rr=>exact⟨_,_,rfl,.inl hh,fun l hl=>q1 _ _ (e1.trans (aAw hl _)) (.lst (SqL.of aA6) (rr.mono (aAw hl _)))⟩
 | tup hh rr=>exact⟨_,_,rfl,.inr hh,fun l hl=>q1 _ _ (e1.trans (aAw hl _)) (.lst (SqL.of aA6) (rr.mono (aAw hl _)))⟩
 | _=>exact False.elim q1
end
noncomputable def flD:D→Option V
 | .non=>some .non
 | .bl b=>some (.bl b)
 | .int i=>some (.int i)
 | .str x=>some (.str x)
 | _=>none
noncomputable def flL:List D→Option (List V)
 | []=>some []
 | d::ds=>match flD d,flL ds with
  | some v,some vs=>some (v::vs)
  | _,_=>none
noncomputable def seqD:D→Option (List D)
 | .lst ds=>some ds
 | .tup ds=>some ds
 | _=>none
noncomputable def gIn (neg:Bool) (x y:D):M D:=match flD x,(seqD y).bind flL with
 | some v,some vs=>ok (.bl (if neg then !inV v vs else inV v vs))
 | _,_=>none
section
variable {K:PySem.W.Frag} {H:Hp}
theorem fl_is {d:D} {v v':V} (i:Is K H d v) (h:flD d=some v'):v=v'∧flatV v=true:=by
 cases i with
 | non=>cases h;exact⟨rfl,rfl⟩
 | bl b=>cases h;exact⟨rfl,rfl⟩
 | int b=>cases h;exact⟨rfl,rfl⟩
 | str b=>cases h;exact⟨rfl,rfl⟩
 | _=>cases h
theorem flL_is: ∀{ds:List D} {vs vs':List V},IsL K H ds vs→flL ds=some vs'→vs=vs'∧vs.all flatV=true
 | _,_,_,.nil,h=>by cases h;exact⟨rfl,rfl⟩
 | _,_,_,.cons (d:=d) (ds:=ds) i r,h=>by
  unfold flL at h
  split at h
  ·rename_i v0 vs0 h1 h2
   cases h
   obtain⟨e1,f1⟩:=fl_is i h1
   obtain⟨e2,f2⟩:=flL_is r h2
   exact⟨by rw[e1,e2],by rw[List.all_cons,f1,f2];rfl⟩
  ·cases h
end
section
variable {X:Cx} {B:Hp} {a b:Expr} {fa fb:Rho→M D} {pos:Pos}
theorem r_in (neg:Bool):R2ok X (rIn X.K neg) (gIn neg):=by
 intro H x y dx dy d Q ix iy e q
 unfold gIn at e
 split at e
 ·rename_i v vs h1 h2
  cases e
  obtain⟨e1,f1⟩:=fl_is ix h1
  subst e1
  cases iy with
  | lst hh rr=>
   obtain⟨e2,f2⟩:=flL_is rr h2
   subst e2
   exact⟨_,_,rfl,.inl hh,f1,f2,q _ H (Same.refl H) (.bl _)⟩
  | tup hh rr=>
   obtain⟨e2,f2⟩:=flL_is rr h2
   subst e2
   exact⟨_,_,rfl,.inr hh,f1,f2,q _ H (Same.refl H) (.bl _)⟩
  | _=>cases h2
 ·cases e
theorem in_noerr (neg:Bool):NoErr (gIn neg):=fun x y c h=>by
 unfold gIn at h
 split at h
 ·cases h
 ·cases h
theorem pdt_in (ha:PD X B a fa) (hb:PD X B b fb) (hm:behindInMarks .In b=false:=by rfl):PDT X B (.Compare a [.In] [b] pos) (aAt (b2 (gIn false) fa fb)):=aEc op_in_seq (r_in false) (in_noerr false) ha hb hm
theorem pdt_notin (ha:PD X B a fa) (hb:PD X B b fb) (hm:behindInMarks .NotIn b=false:=by rfl):PDT X B (.Compare a [.NotIn] [b] pos) (aAt (b2 (gIn true) fa fb)):=aEc op_notIn_seq (r_in true) (in_noerr true) ha hb hm
theorem flL_strs (ss:List Str):flL (ss.map D.str)=some (ss.map V.str):=by
 induction ss with
 | nil=>rfl
 | cons x r ih=>rw[List.map_cons,flL,ih];rfl
theorem inV_strs (x:Str) (ss:List Str):inV (.str x) (ss.map V.str)=ss.contains x:=by
 unfold inV
 induction ss with
 | nil=>rfl
 | cons y r ih=>
  rw[List.map_cons,List.any_cons,ih,List.contains_cons]
  show ((decide (y=x)) || _)=_
  by_cases e:x=y
  ·subst e;simp
  ·have e':¬y=x:=fun z=>e z.symm
   simp[e,e']
end
theorem lk_nil {env:Env}:lkAll [] env=true:=rfl
theorem lk_cons {env:Env} {x:Str} {c:Addr} {cl:List (Str×Addr)} (h1:env.cells.lookup x=some c) (h2:env.kindOf x=some .cell∨env.kindOf x=some .free) (r:lkAll cl env=true):lkAll ((x,c)::cl) env=true:=by
 unfold lkAll at r⊢
 rw[List.all_cons,r,Bool.and_true]
 dsimp only
 rw[h1]
 rcases h2 with h2 | h2<;>rw[h2]<;>simp
section
variable {X:Cx} {B:Hp} {scope:Scope} {cl:List (Str×Addr)} {N':List Str} {m:Nat} {tg iter elt:Expr} {ifs:List Expr} {pos:Pos} {ks:List Nat} {G:D→Option (List D)} {ft:Rho→M Bool} {fe:Rho→M D} {it:Rho→M (List D)}
theorem pd_comp1 (hclos:closureFor scope X.env=pure cl) (hcell:scope.names.all (fun y=>y.2 != .cell)=true) (hkind:scope.kind= .function) (hnames:scope.names.all (fun y=>y.2 != .local || scope.names.lookup y.1==some .local)=true) (hcl:lkAll cl X.env=true)
  (hnm:nmAll X.N N' (relabel scope X.env)=true) (hf:frAll cl (relabel scope X.env)=true) (hl:N'.length=X.N.length+m) (hks:ks.all (fun k=>decide (X.N.length≤k))=true) (hcm:X.calm=true) (hi:PIt X B tg iter it)
  (hg: ∀C s₀ H₀ ex,PDH (cxC X scope cl N' C s₀ H₀ ex) tg ks G) (ht: ∀C s₀ H₀ ex B,PIf (cxC X scope cl N' C s₀ H₀ ex) B ifs ft) (he: ∀C s₀ H₀ ex B,PD (cxC X scope cl N' C s₀ H₀ ex) B elt fe)
  (hs: ∀x,foldedSetIterable iter X.env x=pure x:=by intro _;rfl):PD X B (.ListComp elt [⟨tg,iter,ifs,0⟩] scope pos) (cmp m it ks G ft fe):=
 pd_comp hclos (fun y hy=>by have:=List.all_eq_true.mp hcell y hy;simpa using this) hkind
  (fun y hy z=>by have:=List.all_eq_true.mp hnames y hy;rw[z] at this;simpa using this) hcl hnm hf hl
  (fun k hk=>of_decide_eq_true (List.all_eq_true.mp hks k hk)) hcm hi hg ht he hs
end
section
variable {X:Cx} {B:Hp} {a b:Expr} {fa fb:Rho→M D} {pos:Pos}
theorem OpR.or {f:Value→Value→Sem Value} {r r':R2} (h:OpR X f r) (h':OpR X f r'):OpR X f (fun x y H Q=>r x y H Q∨r' x y H Q):=by
 intro pins s σ H x y v u Q I rx ry q
 rcases q with q | q
 ·exact h pins s σ H x y v u Q I rx ry q
 ·exact h' pins s σ H x y v u Q I rx ry q
noncomputable def rCat0 (K:PySem.W.Frag):R2:=fun x y H Q=> ∃a b ys,x= .ref a∧y= .ref b∧SqT K H a []∧SqT K H b ys∧Q (.ref b) H
theorem op_cat0:OpR X (binaryOp .Add) (rCat0 X.K):=by
 intro pins s σ H x y v u Q I rx ry h
 obtain⟨a,b,ys,rfl,rfl,ha,hb,q⟩:=h
 cases rx
 cases ry
 obtain⟨its,r1,p1,_⟩:=I.tuple ha
 obtain⟨its2,r2,p2,_⟩:=I.tuple hb
 have e1:its=[]:=r1.nil_iff.mpr rfl
 subst e1
 obtain⟨⟨c1,d1,x1,l1⟩,o1,k1,n1,z1⟩:=p1
 obtain⟨⟨c2,d2,x2,l2⟩,o2,k2,n2,z2⟩:=p2
 dsimp only at k1 z1 k2 z2
 subst k1 z1 k2 z2
 exact concat_meets ⟨_,o1,rfl⟩ ⟨_,o2,rfl⟩ noFill_tuple_add seq_tuple_add PySem.F.slot_tuple_add PySem.F.entry_tuple_add (PySem.F.args_tuple_add_2 _ _)
  (tuple_addW0 a b _ _ n1 n2 d1 d2 l1 l2 rfl) ⟨o1,o2,⟨.ref b,H,I,rfl,q⟩⟩
noncomputable def rCatG (K:PySem.W.Frag):R2:=fun x y H Q=> ∃a b xs ys,x= .ref a∧y= .ref b∧SqL K H a xs∧SqL K H b ys∧xs.length+ys.length≤sizeLine∧∀p,H p=none→Q (.ref p) (upd H p (.lst (xs++ys)))
theorem op_catG:OpR X (binaryOp .Add) (rCatG X.K):=by
 intro pins s σ H x y v u Q I rx ry h
 obtain⟨a,b,xs,ys,rfl,rfl,ha,hb,hz,q⟩:=h
 cases rx
 cases ry
 obtain⟨its,r1,p1,_⟩:=I.list ha
 obtain⟨its2,r2,p2,_⟩:=I.list hb
 have hl1:=r1.length
 have hl2:=r2.length
 obtain⟨⟨c1,d1,x1,l1⟩,n1,o1,k1,_,z1⟩:=p1
 obtain⟨⟨c2,d2,x2,l2⟩,n2,o2,k2,_,z2⟩:=p2
 dsimp only at k1 z1 k2 z2
 subst k1 z1 k2 z2
 refine concat_meets ⟨_,o1,rfl⟩ ⟨_,o2,rfl⟩ noFill_list_add seq_list_add PySem.F.slot_list_add PySem.F.entry_list_add (PySem.F.args_list_add_2 _ _)
  (list_addW a b _ _ n1 n2 d1 d2 l1 l2 (by rw[List.size_toArray,List.size_toArray,←hl1,←hl2];exact hz)) ⟨o1,o2,?_⟩
 have ea:its.toArray++its2.toArray=(its++its2).toArray:=by simp
 rw[ea]
 exact⟨.ref _,_,I.lnew (t':=s.toks) (r1.append r2) (by rw[List.length_append];exact hz),rfl,q _ I.fresh⟩
noncomputable def aAv:D→D→M D
 | .int i,.int j=>ok (.int (i+j))
 | .str i,.str j=>if i.length+j.length≤100000 then ok (.str (i++j)) else none
 | .tup xs,.tup ys=>if xs.length+ys.length≤100000 then ok (.tup (xs++ys)) else none
 | .lst xs,.lst ys=>if xs.length+ys.length≤100000 then ok (.lst (xs++ys)) else none
 | _,_=>none
theorem n_plus:NoErr aAv:=by
 intro x y c h
 unfold aAv at h
 (repeat' split at h)<;>cases h
theorem line5 {n:Nat} (h:n≤100000):n≤sizeLine:=Nat.le_trans h (by decide)
noncomputable def rPlus (K:PySem.W.Frag):R2:=fun x y H Q=>(∃i j,x= .int i∧y= .int j∧Q (.int (i+j)) H)∨(∃i j,x= .str i∧y= .str j∧i.length+j.length≤sizeLine∧Q (.str (i++j)) H)∨rCat0 K x y H Q∨rCatT K x y H Q∨rCatG K x y H Q
theorem op_plus:OpR X (binaryOp .Add) (rPlus X.K):=OpR.or op_add (OpR.or op_add_str (OpR.or op_cat0 (OpR.or op_catT op_catG)))
theorem r_plus:R2ok X (rPlus X.K) aAv:=by
 intro H x y dx dy d Q ix iy e q
 unfold aAv at e
 split at e
 ·cases ix;cases iy;cases e
  exact .inl ⟨_,_,rfl,rfl,q _ H (Same.refl H) (.int _)⟩
 ·split at e
  ·rename_i hz
   cases ix;cases iy;cases e
   exact .inr (.inl ⟨_,_,rfl,rfl,line5 hz,q _ H (Same.refl H) (.str _)⟩)
  ·cases e
 ·split at e
  ·rename_i hz
   cases ix with
   | tup h1 r1=>
    cases iy with
    | tup h2 r2=>
     cases e
     rw[r1.length,r2.length] at hz
     cases r1 with
     | nil=>exact .inr (.inr (.inl ⟨_,_,_,rfl,rfl,h1,h2.sq,q _ H (Same.refl H) (.tup h2 r2)⟩))
     | cons i1 r1=>
      refine .inr (.inr (.inr (.inl ⟨_,_,_,_,rfl,rfl,h1,h2,by simp,line5 hz,fun z=> ?_,fun z p hp=> ?_⟩)))
      ·subst z
       cases r2
       exact q _ H (Same.refl H) (by rw[List.append_nil];exact .tup h1 (.cons i1 r1))
      ·exact q _ _ (aAw hp _) (.tup (TQ.of aA6) ((IsL.append (.cons i1 r1) r2).mono (aAw hp _)))
  ·cases e
 ·split at e
  ·rename_i hz
   cases ix with
   | lst h1 r1=>
    cases iy with
    | lst h2 r2=>
     cases e
     rw[r1.length,r2.length] at hz
     exact .inr (.inr (.inr (.inr ⟨_,_,_,_,rfl,rfl,h1,h2,line5 hz,fun p hp=>q _ _ (aAw hp _) (.lst (SqL.of aA6) ((IsL.append r1 r2).mono (aAw hp _)))⟩)))
  ·cases e
 ·cases e
theorem aA4 (ha:PD X B a fa) (hb:PD X B b fb):PD X B (.BinOp a .Add b pos) (b2 aAv fa fb):=pd_op op_plus r_plus n_plus ha hb
end
section
variable {X:Cx} {B:Hp} {a b:Expr} {fa fb:Rho→M D} {pos:Pos}
noncomputable def repS (x:Str) (n:Nat):Str:=⟨(List.replicate n x.cps).foldl (· ++ ·) #[]⟩
noncomputable def rMulS:R2:=fun x y H Q=> ∃z k,x= .str z∧y= .int k∧0≤k∧z.length≤1000∧k≤1000∧Q (.str (repS z k.toNat)) H
theorem rep0 (x:Str):repS x 0=Str.empty:=rfl
theorem rep1 (x:Str):repS x 1=x:=by
 unfold repS
 simp
theorem repE {x:Str} (h:x.length=0) (n:Nat):repS x n=x:=by
 obtain⟨c⟩:=x
 have e:c= #[]:=Array.size_eq_zero_iff.mp h
 subst e
 unfold repS
 congr 1
 induction n with
 | zero=>rfl
 | succ n ih=>rw[List.replicate_succ,List.foldl_cons];exact ih
theorem rep_len (x:Str) (n:Nat):(repS x n).length=n*x.length:=by
 have g: ∀(m:Nat) (a:Array Nat),((List.replicate m x.cps).foldl (· ++ ·) a).size=a.size+m*x.cps.size:=by
  intro m
  induction m with
  | zero=>intro a;simp
  | succ m ih=>intro a;rw[List.replicate_succ,List.foldl_cons,ih,Array.size_append,Nat.succ_mul];omega
 show ((List.replicate n x.cps).foldl (· ++ ·) #[]).size=n*x.cps.size
 rw[g]
 simp
theorem op_mulS:OpR X (binaryOp .Mult) rMulS:=by
 intro pins s σ H x y v u Q I rx ry h
 obtain⟨z,k,rfl,rfl,h0,hz,hk,q⟩:=h
 obtain⟨t,rfl⟩:=rx
 obtain⟨t',rfl⟩:=ry
 refine P.mul_str ?_ (fun h1 h2=> ?_) (fun h1 h2=> ?_) ?_
 ·have e1:decide (k< -(2^63:Int))=false:=decide_eq_false (by omega)
  have e2:decide (k≥2^63)=false:=decide_eq_false (by omega)
  rw[e1,e2];rfl
 ·have h3:(1001:Int)≤(2^63-1)/k:=by
   refine Int.le_ediv_of_mul_le (by omega) ?_
   have:(1001:Int)*k≤1001*1000:=by omega
   omega
  omega
 ·have h3:z.length*k.toNat≤1000*1000:=Nat.mul_le_mul hz (by omega)
  exact decide_eq_false (by unfold sizeLine;omega)
 ·by_cases k0:k<1
  ·have ek:k.toNat=0:=by omega
   rw[if_pos k0]
   rw[ek,rep0] at q
   exact⟨by decide,⟨.str Str.empty,H,I.tok _,⟨_,rfl⟩,q⟩⟩
  ·rw[if_neg k0]
   split
   ·rename_i hh
    have e:repS z k.toNat=z:=by
     simp only[Bool.or_eq_true,beq_iff_eq] at hh
     rcases hh with hh | hh
     ·have ek:k.toNat=1:=by omega
      rw[ek,rep1]
     ·exact repE hh _
    rw[e] at q
    exact⟨.str z,H,I,⟨t,rfl⟩,q⟩
   ·have hl:(repS z k.toNat).length≤sizeLine:=by
     rw[rep_len]
     have:k.toNat*z.length≤1000*1000:=Nat.mul_le_mul (by omega) hz
     unfold sizeLine
     omega
    exact⟨hl,⟨.str (repS z k.toNat),H,I.tok _,⟨_,rfl⟩,q⟩⟩
noncomputable def aCu:D→D→M D
 | .int i,.int j=>gMul (.int i) (.int j)
 | .str z,.int k=>if 0≤k∧z.length≤1000∧k≤1000 then ok (.str (repS z k.toNat)) else none
 | _,_=>none
theorem n_times:NoErr aCu:=by
 intro x y c h
 unfold aCu gMul at h
 (repeat' split at h)<;>cases h
theorem pd_times (ha:PD X B a fa) (hb:PD X B b fb):PD X B (.BinOp a .Mult b pos) (b2 aCu fa fb):=by
 refine pd_op (OpR.or op_mulB op_mulS) ?_ n_times ha hb
 intro H x y dx dy d Q ix iy e q
 unfold aCu at e
 split at e
 ·dsimp only[gMul] at e
  split at e
  ·rename_i h
   cases ix;cases iy;cases e
   exact .inl ⟨_,_,rfl,rfl,h,q _ H (Same.refl H) (.int _)⟩
  ·cases e
 ·split at e
  ·rename_i h
   cases ix;cases iy;cases e
   exact .inr ⟨_,_,rfl,rfl,h.1,h.2.1,h.2.2,q _ H (Same.refl H) (.str _)⟩
  ·cases e
 ·cases e
end
section
variable {K:PySem.W.Frag} {H₀ H:Hp} {ρ:Rho} {σ:St}
theorem Rel.own_new {i:Nat} {a:Addr} {ds:List D} {vs:List V} (r:Rel K H₀ ρ σ H) (hf:H a=none) (im:immL ds=true) (iv:IsL K H ds vs):Rel K H₀ (ρ.set i (some (.own ds))) (σ.set i (some (.ref a))) (upd H a (.lst vs)):=by
 obtain⟨O,h1,ho,h2,hl,h3⟩:=r
 have na: ∀j b,O j=some b→b≠a:=fun j b q e=>by
  subst e
  obtain⟨u,w,m⟩:=ho j b q;rw[w] at hf;cases hf
 let O':Nat→Option Addr:=fun j=>if j=i then some a else O j
 have Oi:O' i=some a:=if_pos rfl
 have On: ∀j,j≠i→O' j=O j:=fun j e=>if_neg e
 have hO':OwnK (upd H a (.lst vs)) O':=fun j b q=>by
  by_cases e:j=i
  ·subst e
   rw[Oi] at q
   cases q
   exact⟨_,aA6,rfl⟩
  ·rw[On j e] at q
   have nb:=na j b q
   obtain⟨u,w,m⟩:=ho j b q
   exact⟨u,by rw[aB5 nb];exact w,m⟩
 have sm:Same (Off H O) (Off (upd H a (.lst vs)) O'):=fun b o q=>by
  have qh:=Off.same H O b o q
  have nb:b≠a:=fun e=>by subst e;rw[hf] at qh;cases qh
  refine Off.of (by rw[aB5 nb];exact qh) fun j z=> ?_
  by_cases e:j=i
  ·subst e
   rw[Oi] at z
   cases z
   exact nb rfl
  ·rw[On j e] at z
   exact Off.not q j z
 refine⟨O',fun j k b q1 q2=> ?_,hO',h2.trans sm,by rw[List.length_set,List.length_set,hl],fun j sv q=> ?_⟩
 ·by_cases e1:j=i
  ·by_cases e2:k=i
   ·rw[e1,e2]
   ·subst e1
    rw[Oi] at q1
    cases q1
    rw[On k e2] at q2
    exact absurd rfl (na k _ q2)
  ·by_cases e2:k=i
   ·subst e2
    rw[Oi] at q2
    cases q2
    rw[On j e1] at q1
    exact absurd rfl (na j _ q1)
   ·rw[On j e1] at q1
    rw[On k e2] at q2
    exact h1 j k b q1 q2
 ·by_cases e:j=i
  ·subst e
   have hj:j<ρ.length:=by
    have:=(List.getElem?_eq_some_iff.mp q).1
    rwa [List.length_set] at this
   rw[List.getElem?_set_self hj] at q
   have q':=Option.some.inj (Option.some.inj q)
   subst q'
   exact⟨a,vs,Oi,List.getElem?_set_self (by rw[←hl];exact hj),aA6,offL_imm hO' im (iv.mono (aAw hf _))⟩
  ·rw[List.getElem?_set_ne (Ne.symm e)] at q
   have z:=h3 j sv q
   cases sv with
   | sh d'=>obtain⟨v',e1,e2⟩:=z;exact⟨v',by rw[List.getElem?_set_ne (Ne.symm e)];exact e1,e2.mono sm⟩
   | own ds'=>
    obtain⟨b,ws,e1,e2,e3,e4⟩:=z
    exact⟨b,ws,by rw[On j e];exact e1,by rw[List.getElem?_set_ne (Ne.symm e)];exact e2,by rw[aB5 (na j b e1)];exact e3,e4.mono sm⟩
   | oin b C dx fs=>
    obtain⟨e1,e2,e3,ws,e4,e5⟩:=z
    exact⟨by rw[On j e];exact e1,by rw[List.getElem?_set_ne (Ne.symm e)];exact e2,e3,ws,by rw[aB5 (na j b e1)];exact e4,e5.mono sm⟩
   | ow o=>
    obtain⟨b,u,e1,e2,e3,e4⟩:=z
    exact⟨b,u,by rw[On j e];exact e1,by rw[List.getElem?_set_ne (Ne.symm e)];exact e2,by rw[aB5 (na j b e1)];exact e3,e4.mono sm⟩
   | tk ks=>obtain⟨b,e1,e2⟩:=z;exact⟨b,by rw[List.getElem?_set_ne (Ne.symm e)];exact e1,sm _ _ e2⟩
theorem Rel.own_put {i:Nat} {a:Addr} {ds ds':List D} {vs':List V} (O:Nat→Option Addr) (h1: ∀i j a,O i=some a→O j=some a→i=j) (ho:OwnK H O) (h2:Same H₀ (Off H O)) (hl:ρ.length=σ.length)
  (h3: ∀i sv,ρ[i]? =some (some sv)→Slot K H O σ i sv) (q:ρ[i]? =some (some (.own ds))) (z1:O i=some a) (z2:σ[i]? =some (some (.ref a))) (iv:IsL K (Off H O) ds' vs'):Rel K H₀ (ρ.set i (some (.own ds'))) σ (upd H a (.lst vs')):=by
 have eo:Off (upd H a (.lst vs')) O=Off H O:=Off.upd z1
 refine⟨O,h1,fun j b qj=> ?_,by rw[eo];exact h2,by rw[List.length_set,hl],fun j sv qj=> ?_⟩
 ·by_cases e:b=a
  ·subst e;exact⟨_,aA6,rfl⟩
  ·obtain⟨u,w,m⟩:=ho j b qj
   exact⟨u,by rw[aB5 e];exact w,m⟩
 ·by_cases e:j=i
  ·subst e
   have hj:j<ρ.length:=(List.getElem?_eq_some_iff.mp q).1
   rw[List.getElem?_set_self hj] at qj
   have q':=Option.some.inj (Option.some.inj qj)
   subst q'
   exact⟨a,vs',z1,z2,aA6,by rw[eo];exact iv⟩
  ·rw[List.getElem?_set_ne (Ne.symm e)] at qj
   have z:=h3 j sv qj
   cases sv with
   | sh d'=>obtain⟨v',e1,e2⟩:=z;exact⟨v',e1,by rw[eo];exact e2⟩
   | own es=>
    obtain⟨b,ws,e1,e2,e3,e4⟩:=z
    have nb:b≠a:=fun w=>e (h1 j i a (by rw[←w];exact e1) z1)
    exact⟨b,ws,e1,e2,by rw[aB5 nb];exact e3,by rw[eo];exact e4⟩
   | oin b C' dx' fs'=>
    obtain⟨e1,e2,e3,ws,e4,e5⟩:=z
    have nb:b≠a:=fun w=>e (h1 j i a (by rw[←w];exact e1) z1)
    exact⟨e1,e2,e3,ws,by rw[aB5 nb];exact e4,by rw[eo];exact e5⟩
   | ow o=>
    obtain⟨b,u,e1,e2,e3,e4⟩:=z
    have nb:b≠a:=fun w=>e (h1 j i a (by rw[←w];exact e1) z1)
    exact⟨b,u,e1,e2,by rw[aB5 nb];exact e3,by rw[eo];exact e4⟩
   | tk ks=>obtain⟨b,e1,e2⟩:=z;exact⟨b,e1,by rw[eo];exact e2⟩
end
section
variable {X:Cx} {B:Hp} {e e':Expr} {es:List Expr} {fa fb:Rho→M D} {ga:Rho→M (List D)} {pos pos' p p2 apos cpos:Pos} {x:Str} {i:Nat}
noncomputable def sNew (i:Nat) (g:Rho→M (List D)):Rho→Option Out:=fun ρ=>lft (g ρ) ρ fun ds=>if immL ds=true∧ds.length≤1000 then some (.nx (ρ.set i (some (.own ds)))) else none
theorem pds_new (hN:X.N.Nodup) (hi:X.N[i]? =some x) (hx:Loc X.env.scope x) (he:PDA X B es ga) (hs:swapsWith (.List es p) (some (.Name x pos')) pos.line X.env=pure false:=by rfl) (hf:X.fn x=true∨X.env.scope.names.lookup x=some .local:=by first | exact .inl rfl | exact .inr rfl | assumption):
  PDS X B (.Assign [.Name x pos'] (.List es p) pos) (sNew i ga):=by
 refine PS.of (ps_set hN hi hx (pe_lst he) hs hf) fun E σ H h=> ?_
 obtain⟨ρ,r,h⟩:=h
 refine⟨ρ,r,(lft_red r h).imp fun ds h1 vs H1 e1 i1=> ?_⟩
 split at h1
 ·rename_i hh
  refine⟨by rw[←i1.length];exact Nat.le_trans hh.2 (by decide),fun l hl=> ?_⟩
  exact h1 _ _ ((r.mono e1).own_new hl hh.1 i1)
 ·exact False.elim h1
noncomputable def sOwn (G:List D→List D→Option (List D)) (i:Nat) (g:Rho→M (List D)):Rho→Option Out:=fun ρ=>match ρ[i]? with
 | some (some (.own ds))=>lft (g ρ) ρ fun as=>if immL as=true∧ds.length<100000 then (match G ds as with | some ds'=>some (.nx (ρ.set i (some (.own ds')))) | none=>none) else none
 | _=>none
noncomputable def LMok (r:V→List V→Hp→VK→Prop) (G:List D→List D→Option (List D)):Prop:=
 ∀(K:PySem.W.Frag) (H0 H1:Hp) (l:Addr) (ds as ds':List D) (vs us:List V) (Q:VK),IsL K H0 ds vs→IsL K H0 as us→H1 l=some (.lst vs)→ds.length<100000→G ds as=some ds'→(∀vs',IsL K H0 ds' vs'→Q .non (upd H1 l (.lst vs')))→r (.ref l) us H1 Q
theorem pds_own {id:String} {name:Str} {r:V→List V→Hp→VK→Prop} {G:List D→List D→Option (List D)} (slot:PySem.Slot "list" name id) (hty:typeOf (.builtin id)=pure (.type "method_descriptor")) (hm:MtM X id r) (hr:LMok r G)
  (hN:X.N[i]? =some x) (hv:Vis X.env.scope x) (ha:PDA X B (e::es) ga)
  (hfew:((backTo cpos (starEach (e::es) X.env)).all (fun x=> !x.1)&&(backToKw cpos (keywordEach [] X.env)).all (fun x=>x.1.isSome)
   &&decide ((e::es).length+([]:List Keyword).length+(if ([]:List Keyword).isEmpty then 0 else 1)<30))=true)
  (hs:starEach (e::es) X.env=(false,eval e X.env)::starEach es X.env) (hplain:(backTo cpos (starEach es X.env)).any (·.1)=false)
  (hline:(apos.endLine==cpos.line)=true:=by rfl)
  (hsw:swapsWith (.Call (.Attribute (.Name x p) name apos) (e::es) [] cpos) none pos.line X.env=pure false:=by rfl)
  (hd:(x==("__debug__":Str))=false:=by decide) (hcd:(x==("__classdict__":Str))=false:=by decide):
  PDS X B (.Expr (.Call (.Attribute (.Name x p) name apos) (e::es) [] cpos) pos) (sOwn G i ga):=by
 refine PS.of (ps_expr (pe_bm PySem.F.plainAttrs_list slot hty hm (pe_var hN hv hd hcd) ha (hbase:=rfl) (hfew:=hfew) (hline:=hline) (hs:=hs) (hplain:=hplain)) hsw) fun E σ H h=> ?_
 obtain⟨ρ,r1,h⟩:=h
 unfold sOwn at h
 split at h
 ·rename_i ds q
  obtain⟨O,h1,ho,h2,hl,h3⟩:=(show Rel X.K B ρ σ H from r1)
  obtain⟨a,vs,z1,z2,z3,z4⟩:=h3 i _ q
  refine⟨.ref a,z2,.inl ⟨rfl,_,SqL.of z3⟩,ρ,r1,(lft_red r1 h).imp fun as k1 us H1 e1 i1=> ?_⟩
  split at k1
  ·rename_i hh
   split at k1
   ·rename_i ds' hG
    have ho1:=ho.mono e1
    refine hr X.K (Off H1 O) H1 a ds as ds' vs us _ (z4.mono (Off.mono e1)) (offL_imm ho1 hh.1 i1) (e1 _ _ z3) hh.2 hG fun vs' i'=> ?_
    exact k1 _ _ (Rel.own_put O h1 ho1 (h2.trans (Off.mono e1)) hl (fun j sv qj=>(h3 j sv qj).mono e1) q z1 z2 i')
   ·exact False.elim k1
  ·exact False.elim k1
 ·exact False.elim h
noncomputable def lApp (ds:List D):List D→Option (List D)
 | [d]=>some (ds++ [d])
 | _=>none
theorem lm_app:LMok rAppend lApp:=by
 intro K H0 H1 l ds as ds' vs us Q i1 i2 hl hn hG q
 unfold lApp at hG
 split at hG
 ·cases hG
  cases i2 with
  | cons id1 rest=>
   cases rest
   exact⟨l,vs,_,rfl,rfl,hl,by rw[←i1.length];exact Nat.lt_of_lt_of_le hn (by decide),q _ (i1.append (.cons id1 .nil))⟩
 ·cases hG
theorem aCv (hN:X.N[i]? =some x) (hv:Vis X.env.scope x) (ha:PD X B e fa) (hs:aD0 e=true:=by rfl) (hline:(apos.endLine==cpos.line)=true:=by rfl)
  (hsw:swapsWith (.Call (.Attribute (.Name x p) "append" apos) [e] [] cpos) none pos.line X.env=pure false:=by rfl)
  (hd:(x==("__debug__":Str))=false:=by decide) (hcd:(x==("__classdict__":Str))=false:=by decide):
  PDS X B (.Expr (.Call (.Attribute (.Name x p) "append" apos) [e] [] cpos) pos) (sOwn lApp i (aAe fa aAs)):=
 pds_own PySem.F.slot_list_append PySem.F.type_list_append mt_append lm_app hN hv (aAb ha aAh (aBg hs)) (by rw[star1 hs];rfl) (aBg hs) rfl hline hsw hd hcd
end
section
variable {X:Cx} {B:Hp} {e:Expr} {fa:Rho→M D} {pos p:Pos}
noncomputable def blL:List D→Option (List Bool)
 | []=>some []
 | .bl b::ds=>match blL ds with | some bs=>some (b::bs) | none=>none
 | _::_=>none
noncomputable def allD:D→M D
 | .lst ds=>match blL ds with | some bs=>ok (.bl (bs.all id)) | none=>none
 | _=>none
theorem blL_is {K:PySem.W.Frag} {H:Hp}: ∀(ds:List D) {vs:List V} {bs:List Bool},IsL K H ds vs→blL ds=some bs→vs=bs.map V.bl
 | [],_,_,r,h=>by cases r;cases h;rfl
 | .bl b::ds,_,_,.cons i r,h=>by
  cases i
  unfold blL at h
  split at h
  ·rename_i bs hb
   cases h
   rw[blL_is ds r hb];rfl
  ·cases h
 | .non::_,_,_,_,h=>nomatch h
 | .int _::_,_,_,_,h=>nomatch h
 | .str _::_,_,_,_,h=>nomatch h
 | .tup _::_,_,_,_,h=>nomatch h
 | .lst _::_,_,_,_,h=>nomatch h
 | .obj _ _::_,_,_,_,h=>nomatch h
 | .dk _::_,_,_,_,h=>nomatch h
 | .dt _::_,_,_,_,h=>nomatch h
 | .exc _::_,_,_,_,h=>nomatch h
 | .set _::_,_,_,_,h=>nomatch h
theorem truth_at {bs:List Bool} {its:List Value} (r:Vals (bs.map V.bl) its) {i:Nat} {v:Value} (h:its.toArray[i]? =some v):v= .bool (bs.getD i false):=by
 rw[List.getElem?_toArray] at h
 induction bs generalizing its i with
 | nil=>cases r;simp at h
 | cons b bs ih=>
  cases r with
  | cons r1 r2=>
   cases i with
   | zero=>simp at h;subst h;cases r1;rfl
   | succ i=>rw[List.getElem?_cons_succ] at h;exact ih r2 h
theorem range_all (bs:List Bool):(List.range bs.length).all (fun i=>bs.getD i false)=bs.all id:=by
 induction bs with
 | nil=>rfl
 | cons b bs ih=>rw[List.length_cons,List.range_succ_eq_map,List.all_cons,List.all_map,List.all_cons,←ih];rfl
noncomputable def rTruths (f:List Bool→Bool) (K:PySem.W.Frag):List V→Hp→VK→Prop:=fun xs H Q=> ∃p bs,xs=[.ref p]∧SqL K H p (bs.map V.bl)∧Q (.bl (f bs)) H
theorem call_allB (hc:X.calm=true):CallR X (.builtin "all") (rTruths (fun bs=>bs.all id) X.K):=by
 intro pins s σ H xs us Q I r h
 obtain⟨p,bs,rfl,hq,q⟩:=h
 obtain⟨u,rfl,rx⟩:=vals1 r
 cases rx
 obtain⟨its,r',pl,hz⟩:=I.list hq
 have hlen:its.toArray.size=bs.length:=by rw[List.size_toArray,←r'.length,List.length_map]
 have hlt:p<s.heap.objs.size:=by obtain⟨o,_,e,_⟩:=pl;exact Heap.lt_size e
 refine call_all_walk (wpAny_pyIter_list pl.isList ?_)
 refine⟨s.heap.objs.size,_,_,_,_,_,fun i=>bs.getD i false,rfl,Walks.list (by simpa using I.ok.hd hc) _ p (Nat.ne_of_lt hlt) its.toArray,⟨⟨_,Heap.get?_push_size _ rfl,rfl,rfl⟩,pl.isList.push _⟩,fun i v s Q E hP hQ=> ?_,fun h' tk hk=> ?_⟩
 ·rw[truth_at r' hP];exact wpAny_truthy_bool hQ
 ·rw[hlen,range_all]
  exact⟨.bl _,H,I.kept (t':=tk) fun b ob e=>hk b ob (by simp;exact Nat.ne_of_lt (Heap.lt_size e)) (Heap.get?_push_of_some _ e),rfl,q⟩
theorem boot_all:bootBuiltins "all"=some (.builtin "all"):=by decide+kernel
theorem pd_all (hc:X.calm=true) (hg:Gl X "all") (hm:X.mg "all"=none) (ha:PD X B e fa) (hs:aD0 e=true:=by rfl):PD X B (.Call (.Name "all" p) [e] [] pos) (f1 allD fa):=by
 refine PE.of (pe_callB (call_allB hc) hg hm boot_all (aCh ha aD9 (aBg hs)) (he:=aBg hs) (hpl:=by rfl)) fun σ H Q h=> ?_
 obtain⟨ρ,r1,h⟩:=h
 refine⟨ρ,r1,(Res.bind h).imp fun d q1 v H1 e1 i1=> ?_⟩
 cases i1 with
 | lst hh rr=>
  dsimp only[allD] at q1
  split at q1
  ·rename_i bs hb
   exact⟨_,bs,rfl,by rw[←blL_is _ rr hb];exact hh,q1 _ H1 e1 (.bl _)⟩
  ·exact False.elim q1
 | _=>exact False.elim q1
end
section
variable {X:Cx} {B:Hp} {e a b:Expr} {fa fb:Rho→M D} {pos p p2 pos2:Pos}
noncomputable def strL:List D→Option (List Str)
 | []=>some []
 | .str x::ds=>match strL ds with | some xs=>some (x::xs) | none=>none
 | _::_=>none
theorem strL_map (xs:List Str):strL (xs.map D.str)=some xs:=by
 induction xs with
 | nil=>rfl
 | cons x r ih=>rw[List.map_cons];unfold strL;rw[ih]
theorem aDi: ∀(ds:List D) {xs:List Str},strL ds=some xs→ds=xs.map D.str
 | [],_,h=>by cases h;rfl
 | .str x::ds,_,h=>by
  unfold strL at h
  split at h
  ·rename_i xs hx
   cases h
   rw[aDi ds hx];rfl
  ·cases h
 | .non::_,_,h=>nomatch h
 | .bl _::_,_,h=>nomatch h
 | .int _::_,_,h=>nomatch h
 | .tup _::_,_,h=>nomatch h
 | .lst _::_,_,h=>nomatch h
 | .obj _ _::_,_,h=>nomatch h
 | .dk _::_,_,h=>nomatch h
 | .dt _::_,_,h=>nomatch h
 | .exc _::_,_,h=>nomatch h
 | .set _::_,_,h=>nomatch h
theorem strs_at {K:PySem.W.Frag} {H:Hp}: ∀{xs:List Str} {vs:List V} {its:List Value},IsL K H (xs.map D.str) vs→Vals vs its→∀(i:Nat) (v:Value),its[i]? =some v→∃t,v=Value.str (xs.getD i Str.empty) t
 | [],_,_,.nil,r,i,v,h=>by cases r;simp at h
 | x::xs,_,_,.cons i1 r1,r,i,v,h=>by
  cases i1
  cases r with
  | cons q r=>
   obtain⟨t,rfl⟩:=q
   cases i with
   | zero=>simp at h;subst h;exact⟨t,rfl⟩
   | succ i=>rw[List.getElem?_cons_succ] at h;exact strs_at r1 r i v h
noncomputable def toS:D→M D
 | .tup ds=>match strL ds with | some xs=>if xs.length≤2000 then ok (.set (metS xs)) else none | none=>none
 | .lst ds=>match strL ds with | some xs=>if xs.length≤2000 then ok (.set (metS xs)) else none | none=>none
 | _=>none
noncomputable def rSet (K:PySem.W.Frag):List V→Hp→VK→Prop:=fun vs H Q=> ∃p ys xs,vs=[.ref p]∧(SqL K H p ys∨SqT K H p ys)∧IsL K H (xs.map D.str) ys∧xs.length≤2000∧∀l,H l=none→Q (.ref l) (upd H l (.set (fun k=>(metS xs).contains k) (metS xs).length))
theorem call_setS (hc:X.calm=true):CallR X (.type "set") (rSet X.K):=by
 intro pins s σ H vs us Q I r h
 obtain⟨p,ys,xs,rfl,hq,ix,hz,q⟩:=h
 obtain⟨u,rfl,rx⟩:=vals1 r
 cases rx
 have hl:=ix.length
 rw[List.length_map] at hl
 have fin: ∀(its:List Value),Vals ys its→∀(o:Obj) (n:Nat) (T:String),(T="list"∨T="tuple")→s.heap.get? p=some o→o.cls= .type T→o.data= .seq its.toArray n→wpAny (model X.prog X.w) X.A (call (.type "set") [.ref p]) (EP X pins σ Q) X.xe s:=by
  intro its r' o n T hT ho hcl hd
  have hlen:xs.length=its.toArray.size:=by rw[List.size_toArray,←r'.length,hl]
  refine call_set_seq hT (I.ok.hd hc) ho hcl hd (fun i v hv=>strs_at ix r' i v (by simpa using hv)) hlen (by rw[←hlen];show xs.length+1<4096;omega) fun h' tk z zt kp=> ?_
  exact⟨.ref s.heap.objs.size,_,I.laid (t':=tk) kp (Nat.le_refl _) (show aDs X.prog X.w _ h' _ (.set _ _) from⟨z,zt⟩),rfl,q _ (I.hok.fresh (Nat.le_refl _))⟩
 rcases hq with hq | hq
 ·obtain⟨its,r',⟨o,n,ho,hcl,_,hd⟩,_⟩:=I.list hq
  exact fin its r' o n "list" (.inl rfl) ho hcl hd
 ·obtain⟨its,r',⟨o,ho,hcl,n,hd⟩,_⟩:=I.tuple hq
  exact fin its r' o n "tuple" (.inr rfl) ho hcl hd
theorem boot_set:bootBuiltins "set"=some (.type "set"):=by decide+kernel
theorem pd_set (hc:X.calm=true) (hg:Gl X "set") (hm:X.mg "set"=none) (ha:PD X B e fa) (hs:aD0 e=true:=by rfl):PD X B (.Call (.Name "set" p) [e] [] pos) (f1 toS fa):=by
 refine PE.of (pe_callTy (call_setS hc) hg hm boot_set (aCh ha aD9 (aBg hs)) (he:=aBg hs) (hpl:=by rfl)) fun σ H Q h=> ?_
 obtain⟨ρ,r1,h⟩:=h
 refine⟨ρ,r1,(Res.bind h).imp fun d q1 v H1 e1 i1=> ?_⟩
 cases i1 with
 | lst hh rr=>
  dsimp only[toS] at q1
  split at q1
  ·rename_i xs hx
   have ed:=aDi _ hx
   subst ed
   split at q1
   ·rename_i hz
    exact⟨_,_,xs,rfl,.inl hh,rr,hz,fun l hl=>q1 _ _ (e1.trans (aAw hl _)) (.set aA6)⟩
   ·exact False.elim q1
  ·exact False.elim q1
 | tup hh rr=>
  dsimp only[toS] at q1
  split at q1
  ·rename_i xs hx
   have ed:=aDi _ hx
   subst ed
   split at q1
   ·rename_i hz
    exact⟨_,_,xs,rfl,.inr hh,rr,hz,fun l hl=>q1 _ _ (e1.trans (aAw hl _)) (.set aA6)⟩
   ·exact False.elim q1
  ·exact False.elim q1
 | _=>exact False.elim q1
theorem call_lenS:CallR X (.builtin "len") (fun xs H Q=> ∃p S n,xs=[.ref p]∧H p=some (.set S n)∧Q (.int n) H):=by
 intro pins s σ H xs us Q I r h
 obtain⟨p,S,n,rfl,hp,q⟩:=h
 obtain⟨u,rfl,rx⟩:=vals1 r
 cases rx
 obtain⟨⟨o,es,ep,t,ho,hex,hd,_,_,hb,hf,hn⟩,_⟩:=(show aDs X.prog X.w H s.heap p (.set S n) from I.hok p _ hp)
 refine call_len_set ho hex hd hf (by unfold scanBound at hb;omega) ⟨.int n,H,I.tok _,⟨_,by rw[hn]⟩,q⟩
end
section
variable {X:Cx} {B:Hp} {e a b:Expr} {fa fb:Rho→M D} {pos:Pos}
noncomputable def gEqNil:D→D→M D
 | .tup ds,.tup []=>ok (.bl ds.isEmpty)
 | _,_=>none
theorem n_eqnil:NoErr gEqNil:=by
 intro x y c h
 unfold gEqNil at h
 split at h<;>cases h
noncomputable def rEqNil (K:PySem.W.Frag):R2:=fun x y H Q=> ∃a b xs,x= .ref a∧y= .ref b∧SqT K H a xs∧SqT K H b []∧Q (.bl xs.isEmpty) H
theorem op_eqnil (hu:X.A.units<cLine):OpR X (compareOp .Eq) (rEqNil X.K):=by
 intro pins s σ H x y v u Q I rx ry h
 obtain⟨a,b,xs,rfl,rfl,ha,hb,q⟩:=h
 cases rx
 cases ry
 obtain⟨its,r1,p1,_⟩:=I.tuple ha
 obtain⟨its2,r2,p2,_⟩:=I.tuple hb
 have e2:its2=[]:=r2.nil_iff.mpr rfl
 subst e2
 refine PySem.SeqAt.eq_tupleAt (e:=fun _=>true) p1 p2 hu (fun j h1 h2=>by simp at h2) ⟨.bl xs.isEmpty,H,I,?_,q⟩
 have hl:=r1.length
 cases xs with
 | nil=>cases r1;rfl
 | cons x xs=>cases r1;rfl
theorem r_eqnil:R2ok X (rEqNil X.K) gEqNil:=by
 intro H x y dx dy d Q ix iy e q
 unfold gEqNil at e
 split at e
 ·rename_i ds
  cases e
  cases ix with
  | tup h1 r1=>
   cases iy with
   | tup h2 r2=>
    cases r2
    exact⟨_,_,_,rfl,rfl,h1,h2,by rw[isEmpty_isL r1];exact q _ H (Same.refl H) (.bl _)⟩
 ·cases e
theorem pdt_eqnil {k:Nat} (hr:Room k X.A) (ha:PD X B a fa) (hb:PD X B b fb):PDT X B (.Compare a [.Eq] [b] pos) (aAt (b2 gEqNil fa fb)):=aEc (op_eqnil hr.units0) r_eqnil n_eqnil ha hb (nomark _)
end
section
variable {X:Cx} {B:Hp} {e a b:Expr} {fa fb:Rho→M D} {pos p p2 pos2:Pos}
theorem inv_drew {pins:List (Addr×Obj)} {σ:List (Option V)} {H:Hp} {s:Shared} (I:Inv X pins σ H s) (d:Drawn):Inv X pins σ H {s with drawn:=d}:=⟨I.ok,I.os,I.bare,I.base,I.loc,I.cell,I.free,I.freeC,I.pin,I.hok,I.len⟩
theorem strsD {K:PySem.W.Frag} {H:Hp}: ∀{vs:List Value} {xs:List Str},StrsAre vs xs→Vals (xs.map V.str) vs∧IsL K H (xs.map D.str) (xs.map V.str)
 | _,_,.nil=>⟨.nil,.nil⟩
 | _,_,.cons y t r=>⟨.cons ⟨t,rfl⟩ (strsD (K:=K) (H:=H) r).1,.cons (.str y) (strsD r).2⟩
noncomputable def srtD:D→M D
 | .set ss=>if ss.length<64∧ss.Nodup then ok (.lst ((srtS ss).map .str)) else none
 | _=>none
theorem call_sortedS (hc:X.calm=true):CallR X (.builtin "sorted") (fun xs H Q=> ∃p ss,xs=[.ref p]∧H p=some (.set (fun k=>(ss:List Str).contains k) ss.length)∧ss.length<64∧ss.Nodup∧∀l,H l=none→Q (.ref l) (upd H l (.lst ((srtS ss).map V.str)))):=by
 intro pins s σ H xs us Q I r h
 obtain⟨p,ss,rfl,hp,h64,hn,q⟩:=h
 obtain⟨u,rfl,rx⟩:=vals1 r
 cases rx
 obtain⟨z,zt⟩:=(show aDs X.prog X.w H s.heap p (.set _ _) from I.hok p _ hp)
 refine sorted_set (I.ok.hd hc) h64 hn z zt fun out l h' tk d m hS hl ho kp=> ?_
 have hlen:(srtS ss).length=ss.length:=(srtS_perm ss).length_eq
 have hs:sizeLine=16777216:=sizeLine_eq
 exact⟨.ref l,_,(inv_drew I d).laid (t':=tk) kp hl (show aDs X.prog X.w _ h' _ (.lst _) from⟨by rw[List.length_map];omega,out,m,(strsD (K:=X.K) (H:=H) hS).1,ho⟩),rfl,q _ (I.hok.fresh hl)⟩
theorem boot_sorted:bootBuiltins "sorted"=some (.builtin "sorted"):=by decide+kernel
theorem isl_str {K:PySem.W.Frag} {H:Hp}: ∀(xs:List Str),IsL K H (xs.map D.str) (xs.map V.str)
 | []=> .nil
 | x::xs=> .cons (.str x) (isl_str xs)
theorem pd_sorted (hc:X.calm=true) (hg:Gl X "sorted") (hm:X.mg "sorted"=none) (ha:PD X B e fa) (hs:aD0 e=true:=by rfl):PD X B (.Call (.Name "sorted" p) [e] [] pos) (f1 srtD fa):=by
 refine PE.of (pe_callB (call_sortedS hc) hg hm boot_sorted (aCh ha aD9 (aBg hs)) (he:=aBg hs) (hpl:=by rfl)) fun σ H Q h=> ?_
 obtain⟨ρ,r1,h⟩:=h
 refine⟨ρ,r1,(Res.bind h).imp fun d q1 v H1 e1 i1=> ?_⟩
 cases i1 with
 | set hh=>
  dsimp only[srtD] at q1
  split at q1
  ·rename_i hz
   exact⟨_,_,rfl,hh,hz.1,hz.2,fun l hl=>q1 _ _ (e1.trans (aAw hl _)) (.lst (SqL.of aA6) (isl_str _))⟩
  ·exact False.elim q1
 | _=>exact False.elim q1
end
noncomputable def viaD (n:Nat) (f:List D→M D):List D→M D:=fun ds=>if ds.length=n then (match f ds with | some (.ok d)=>some (.ok d) | _=>none) else none
theorem aBv {n:Nat} {f:List D→M D}: ∀ds r,viaD n f ds=some r→ds.length=n:=fun ds r h=>by
 unfold viaD at h
 split at h
 ·assumption
 ·cases h
theorem aDt {n:Nat} {f:List D→M D}: ∀ds r,viaD n f ds=some r→∃d,r= .ok d∧f ds=ok d:=fun ds r h=>by
 unfold viaD at h
 split at h
 ·split at h
  ·rename_i d hd
   cases h
   exact⟨d,rfl,hd⟩
  ·cases h
 ·cases h
theorem aBs {n:Nat} {f:List D→M D} {ds:List D} {d:D} (hl:ds.length=n) (h:f ds=ok d):viaD n f ds=ok d:=by unfold viaD;rw[if_pos hl,h];rfl
noncomputable abbrev tS (xs:List Str):D:= .tup (xs.map D.str)
theorem immL_strs (xs:List Str):immL (xs.map D.str)=true:=by
 induction xs with
 | nil=>rfl
 | cons x r ih=>rw[List.map_cons,immL,ih];rfl
theorem aDj (xs:List Str):(tS xs).imm=true:=immL_strs xs
theorem in_tS (neg:Bool) (x:Str) (h:List Str):gIn neg (.str x) (tS h)=ok (.bl (if neg then !h.contains x else h.contains x)):=by
 unfold gIn
 simp only[flD,seqD,Option.bind_some,flL_strs,inV_strs]
theorem andB_ok {f g:Rho→M Bool} {ρ:Rho} {a b:Bool} (h1:f ρ=ok a) (h2:g ρ=ok b):andB f g ρ=ok (a&&b):=by
 unfold andB
 rw[h1,aDh]
 cases a
 ·rfl
 ·rw[if_pos rfl,h2];rfl
theorem orB_ok {f g:Rho→M Bool} {ρ:Rho} {a b:Bool} (h1:f ρ=ok a) (h2:g ρ=ok b):orB f g ρ=ok (a || b):=by
 unfold orB
 rw[h1,aDh]
 cases a
 ·rw[if_neg (by decide),h2];rfl
 ·rfl
theorem len_app (a b:Str):(a++b).length=a.length+b.length:=PySem.strLen_append a b
theorem sub_len: ∀(a b:List Str),a.Nodup→(∀x∈a,x∈b)→a.length≤b.length
 | [],_,_,_=>Nat.zero_le _
 | x::a,b,hn,hs=>by
  rw[List.nodup_cons] at hn
  have hx:=hs x List.mem_cons_self
  have h1:=sub_len a (b.erase x) hn.2 (fun y hy=>(List.mem_erase_of_ne (fun (e:y=x)=>hn.1 (e▸hy))).mpr (hs y (List.mem_cons_of_mem _ hy)))
  rw[List.length_erase_of_mem hx] at h1
  have:0<b.length:=List.length_pos_of_mem hx
  rw[List.length_cons]
  omega
theorem sub_all {a b:List Str} (hn:a.Nodup) (hs: ∀x∈a,x∈b) (hl:b.length≤a.length): ∀y∈b,y∈a:=fun y hy=>Classical.byContradiction fun q=>by
 have h1:=sub_len a (b.erase y) hn (fun x hx=>(List.mem_erase_of_ne (fun (e:x=y)=>q (e▸hx))).mpr (hs x hx))
 rw[List.length_erase_of_mem hy] at h1
 have:0<b.length:=List.length_pos_of_mem hy
 omega
theorem metS_self {l:List Str} (h:l.Nodup):metS l=l:=by
 have g: ∀(vs σ:List Str),(σ++vs).Nodup→vs.foldl addS σ=σ++vs:=by
  intro vs
  induction vs with
  | nil=>intro σ _;simp
  | cons v vs ih=>
   intro σ hn
   rw[List.foldl_cons]
   have hv:σ.contains v=false:=by
    cases hc:σ.contains v with
    | false=>rfl
    | true=>
     have hm:=List.contains_iff_mem.mp hc
     rw[List.nodup_append] at hn
     exact absurd rfl (hn.2.2 v hm v List.mem_cons_self)
   have e:addS σ v=σ++ [v]:=by unfold addS;rw[hv];rfl
   rw[e,ih (σ++ [v]) (by rw[List.append_assoc];exact hn),List.append_assoc]
   rfl
 have:=g l [] (by simpa using h)
 simpa[metS] using this
theorem cut_to (ds:List D) {j:Nat} (h:j≤ds.length):cutD ds none (some (j:Int))=ds.take j:=by
 unfold cutD
 rw[HT.sIx_none,HT.sIx_nat,List.drop_zero,Nat.sub_zero,Nat.min_eq_left h]
noncomputable abbrev L (s:Str):List Nat:=s.cps.toList
theorem L_app (a b:Str):L (a++b)=L a++L b:=by
 show (a.cps++b.cps).toList=_
 rw[Array.toList_append]
theorem L_rep (z:Str): ∀(n:Nat),∀c∈L (repS z n),c∈L z:=by
 have g: ∀(m:Nat) (a:Array Nat),∀c∈((List.replicate m z.cps).foldl (· ++ ·) a).toList,c∈a.toList∨c∈z.cps.toList:=by
  intro m
  induction m with
  | zero=>intro a c hc;exact .inl hc
  | succ m ih=>
   intro a c hc
   rw[List.replicate_succ,List.foldl_cons] at hc
   rcases ih _ c hc with h | h
   ·rw[Array.toList_append] at h
    exact List.mem_append.mp h
   ·exact .inr h
 intro n c hc
 rcases g n #[] c hc with h | h
 ·simp at h
 ·exact h
theorem at_app {ns:List Int} {rest:Rho} (k:Nat):app fAt (aAe (look 0) (aAe (con (.int (k:Int))) aAs)) (some (.sh (.lst (ns.map D.int)))::rest)=ok (.int (atZ ns k)):=by
 rw[aBn (aAc (d:= .lst (ns.map D.int)) rfl (aAc (d:= .int (k:Int)) rfl aAn))]
 exact fAt_ints ns k
theorem aB1 {f g:Rho→M D} {ρ:Rho} {i j:Int} (h1:f ρ=ok (.int i)) (h2:g ρ=ok (.int j)) (hj:0<j):b2 aCf f g ρ=ok (.int (i%j)):=by
 refine aBj h1 h2 ?_
 show (if 0<j then ok (D.int (i%j)) else none)=_
 rw[if_pos hj]
theorem fdiv_ok {f g:Rho→M D} {ρ:Rho} {i j:Int} (h1:f ρ=ok (.int i)) (h2:g ρ=ok (.int j)) (hj:0<j) (hj2:j<1073741824):b2 aCo f g ρ=ok (.int (i/j)):=by
 refine aBj h1 h2 ?_
 simp[aCo,hj,hj2]
theorem add_ok {f g:Rho→M D} {ρ:Rho} {i j:Int} (h1:f ρ=ok (.int i)) (h2:g ρ=ok (.int j)):b2 aAv f g ρ=ok (.int (i+j)):=aBj h1 h2 rfl
theorem eqi_ok {f g:Rho→M D} {ρ:Rho} {i j:Int} (h1:f ρ=ok (.int i)) (h2:g ρ=ok (.int j)):b2 gEq f g ρ=ok (.bl (decide (i=j))):=aBj h1 h2 rfl
theorem aA3 {i:Nat} {f:Rho→M D} {ρ:Rho} {d:D} (h:f ρ=ok d) (hd:d.imm=true):aDl i f ρ=some (.nx (ρ.set i (some (.sh d)))):=by rw[sSet_ok h,setV_imm hd]
theorem aDc {i:Nat} {f:Rho→M D} {ρ:Rho} {d:D} (h:f ρ=ok d) (hf:free ρ=ρ):aDl i f ρ=some (.nx (ρ.set i (some (.sh d)))):=by
 rw[sSet_ok h]
 unfold setV
 split
 ·rfl
 ·rw[hf]
theorem cmpL_nats {k:Nat} {fe:Rho→M D} {ρ:Rho} {g:Nat→D}: ∀(l:List Nat),(∀j∈l,fe (ρ.set k (some (.sh (.int (j:Int)))))=ok (g j)∧(g j).imm=true)→
  cmpL [k] h1 (fun _=>ok true) fe (l.map fun (j:Nat)=>D.int (0+(j:Int))) ρ=ok (l.map g)
 | [],_=>rfl
 | x::l,h=>by
  have ih:=cmpL_nats (g:=g) l (fun y hy=>h y (List.mem_cons_of_mem _ hy))
  obtain⟨e1,e2⟩:=h x List.mem_cons_self
  rw[List.map_cons]
  unfold cmpL
  show (match fe (ρ.set k (some (.sh (.int (0+(x:Int)))))) with
    | some (.ok r)=>if r.imm=true then bnd (cmpL [k] h1 (fun _=>ok true) fe (l.map fun (j:Nat)=>D.int (0+(j:Int))) ρ) fun rs=>ok (r::rs) else none
    | _=>none)=_
  rw[Int.zero_add,e1,ih]
  show (if (g x).imm=true then bnd (ok (l.map g)) fun rs=>ok (g x::rs) else none)=_
  rw[if_pos e2]
  rfl
theorem cmp_rng {m k n:Nat} {f:Rho→M D} {fe:Rho→M D} {ρ:Rho} {g:Nat→D} (hf:f ρ=ok (.int (n:Int))) (hn:n≤1000000) (h: ∀j,j<n→fe ((ext m (free ρ)).set k (some (.sh (.int (j:Int)))))=ok (g j)∧(g j).imm=true):
  cmp m (itR f) [k] h1 (fun _=>ok true) fe ρ=ok (.lst ((List.range n).map g)):=by
 have e:itR f ρ=ok (rng 0 n):=by
  unfold itR
  rw[hf]
  rw[aDh]
  simp only[rngD]
  rw[if_pos ⟨by omega,by omega⟩,Int.toNat_natCast]
 unfold cmp
 rw[e,aDh,if_pos (by unfold rng;rw[List.length_map,List.length_range];exact hn)]
 unfold rng
 rw[cmpL_nats (List.range n) (fun j hj=>h j (List.mem_range.mp hj))]
 rfl
theorem blL_map {α:Type} (f:α→Bool): ∀(l:List α),blL (l.map fun c=>D.bl (f c))=some (l.map f)
 | []=>rfl
 | x::l=>by rw[List.map_cons,blL,blL_map f l];rfl
theorem entry_set_sub:entryFor table "set.__sub__"=some Builtin.«frozenset.__sub__»:=
 entryFor_alias (id':="frozenset.__sub__") (by kernel_rfl) rfl (by decide+kernel) (by kernel_rfl)
section
variable {prog:Program} {w:World} {A:Around} {E:Value→Shared→Prop} {s:Shared}
theorem new_set {Q:Value→Shared→Prop} (q:Q (.ref s.heap.objs.size) {s with heap:=s.heap.push (setO (ledW w))}):wpAny (model prog w) A (newSet (.type "set")) Q E s:=by
 unfold newSet
 refine wpAny_bind (show wpAny _ _ setsByText _ _ _ from wpAny_bind (wpAny_askSetting (wpAny_pure ?_)))
 dsimp only
 simp only[newObj]
 exact wpAny_bind (wpAny_alloc (wpAny_pure q))
theorem unchanged_ok {id:String} {o:Addr} {ob:Obj} {es:Array (Int×Value)} {ep:Nat} {t:SetTable} (ho:s.heap.get? o=some ob) (hd:ob.data= .set es ep t) (hf:t.fits es.size=true):
  ∀(s':Shared) (Q':Unit→Shared→Prop),(∀ob,s.heap.get? o=some ob→s'.heap.get? o=some ob)→Q' () s'→wpAny (model prog w) A (Builtin.Frozenset.unchanged id o ep) Q' E s':=fun s' Q' k q=>by
 unfold Builtin.Frozenset.unchanged
 refine wpAny_bind (wpAny_setEpoch_of (k _ ho) hd hf ?_)
 rw[if_neg (by simp)]
 exact wpAny_pure q
end
theorem andV_ok {f g:Rho→M D} {ρ:Rho} {a b:Bool} (h1:f ρ=ok (.bl a)) (h2:g ρ=ok (.bl b)):andV f g ρ=ok (.bl (a&&b)):=by
 unfold andV
 rw[h1]
 show (if a=true then g ρ else ok (.bl false))=_
 cases a
 ·rfl
 ·rw[if_pos rfl,h2];rfl
theorem andV_f {f g:Rho→M D} {ρ:Rho} (h1:f ρ=ok (.bl false)):andV f g ρ=ok (.bl false):=by
 unfold andV
 rw[h1]
 rfl
theorem aDr {g:D→M D} {f:Rho→M D} {ρ:Rho} {d:D} {r:M D} (h:f ρ=ok d) (h2:g d=r):f1 g f ρ=r:=by unfold f1;rw[h];exact h2
theorem ix_tup {ds:List D} {j:Nat} {d:D} (h:ds[j]? =some d):gIx (.tup ds) (.int (j:Int))=ok d:=by
 show (match atI ds (j:Int) with | some d=>ok d | none=>none)=_
 rw[atI_nat h]
theorem ix_lst {ds:List D} {j:Nat} {d:D} (h:ds[j]? =some d):gIx (.lst ds) (.int (j:Int))=ok d:=by
 show (match atI ds (j:Int) with | some d=>ok d | none=>none)=_
 rw[atI_nat h]
theorem gti_ok {f g:Rho→M D} {ρ:Rho} {i j:Int} (h1:f ρ=ok (.int i)) (h2:g ρ=ok (.int j)):b2 gGt f g ρ=ok (.bl (decide (j<i))):=aBj h1 h2 rfl
theorem sub_ok {f g:Rho→M D} {ρ:Rho} {i j:Int} (h1:f ρ=ok (.int i)) (h2:g ρ=ok (.int j)):b2 gSub f g ρ=ok (.int (i-j)):=aBj h1 h2 rfl
theorem mul_ok {f g:Rho→M D} {ρ:Rho} {i j:Int} (h1:f ρ=ok (.int i)) (h2:g ρ=ok (.int j)) (hm:mulB i j=true):b2 aCu f g ρ=ok (.int (i*j)):=aBj h1 h2 (by simp[aCu,gMul,hm])
theorem catL_ok {f g:Rho→M D} {ρ:Rho} {x y:List Str} (h1:f ρ=ok (.lst (x.map D.str))) (h2:g ρ=ok (.lst (y.map D.str))) (hx:x.length≤1000) (hy:y.length≤1000):b2 aAv f g ρ=ok (.lst ((x++y).map D.str)):=by
 refine aBj h1 h2 ?_
 show (if (x.map D.str).length+(y.map D.str).length≤100000 then ok (D.lst (x.map D.str++y.map D.str)) else none)=_
 rw[if_pos (by rw[List.length_map,List.length_map];omega),←List.map_append]
theorem loop_cons {G:D→Rho→Option Rho} {F:Rho→Option Out} {d:D} {ds:List D} {ρ ρ1 ρ2:Rho} (h1:G d ρ=some ρ1) (h2:F ρ1=some (.nx ρ2)):loop G F (d::ds) ρ=loop G F ds ρ2:=by
 (conv=>lhs;unfold loop)
 rw[h1]
 dsimp only
 rw[h2]
theorem toS_lS (xs:List Str) (hl:xs.length≤2000):toS (.lst (xs.map D.str))=ok (.set (metS xs)):=by
 show (match strL (xs.map D.str) with | some xs=>if xs.length≤2000 then ok (D.set (metS xs)) else none | none=>none)=_
 rw[strL_map]
 show (if xs.length≤2000 then ok (D.set (metS xs)) else none)=_
 rw[if_pos hl]
noncomputable def SIt (b:Bool) (h:Heap) (it l:Addr) (i:Nat):Prop:=match b with
 | true=>h.IsListIter it l i
 | false=>h.IsTupleIter it l i
noncomputable def SSq (b:Bool) (h:Heap) (l:Addr) (items:Array Value):Prop:=match b with
 | true=>h.IsList l items
 | false=>h.IsTuple l items
theorem SIt.kept {b:Bool} {h h':Heap} {it l:Addr} {i:Nat} (x:SIt b h it l i) (e: ∀o,h.get? it=some o→h'.get? it=some o):SIt b h' it l i:=by
 cases b<;>(obtain⟨o,ho,r⟩:=x;exact⟨o,e o ho,r⟩)
theorem SSq.kept {b:Bool} {h h':Heap} {l:Addr} {items:Array Value} (x:SSq b h l items) (e: ∀o,h.get? l=some o→h'.get? l=some o):SSq b h' l items:=by
 cases b<;>(obtain⟨o,ho,r⟩:=x;exact⟨o,e o ho,r⟩)
theorem SIt.obj {b:Bool} {h:Heap} {it l:Addr} {i:Nat} (x:SIt b h it l i): ∃o,h.get? it=some o∧∀v,o.data≠ .cell v:=by
 cases b<;>(obtain⟨o,ho,_,d⟩:=x;exact⟨o,ho,fun v z=>by rw[d] at z;cases z⟩)
section
variable {prog:Program} {w:World} {A:Around} {E:Value→Shared→Prop} {s:Shared}
theorem tup_nx {it t:Addr} {i:Nat} {items:Array Value} {x:Value} {Q:Value→Shared→Prop} (hi:s.heap.IsTupleIter it t i) (ht:s.heap.IsTuple t items) (hx:items[i]? =some x)
  (q: ∀h',h'.IsTupleIter it t (i+1)→Heap.SameBut it s.heap h'→Q x {s with heap:=h'}):wpAny (model prog w) A (Builtin.SmallTypes.nextOf (.ref it)) Q E s:=by
 obtain⟨o,ho,hc,hd⟩:=id hi
 obtain⟨ot,hot,_,nt,hdt⟩:=ht
 unfold Builtin.SmallTypes.nextOf
 refine wpAny_bind (wpAny_callSpecial?_slot (name:=Str.ofString "__next__") hi.typeIs F.slot_tuple_iterator_next (wpAny_call_entry F.slot_tuple_iterator_next hi.typeIs F.entry_tuple_iterator_next ?_ (F.args_tuple_iterator_next_1 _)))
 refine wpAny_bind (show wpAny _ _ (pure (Value.ref it,[])) _ _ _ from wpAny_pure ?_)
 dsimp only
 refine wpAny_bind (wpAny_field ho hd (x:= .ref t) rfl ?_)
 rw[if_neg (show ¬(Value.ref t==Value.none)=true from Bool.false_ne_true)]
 refine wpAny_bind (wpAny_field ho hd (x:= .int i 0) rfl ?_)
 refine wpAny_bind (wpAny_seqItems hot hdt ?_)
 simp only[Int.toNat_natCast,hx]
 refine wpAny_bind (wpAny_setField ho hd (by simp) (wpAny_pure ⟨x,rfl,wpAny_pure (q _ ⟨_,Heap.get?_update_self _ ho (Obj.isFreed_of_fields (Obj.data_mapFields hd _)),(Obj.cls_mapFields ..).trans hc,?_⟩ (Heap.SameBut.update ..))⟩))
 rw[Obj.data_mapFields hd]
 simp[rawInt]
theorem tup_end {it t:Addr} {i:Nat} {items:Array Value} {Q:Value→Shared→Prop} (hh:A.handled=none) (hi:s.heap.IsTupleIter it t i) (ht:s.heap.IsTuple t items) (hx:items[i]? =none)
  (q: ∀h' e,Heap.ExtBut it s.heap h'→(∃o,h'.get? e=some o∧o.cls= .type "StopIteration")→E (.ref e) {s with heap:=h'}):wpAny (model prog w) A (Builtin.SmallTypes.nextOf (.ref it)) Q E s:=by
 obtain⟨o,ho,hc,hd⟩:=id hi
 obtain⟨ot,hot,_,nt,hdt⟩:=ht
 unfold Builtin.SmallTypes.nextOf
 refine wpAny_bind (wpAny_callSpecial?_slot (name:=Str.ofString "__next__") hi.typeIs F.slot_tuple_iterator_next (wpAny_call_entry F.slot_tuple_iterator_next hi.typeIs F.entry_tuple_iterator_next ?_ (F.args_tuple_iterator_next_1 _)))
 refine wpAny_bind (show wpAny _ _ (pure (Value.ref it,[])) _ _ _ from wpAny_pure ?_)
 dsimp only
 refine wpAny_bind (wpAny_field ho hd (x:= .ref t) rfl ?_)
 rw[if_neg (show ¬(Value.ref t==Value.none)=true from Bool.false_ne_true)]
 refine wpAny_bind (wpAny_field ho hd (x:= .int i 0) rfl ?_)
 refine wpAny_bind (wpAny_seqItems hot hdt ?_)
 simp only[Int.toNat_natCast,hx]
 refine wpAny_bind (wpAny_rule (wpAny_bind (wpAny_setField ho hd (by simp) ?_)))
 refine wpAny_bind ?_
 simp only[newExc,newTuple]
 refine wpAny_bind (wpAny_newObj_type ?_ (by size_fits))
 refine wpAny_bind (m:=firstArgMember _ _) (wpAny_of_eq (a:=Value.none) (by first | rfl |(simp only[firstArgMember];rfl)) (wpAny_newObj_type ?_ (by size_fits)))
 simp only[raiseNew]
 refine wpAny_bind (wpAny_handled ?_)
 first | rw[show A.in1.handled=none by simp[hh]] | rw[hh]
 exact wpAny_bind (wpAny_pure (wpAny_throw (q _ _ (((Heap.SameBut.update ..).extBut.push _).push _) ⟨_,Heap.get?_push_size _ rfl,rfl⟩)))
theorem nx_item {b:Bool} {it l:Addr} {i:Nat} {items:Array Value} {x:Value} {Q:Value→Shared→Prop} (hi:SIt b s.heap it l i) (hl:SSq b s.heap l items) (hx:items[i]? =some x)
  (q: ∀h',SIt b h' it l (i+1)→Heap.SameBut it s.heap h'→Q x {s with heap:=h'}):wpAny (model prog w) A (Builtin.SmallTypes.nextOf (.ref it)) Q E s:=by
 cases b
 ·exact tup_nx hi hl hx q
 ·exact wpAny_nextOf_list_item hi hl hx q
theorem nx_end {b:Bool} {it l:Addr} {i:Nat} {items:Array Value} {Q:Value→Shared→Prop} (hh:A.handled=none) (hi:SIt b s.heap it l i) (hl:SSq b s.heap l items) (hx:items[i]? =none)
  (q: ∀h' e,Heap.ExtBut it s.heap h'→(∃o,h'.get? e=some o∧o.cls= .type "StopIteration")→E (.ref e) {s with heap:=h'}):wpAny (model prog w) A (Builtin.SmallTypes.nextOf (.ref it)) Q E s:=by
 cases b
 ·exact tup_end hh hi hl hx q
 ·exact wpAny_nextOf_list_end hh hi hl hx q
end
section
variable {prog:Program} {w:World} {A:Around} {E:Value→Shared→Prop} {s:Shared}
structure ZOk (b1 b2:Bool) (h:Heap) (z TI TO i1 i2 l1 l2:Addr) (i:Nat):Prop where
 z:IsZip h z TI TO .none
 ti:IsPair h TI (.ref i1) (.ref i2)
 to: ∃a b,IsPair h TO a b
 s1:SIt b1 h i1 l1 i
 s2:SIt b2 h i2 l2 i
theorem ZOk.kept {b1 b2:Bool} {h h':Heap} {z TI TO i1 i2 l1 l2:Addr} {i:Nat} (x:ZOk b1 b2 h z TI TO i1 i2 l1 l2 i) (e: ∀c∈[z,TI,TO,i1,i2],∀o,h.get? c=some o→h'.get? c=some o):ZOk b1 b2 h' z TI TO i1 i2 l1 l2 i:=by
 obtain⟨a,b,h1⟩:=x.to
 exact⟨e z (by simp) _ x.z,e TI (by simp) _ x.ti,⟨a,b,e TO (by simp) _ h1⟩,x.s1.kept fun o q=>e i1 (by simp) o q,x.s2.kept fun o q=>e i2 (by simp) o q⟩
structure ZAp (z TI TO i1 i2 l1 l2:Addr):Prop where
 a1:TI≠z
 a2:TO≠z
 a3:i1≠z
 a4:i2≠z
 a5:TI≠TO
 a6:TI≠i1
 a7:TI≠i2
 a8:TO≠i1
 a9:TO≠i2
 a10:i1≠i2
 b1: ∀c∈[z,TO,i1,i2],l1≠c
 b2: ∀c∈[z,TO,i1,i2],l2≠c
theorem z_nx {b1 b2:Bool} {z TI TO i1 i2 l1 l2:Addr} {i:Nat} {xs ys:Array Value} {x y:Value} {elts:List Expr} {ct:Nat} {pos:Pos} {Q:Value→Shared→Prop} (D:ZAp z TI TO i1 i2 l1 l2) (Z:ZOk b1 b2 s.heap z TI TO i1 i2 l1 l2 i) (hl1:SSq b1 s.heap l1 xs) (hl2:SSq b2 s.heap l2 ys) (hx:xs[i]? =some x) (hy:ys[i]? =some y)
  (q: ∀h',ZOk b1 b2 h' z TI TO i1 i2 l1 l2 (i+1)→IsPair h' s.heap.objs.size x y→h'.objs.size=s.heap.objs.size+1→(∀c o,c∉[z,TO,i1,i2]→s.heap.get? c=some o→h'.get? c=some o)→Q (.ref s.heap.objs.size) {s with heap:=h'}):
  wpAny (model prog w) A (pyNext (.ref z)) (fun r s1=> ∃u,r=some u∧wpAny (model prog w) A (letOwnedTupleGo (.Tuple elts ct pos) (.ref z) u) (fun _ s2=>Q u s2) E s1) E s:=by
 obtain⟨hz,hTI,⟨a,b,hTO⟩,h1,h2⟩:=Z
 have hT:s.TypeIs (.ref z) "zip":=⟨_,hz,rfl⟩
 unfold pyNext
 refine wpAny_bind (wpAny_attempt (wpAny_callSpecial?_slot (name:=Str.ofString "__next__") hT F.slot_zip_next (wpAny_call_entry F.slot_zip_next hT F.entry_zip_next ?_ (F.args_zip_next_1 _))))
 refine wpAny_bind (show wpAny _ _ (pure (Value.ref z,[])) _ _ _ from wpAny_pure ?_)
 dsimp only
 refine wpAny_bind (wpAny_field hz rfl (x:= .bool false) rfl (wpAny_bind (wpAny_field hz rfl (x:= .ref TI) rfl (wpAny_bind (wpAny_seqItems hTI rfl ?_)))))
 dsimp only
 rw[if_neg (by simp)]
 refine wpAny_bind (show wpAny _ _ (Builtin.SmallTypes.ownedTupleIsFree (.ref z)) _ _ _ from wpAny_bind (wpAny_field hz rfl (x:= .none) rfl (wpAny_pure ?_)))
 rw[if_pos rfl]
 refine wpAny_bind (wpAny_rule (wpAny_bind (wpAny_field hz rfl (x:= .ref TO) rfl ?_)))
 dsimp only
 refine wpAny_bind (wpAny_setField_rec hz (by simp) fun k1 zk1 sb1=>wpAny_bind ?_)
 have g1:IsZip k1 z TI TO .ellipsis:=zk1
 simp only[List.zipIdx_cons,List.zipIdx_nil,List.forIn_cons,List.forIn_nil]
 have m1: ∀c o,c≠z→s.heap.get? c=some o→k1.get? c=some o:=fun c o n e=>sb1.extBut c o n e
 have nl1:=D.b1
 have nl2:=D.b2
 refine wpAny_bind (wpAny_bind (wpAny_onRaise (show wpAny _ _ (Builtin.SmallTypes.nextOf (.ref i1)>>=_) _ _ _ from wpAny_bind (nx_item (h1.kept fun o e=>m1 _ o D.a3 e) (hl1.kept fun o e=>m1 _ o (nl1 z (by simp)) e) hx fun k2 t2 sb2=>wpAny_pure ?_))))
 have m2: ∀c o,c≠z→c≠i1→s.heap.get? c=some o→k2.get? c=some o:=fun c o n1 n2 e=>sb2.extBut c o n2 (m1 c o n1 e)
 have p2:IsPair k2 TO a b:=m2 _ _ D.a2 D.a8 hTO
 refine wpAny_bind (wpAny_seqItems p2 rfl (wpAny_bind (wpAny_updateSeq_pair p2 fun k3 p3 sb3=>wpAny_bind (wpAny_letGo (wpAny_pure ?_)))))
 have p3':IsPair k3 TO x b:=p3
 have m3: ∀c o,c≠z→c≠i1→c≠TO→s.heap.get? c=some o→k3.get? c=some o:=fun c o n1 n2 n3 e=>sb3.extBut c o n3 (m2 c o n1 n2 e)
 refine wpAny_bind (wpAny_bind (wpAny_onRaise (show wpAny _ _ (Builtin.SmallTypes.nextOf (.ref i2)>>=_) _ _ _ from wpAny_bind (nx_item (h2.kept fun o e=>m3 _ o D.a4 (Ne.symm D.a10) (Ne.symm D.a9) e) (hl2.kept fun o e=>m3 _ o (nl2 z (by simp)) (nl2 i1 (by simp)) (nl2 TO (by simp)) e) hy fun k4 t4 sb4=>wpAny_pure ?_))))
 have p4:IsPair k4 TO x b:=sb4.extBut _ _ D.a9 p3'
 refine wpAny_bind (wpAny_seqItems p4 rfl (wpAny_bind (wpAny_updateSeq_pair p4 fun k5 p5 sb5=>wpAny_bind (wpAny_letGo (wpAny_pure (wpAny_pure ?_))))))
 have p5':IsPair k5 TO x y:=p5
 refine wpAny_bind (wpAny_seqItems p5' rfl (wpAny_bind (wpAny_newTuple ?_)))
 have sz:k5.objs.size=s.heap.objs.size:=by rw[sb5.1,sb4.1,sb3.1,sb2.1,sb1.1]
 have m5: ∀c o,c∉[z,TO,i1,i2]→s.heap.get? c=some o→k5.get? c=some o:=fun c o n e=>by
  simp only[List.mem_cons,List.not_mem_nil,or_false,not_or] at n
  exact sb5.extBut c o n.2.1 (sb4.extBut c o n.2.2.2 (m3 c o n.1 n.2.2.1 n.2.1 e))
 have z5:IsZip k5 z TI TO .ellipsis:=sb5.extBut _ _ (Ne.symm D.a2) (sb4.extBut _ _ (Ne.symm D.a4) (sb3.extBut _ _ (Ne.symm D.a2) (sb2.extBut _ _ (Ne.symm D.a3) g1)))
 have t1':SIt b1 k5 i1 l1 (i+1):=t2.kept fun o e=>sb5.extBut _ _ (Ne.symm D.a8) (sb4.extBut _ _ D.a10 (sb3.extBut _ _ (Ne.symm D.a8) e))
 have t2':SIt b2 k5 i2 l2 (i+1):=t4.kept fun o e=>sb5.extBut _ _ (Ne.symm D.a9) e
 have ti5:IsPair k5 TI (.ref i1) (.ref i2):=m5 _ _ (by simp[D.a1,D.a5,D.a6,D.a7]) hTI
 have hzlt:z<k5.objs.size:=Heap.lt_size z5
 refine wpAny_bind (show wpAny _ _ (Builtin.SmallTypes.ownedTupleHandOut (.ref z) (.ref k5.objs.size)) _ _ _ from ?_)
 unfold Builtin.SmallTypes.ownedTupleHandOut
 dsimp only
 have z6:IsZip (k5.push {cls:= .type "tuple",data:= .seq #[x,y]}) z TI TO .ellipsis:=Heap.get?_push_of_some _ z5
 refine wpAny_bind (wpAny_setField_rec z6 (by simp) fun k7 zk7 sb7=> ?_)
 have z7:IsZip k7 z TI TO (rawInt k5.objs.size):=zk7
 refine wpAny_setField_rec z7 (by simp) fun k8 zk8 sb8=> ?_
 have z8:IsZip k8 z TI TO (rawInt k5.objs.size):=zk8
 refine wpAny_pure ⟨_,rfl,wpAny_pure ⟨_,rfl,?_⟩⟩
 refine wpAny_letOwnedTupleGo_zip z8 fun k9 z9 sb9=> ?_
 have up: ∀c o,c≠z→(k5.push {cls:= .type "tuple",data:= .seq #[x,y]}).get? c=some o→k9.get? c=some o:=fun c o n e=>sb9.extBut c o n (sb8.extBut c o n (sb7.extBut c o n e))
 have up5: ∀c o,c≠z→k5.get? c=some o→k9.get? c=some o:=fun c o n e=>up c o n (Heap.get?_push_of_some _ e)
 have sz9:k9.objs.size=s.heap.objs.size+1:=by
  have e8:k8.objs.size=k7.objs.size:=sb8.1
  have e9:k9.objs.size=k8.objs.size:=sb9.1
  have e7:k7.objs.size=(k5.push {cls:= .type "tuple",data:= .seq #[x,y]}).objs.size:=sb7.1
  rw[e9,e8,e7,Heap.size_push,sz]
 have pr:IsPair k9 k5.objs.size x y:=up _ _ (Nat.ne_of_gt hzlt) (Heap.get?_push_size _ rfl)
 rw[sz] at pr
 show Q (.ref k5.objs.size) _
 rw[sz]
 refine q k9 ⟨z9,up5 _ _ D.a1 ti5,⟨_,_,up5 _ _ D.a2 p5'⟩,t1'.kept fun o e=>up5 _ o D.a3 e,t2'.kept fun o e=>up5 _ o D.a4 e⟩ pr sz9 fun c o n e=> ?_
 have n':=n
 simp only[List.mem_cons,List.not_mem_nil,or_false,not_or] at n'
 exact up5 c o n'.1 (m5 c o n e)
theorem z_end {b1 b2:Bool} {z TI TO i1 i2 l1 l2:Addr} {i:Nat} {xs ys:Array Value} {Q:Option Value→Shared→Prop} (hh:A.handled=none) (D:ZAp z TI TO i1 i2 l1 l2) (Z:ZOk b1 b2 s.heap z TI TO i1 i2 l1 l2 i) (hl1:SSq b1 s.heap l1 xs) (hl2:SSq b2 s.heap l2 ys) (he:xs[i]? =none∨ys[i]? =none)
  (q: ∀h',(∀c o,c∉[z,TO,i1,i2]→s.heap.get? c=some o→h'.get? c=some o)→Q none {s with heap:=h'}):wpAny (model prog w) A (pyNext (.ref z)) Q E s:=by
 obtain⟨hz,hTI,⟨a,b,hTO⟩,h1,h2⟩:=Z
 have hT:s.TypeIs (.ref z) "zip":=⟨_,hz,rfl⟩
 unfold pyNext
 have fin: ∀(k:Heap) (e:Addr),(∀c o,c∉[z,TO,i1,i2]→s.heap.get? c=some o→k.get? c=some o)→(∃o,k.get? e=some o∧o.cls= .type "StopIteration")→wpAny (model prog w) A (do if←isInstance (.ref e) (.type "StopIteration") then pure none else throw (.ref e)) Q E {s with heap:=k}:=fun k e kp ⟨o,ho,hc⟩=>
  wpAny_bind (wpAny_isInstance (T:="StopIteration") (b:=true) ⟨o,ho,hc⟩ isSubtype_stop (wpAny_pure (q k kp)))
 refine wpAny_bind (wpAny_attempt (wpAny_callSpecial?_slot (name:=Str.ofString "__next__") hT F.slot_zip_next (wpAny_call_entry F.slot_zip_next hT F.entry_zip_next ?_ (F.args_zip_next_1 _))))
 refine wpAny_bind (show wpAny _ _ (pure (Value.ref z,[])) _ _ _ from wpAny_pure ?_)
 dsimp only
 refine wpAny_bind (wpAny_field hz rfl (x:= .bool false) rfl (wpAny_bind (wpAny_field hz rfl (x:= .ref TI) rfl (wpAny_bind (wpAny_seqItems hTI rfl ?_)))))
 dsimp only
 rw[if_neg (by simp)]
 refine wpAny_bind (show wpAny _ _ (Builtin.SmallTypes.ownedTupleIsFree (.ref z)) _ _ _ from wpAny_bind (wpAny_field hz rfl (x:= .none) rfl (wpAny_pure ?_)))
 rw[if_pos rfl]
 refine wpAny_bind (wpAny_rule (wpAny_bind (wpAny_field hz rfl (x:= .ref TO) rfl ?_)))
 dsimp only
 refine wpAny_bind (wpAny_setField_rec hz (by simp) fun k1 zk1 sb1=>wpAny_bind ?_)
 have g1:IsZip k1 z TI TO .ellipsis:=zk1
 simp only[List.zipIdx_cons,List.zipIdx_nil,List.forIn_cons,List.forIn_nil]
 have m1: ∀c o,c≠z→s.heap.get? c=some o→k1.get? c=some o:=fun c o n e=>sb1.extBut c o n e
 have nl1:=D.b1
 have nl2:=D.b2
 have hin:A.in1.handled=none:=by simp[hh]
 cases hx:xs[i]? with
 | none=>
  refine wpAny_bind (wpAny_bind (wpAny_onRaise (show wpAny _ _ (Builtin.SmallTypes.nextOf (.ref i1)>>=_) _ _ _ from wpAny_bind (nx_end hin (h1.kept fun o e=>m1 _ o D.a3 e) (hl1.kept fun o e=>m1 _ o (nl1 z (by simp)) e) hx fun k2 ea eb hst=> ?_))))
  obtain⟨oe,hoe,hce⟩:=hst
  have z2:IsZip k2 z TI TO .ellipsis:=eb _ _ (Ne.symm D.a3) g1
  have nz:ea≠z:=fun e=>by subst e;rw[z2] at hoe;cases hoe;simp at hce
  refine wpAny_setField_rec z2 (by simp) fun k3 _ sb3=>fin k3 ea (fun c o n e=> ?_) ⟨oe,sb3.extBut _ _ nz hoe,hce⟩
  simp only[List.mem_cons,List.not_mem_nil,or_false,not_or] at n
  exact sb3.extBut c o n.1 (eb c o n.2.2.1 (m1 c o n.1 e))
 | some x=>
  have hy:ys[i]? =none:=he.resolve_left (by rw[hx];simp)
  refine wpAny_bind (wpAny_bind (wpAny_onRaise (show wpAny _ _ (Builtin.SmallTypes.nextOf (.ref i1)>>=_) _ _ _ from wpAny_bind (nx_item (h1.kept fun o e=>m1 _ o D.a3 e) (hl1.kept fun o e=>m1 _ o (nl1 z (by simp)) e) hx fun k2 t2 sb2=>wpAny_pure ?_))))
  have m2: ∀c o,c≠z→c≠i1→s.heap.get? c=some o→k2.get? c=some o:=fun c o n1 n2 e=>sb2.extBut c o n2 (m1 c o n1 e)
  have p2:IsPair k2 TO a b:=m2 _ _ D.a2 D.a8 hTO
  refine wpAny_bind (wpAny_seqItems p2 rfl (wpAny_bind (wpAny_updateSeq_pair p2 fun k3 p3 sb3=>wpAny_bind (wpAny_letGo (wpAny_pure ?_)))))
  have m3: ∀c o,c≠z→c≠i1→c≠TO→s.heap.get? c=some o→k3.get? c=some o:=fun c o n1 n2 n3 e=>sb3.extBut c o n3 (m2 c o n1 n2 e)
  refine wpAny_bind (wpAny_bind (wpAny_onRaise (show wpAny _ _ (Builtin.SmallTypes.nextOf (.ref i2)>>=_) _ _ _ from wpAny_bind (nx_end hin (h2.kept fun o e=>m3 _ o D.a4 (Ne.symm D.a10) (Ne.symm D.a9) e) (hl2.kept fun o e=>m3 _ o (nl2 z (by simp)) (nl2 i1 (by simp)) (nl2 TO (by simp)) e) hy fun k4 ea eb hst=> ?_))))
  obtain⟨oe,hoe,hce⟩:=hst
  have z4:IsZip k4 z TI TO .ellipsis:=eb _ _ (Ne.symm D.a4) (sb3.extBut _ _ (Ne.symm D.a2) (sb2.extBut _ _ (Ne.symm D.a3) g1))
  have nz:ea≠z:=fun e=>by subst e;rw[z4] at hoe;cases hoe;simp at hce
  refine wpAny_setField_rec z4 (by simp) fun k5 _ sb5=>fin k5 ea (fun c o n e=> ?_) ⟨oe,sb5.extBut _ _ nz hoe,hce⟩
  simp only[List.mem_cons,List.not_mem_nil,or_false,not_or] at n
  exact sb5.extBut c o n.1 (eb c o n.2.2.2 (m3 c o n.1 n.2.2.1 n.2.1 e))
end
section
variable {X:Cx} {pins:List (Addr×Obj)} {σ:List (Option V)} {H:Hp} {s:Shared} {h':Heap}
theorem inv_turnL {t':Nat} {fp:List Addr} (I:Inv X pins σ H s) (k: ∀b o,b∉fp→s.heap.get? b=some o→h'.get? b=some o) (hf: ∀b∈fp,FpOk X pins H b):Inv X pins σ H {s with heap:=h',toks:=t'}:=by
 have nit: ∀b u,H b=some u→b∉fp:=fun b u e z=>by rw[(hf b z).1] at e;cases e
 refine I.step (g':=s.gens) (d':=s.drawn) (ch:=fp) (fun b hb=> ?_) (fun b o _ _ hc e _=>k b o hc e) (fun b o _ _ hc e _=>⟨o.slots,k b o hc e⟩) (fun _ _ _ _ n=>n)
  (fun b o hc e=>⟨o,k b o hc e⟩) (fun _ _ e=>e) (fun _ _ _ e=>e) (fun b ps e=>⟨#[],by rw[e];simp⟩) (fun m hm=> ?_) (fun b u e=> ?_) I.bare
 ·obtain⟨f0,f1,f2,f3,f4,f5⟩:=hf b hb
  exact⟨f3,f1,f4,f5⟩
 ·obtain⟨o,es,ep,ho,r⟩:=hm
  exact⟨o,es,ep,k _ o (fun z=>(hf _ z).2.1 rfl) ho,r⟩
 ·refine (I.hok b u e).stay (fun c v hc q=>k c v ?_ q) (fun _ q=>q) fun _ _ q=>q
  rcases hc with z | z
  ·rw[z];exact nit b u e
  ·exact nit c _ z
end
noncomputable def SqB (K:PySem.W.Frag) (b:Bool) (H:Hp) (a:Addr) (xs:List V):Prop:=match b with
 | true=>SqL K H a xs
 | false=>SqT K H a xs
theorem SqB.mono {K:PySem.W.Frag} {b:Bool} {H H':Hp} {a:Addr} {xs:List V} (e:Same H H') (h:SqB K b H a xs):SqB K b H' a xs:=by
 cases b
 ·exact SqT.mono e h
 ·exact e.seq h
section
variable {X:Cx} {pins:List (Addr×Obj)} {σ:List (Option V)} {H:Hp} {s:Shared}
theorem inv_seq {b:Bool} {a:Addr} {xs:List V} (I:Inv X pins σ H s) (h:SqB X.K b H a xs): ∃its:List Value,Vals xs its∧SSq b s.heap a its.toArray:=by
 cases b
 ·obtain⟨its,r,⟨o,e1,e2,n,e3⟩,_⟩:=I.tuple h
  exact⟨its,r,⟨o,e1,e2,n,e3⟩⟩
 ·obtain⟨its,r,p,_⟩:=I.list h
  exact⟨its,r,p.isList⟩
theorem inv_seq_inj {b:Bool} {a:Addr} {xs ys:List V} (I:Inv X pins σ H s) (h1:SqB X.K b H a xs) (h2:SqB X.K b H a ys):xs=ys:=by
 cases b
 ·exact I.tuple_inj h1 h2
 ·exact I.list_inj h1 h2
end
noncomputable def Itz (K:PySem.W.Frag) (b1 b2:Bool) (l1 l2:Addr):It:=
 ⟨fun i H=> ∃xs ys v u,SqB K b1 H l1 xs∧SqB K b2 H l2 ys∧xs[i]? =some v∧ys[i]? =some u,
  fun i H x H'=> ∃p v u,x= .ref p∧H p=none∧H'=upd H p (.tup [v,u])∧(∀xs,SqB K b1 H l1 xs→xs[i]? =some v)∧∀ys,SqB K b2 H l2 ys→ys[i]? =some u,
  fun i H=> ∃xs ys,SqB K b1 H l1 xs∧SqB K b2 H l2 ys∧(xs.length≤i∨ys.length≤i)⟩
theorem turn_zip {P:Program} {w:World} {K:PySem.W.Frag} {elts:List Expr} {ct:Nat} {pos:Pos} {b1 b2:Bool} {z TI TO i1 i2 l1 l2:Addr} (D:ZAp z TI TO i1 i2 l1 l2):Turn P w K (.Tuple elts ct pos) (Itz K b1 b2 l1 l2) [z,TI,TO,i1,i2] z (fun i h=>ZOk b1 b2 h z TI TO i1 i2 l1 l2 i) where
 mem:=by simp
 obj:=fun i h st b hb=>by
  simp only[List.mem_cons,List.not_mem_nil,or_false] at hb
  rcases hb with rfl | rfl | rfl | rfl | rfl
  ·exact⟨_,st.z,fun v q=>by cases q⟩
  ·exact⟨_,st.ti,fun v q=>by cases q⟩
  ·obtain⟨a,b,h1⟩:=st.to
   exact⟨_,h1,fun v q=>by cases q⟩
  ·exact st.s1.obj
  ·exact st.s2.obj
 keep:=fun i h h' st k=>st.kept fun c hc o e=>k c hc o e
 item:=by
  intro X hP hw hK hc i pins s σ H E I hf st hg
  subst hP hw hK
  obtain⟨xs,ys,v,u,q1,q2,e1,e2⟩:=hg
  obtain⟨its,r1,s1⟩:=inv_seq I q1
  obtain⟨jts,r2,s2⟩:=inv_seq I q2
  obtain⟨x,hx,rx⟩:=r1.get e1
  obtain⟨y,hy,ry⟩:=r2.get e2
  have fin:=z_nx (prog:=X.prog) (w:=X.w) (A:=X.A) (E:=E) (elts:=elts) (ct:=ct) (pos:=pos) (x:=x) (y:=y) (Q:=fun uu s2=> ∃x' H',Inv X pins σ H' s2∧RelV x' uu∧(Itz X.K b1 b2 l1 l2).yld i H x' H'∧ZOk b1 b2 s2.heap z TI TO i1 i2 l1 l2 (i+1)∧∀b∈[z,TI,TO,i1,i2],H' b=none) D st s1 s2 (by simpa using hx) (by simpa using hy) (fun h' Z' pr sz kp=> ?_)
  ·refine wpAny_mono fin (fun r s3 ⟨uu,er,h3⟩=>⟨uu,er,h3⟩) (fun _ _ q=>q)
  ·have hp:H s.heap.objs.size=none:=I.hok.fresh (Nat.le_refl _)
   have I1:Inv X pins σ (upd H s.heap.objs.size (.tup [v,u])) {s with heap:=s.heap.push {cls:= .type "tuple",data:= .seq #[x,y]},toks:=s.toks}:=
    I.laid (fun b o e=>Heap.get?_push_of_some _ e) (Nat.le_refl _) (show aDs X.prog X.w _ _ _ (.tup _) from⟨by rw[sizeLine_eq];simp,[x,y],.cons rx (.cons ry .nil),_,Heap.get?_push_size _ rfl,rfl,⟨0,rfl⟩,rfl⟩)
   have lt: ∀b∈[z,TI,TO,i1,i2],b<s.heap.objs.size:=fun b hb=>by
    simp only[List.mem_cons,List.not_mem_nil,or_false] at hb
    rcases hb with rfl | rfl | rfl | rfl | rfl
    ·exact Heap.lt_size st.z
    ·exact Heap.lt_size st.ti
    ·obtain⟨a,b,h1⟩:=st.to
     exact Heap.lt_size h1
    ·obtain⟨o,ho,_⟩:=st.s1.obj
     exact Heap.lt_size ho
    ·obtain⟨o,ho,_⟩:=st.s2.obj
     exact Heap.lt_size ho
   have hn: ∀b∈[z,TI,TO,i1,i2],upd H s.heap.objs.size (.tup [v,u]) b=none:=fun b hb=>by
    rw[aB5 (Nat.ne_of_lt (lt b hb))]
    exact (hf b hb).1
   have I2:Inv X pins σ (upd H s.heap.objs.size (.tup [v,u])) {s with heap:=h',toks:=s.toks}:=inv_turnL (s:={s with heap:=s.heap.push {cls:= .type "tuple",data:= .seq #[x,y]},toks:=s.toks}) (fp:=[z,TI,TO,i1,i2]) I1 (fun b o nb e=> ?_) (fun b hb=>⟨hn b hb,(hf b hb).2⟩)
   ·refine⟨.ref s.heap.objs.size,_,I2,rfl,⟨_,v,u,rfl,hp,rfl,fun xs' q=>by rw[inv_seq_inj I q q1];exact e1,fun ys' q=>by rw[inv_seq_inj I q q2];exact e2⟩,Z',hn⟩
   ·by_cases eb:b=s.heap.objs.size
    ·subst eb
     have e':(s.heap.push {cls:= .type "tuple",data:= .seq #[x,y]}).get? s.heap.objs.size=some {cls:= .type "tuple",data:= .seq #[x,y]}:=Heap.get?_push_size _ rfl
     have e2':(s.heap.push {cls:= .type "tuple",data:= .seq #[x,y]}).get? s.heap.objs.size=some o:=e
     rw[e'] at e2'
     cases e2'
     exact pr
    ·have e':(s.heap.push {cls:= .type "tuple",data:= .seq #[x,y]}).get? b=some o:=e
     rw[Heap.get?_push_ne _ _ _ eb] at e'
     refine kp b o (fun q=>nb ?_) e'
     simp only[List.mem_cons,List.not_mem_nil,or_false] at q⊢
     rcases q with q | q | q | q<;>simp[q]
 done:=by
  intro X hP hw hK hc i pins s σ H E I hf st hg
  subst hP hw hK
  obtain⟨xs,ys,q1,q2,e⟩:=hg
  obtain⟨its,r1,s1⟩:=inv_seq I q1
  obtain⟨jts,r2,s2⟩:=inv_seq I q2
  have l1:=r1.length
  have l2:=r2.length
  refine z_end (I.ok.hd hc) D st s1 s2 (by rcases e with e | e;(left;simp;omega);(right;simp;omega)) fun h' kp=>⟨rfl,inv_turnL (t':=s.toks) (fp:=[z,TI,TO,i1,i2]) I (fun b o nb e=>kp b o (fun q=>nb ?_) e) hf⟩
  simp only[List.mem_cons,List.not_mem_nil,or_false] at q⊢
  rcases q with q | q | q | q<;>simp[q]
 self:=fun _ _ _ _ _ st h=>wpAny_pyIter_zip st.z h
noncomputable def zipD:List D→List D→List D
 | a::as,b::bs=> .tup [a,b]::zipD as bs
 | _,_=> []
theorem zipD_len: ∀(as bs:List D),(zipD as bs).length=min as.length bs.length
 | [],_=>by simp[zipD]
 | _::_,[]=>by simp[zipD]
 | a::as,b::bs=>by rw[zipD,List.length_cons,zipD_len as bs,List.length_cons,List.length_cons];omega
theorem zipD_get: ∀(as bs:List D) (i:Nat) (a b:D),as[i]? =some a→bs[i]? =some b→(zipD as bs)[i]? =some (.tup [a,b])
 | [],_,_,_,_,h,_=>by simp at h
 | _::_,[],_,_,_,_,h=>by simp at h
 | a::as,b::bs,0,x,y,h1,h2=>by simp at h1 h2;subst h1 h2;rfl
 | a::as,b::bs,i+1,x,y,h1,h2=>by
  rw[zipD,List.getElem?_cons_succ]
  exact zipD_get as bs i x y (by simpa using h1) (by simpa using h2)
theorem itd_zip {K:PySem.W.Frag} {b1 b2:Bool} {l1 l2:Addr} {as bs:List D} {xs ys:List V} {B:Hp} (h1:SqB K b1 B l1 xs) (h2:SqB K b2 B l2 ys) (r1:IsL K B as xs) (r2:IsL K B bs ys):ItD K (Itz K b1 b2 l1 l2) (zipD as bs) B where
 go:=fun j H e q=>by
  rw[zipD_len] at q
  have q1:j<xs.length:=by rw[←r1.length];omega
  have q2:j<ys.length:=by rw[←r2.length];omega
  exact⟨xs,ys,xs[j],ys[j],h1.mono e,h2.mono e,List.getElem?_eq_getElem q1,List.getElem?_eq_getElem q2⟩
 yld:=fun j H x H' e y q=>by
  obtain⟨p,v,u,rfl,hp,rfl,y1,y2⟩:=y
  obtain⟨a,a1,a2⟩:=r1.getV (y1 xs (h1.mono e))
  obtain⟨b,b1',b2'⟩:=r2.getV (y2 ys (h2.mono e))
  have s1:Same H (upd H p (.tup [v,u])):=aAw hp _
  exact⟨s1,.tup [a,b],zipD_get as bs j a b a1 b1',.tup (TQ.of aA6) (.cons (a2.mono (e.trans s1)) (.cons (b2'.mono (e.trans s1)) .nil))⟩
 stop:=fun j H e q=>by
  rw[zipD_len] at q
  refine⟨xs,ys,h1.mono e,h2.mono e,?_⟩
  rw[←r1.length,←r2.length]
  omega
noncomputable def aCe (b:Bool) (l:Addr):Obj:=match b with
 | true=>{cls:= .type "list_iterator",data:= .fields #[.ref l,.int 0 0]}
 | false=>{cls:= .type "tuple_iterator",data:= .fields #[.ref l,.int 0 0]}
section
variable {prog:Program} {w:World} {A:Around} {E:Value→Shared→Prop} {s:Shared}
theorem iter_seq {b:Bool} {l:Addr} {items:Array Value} {Q:Value→Shared→Prop} (hl:SSq b s.heap l items) (q:Q (.ref s.heap.objs.size) {s with heap:=s.heap.push (aCe b l)}):wpAny (model prog w) A (pyIter (.ref l)) Q E s:=by
 cases b
 ·exact wpAny_pyIter_tuple hl q
 ·exact wpAny_pyIter_list hl q
theorem itObj_st {b:Bool} {h:Heap} {it l:Addr} (e:h.get? it=some (aCe b l)):SIt b h it l 0:=by
 cases b
 ·exact⟨_,e,rfl,rfl⟩
 ·exact⟨_,e,rfl,rfl⟩
theorem itObj_alive (b:Bool) (l:Addr):(aCe b l).isFreed=false:=by cases b<;>rfl
end
noncomputable abbrev zk5 (b1 b2:Bool) (h:Heap) (l1 l2:Addr):Heap:=
 ((((h.push (aCe b1 l1)).push (aCe b2 l2)).push {cls:= .type "tuple",data:= .seq #[.ref h.objs.size,.ref (h.push (aCe b1 l1)).objs.size]}).push {cls:= .type "tuple",data:= .seq #[.none,.none]}).push
  {cls:= .type "zip",data:= .fields #[.none,.bool false,.bool false,.ref ((h.push (aCe b1 l1)).push (aCe b2 l2)).objs.size,.ref (((h.push (aCe b1 l1)).push (aCe b2 l2)).push {cls:= .type "tuple",data:= .seq #[.ref h.objs.size,.ref (h.push (aCe b1 l1)).objs.size]}).objs.size]}
theorem zip_new_meets (b1 b2:Bool) (l1 l2:Addr) (xs ys:Array Value):
  Meets (Builtin.«zip.__new__» ⟨[.type "zip",.ref l1,.ref l2],[]⟩) (fun _ R s=>SSq b1 s.heap l1 xs∧SSq b2 s.heap l2 ys∧
   R (.ok (.ret (.ref (s.heap.objs.size+4)))) {s with heap:=zk5 b1 b2 s.heap l1 l2}):=
 .of_wp fun prog w A R s h=>by
  obtain⟨hp,g,d,tk,os⟩:=s
  obtain⟨hl1,hl2,h⟩:=h
  have hsub:=sub_zip
  have k1:SSq b1 (Shared.heap ⟨hp,g,d,tk,os⟩) l1 xs:=hl1
  have k2:SSq b2 (Shared.heap ⟨hp.push (aCe b1 l1),g,d,tk,os⟩) l2 ys:=hl2.kept fun o e=>Heap.get?_push_of_some _ e
  wp_walk using iter_seq k1,iter_seq k2
  refine⟨_,rfl,?_⟩
  have e:((((hp.push (aCe b1 l1)).push (aCe b2 l2)).push {cls:= .type "tuple",data:= .seq #[.ref hp.objs.size,.ref (hp.push (aCe b1 l1)).objs.size]}).push {cls:= .type "tuple",data:= .seq #[.none,.none]}).objs.size=hp.objs.size+4:=by
   rw[Heap.size_push,Heap.size_push,Heap.size_push,Heap.size_push]
  have h':=h
  rw[←e] at h'
  exact h'
section
variable {prog:Program} {w:World} {A:Around} {E:Value→Shared→Prop} {s:Shared}
theorem call_zip {b1 b2:Bool} {l1 l2:Addr} {xs ys:Array Value} {Q:Value→Shared→Prop} (hl1:SSq b1 s.heap l1 xs) (hl2:SSq b2 s.heap l2 ys)
  (q: ∀h',ZOk b1 b2 h' (s.heap.objs.size+4) (s.heap.objs.size+2) (s.heap.objs.size+3) s.heap.objs.size (s.heap.objs.size+1) l1 l2 0→(∀c o,s.heap.get? c=some o→h'.get? c=some o)→Q (.ref (s.heap.objs.size+4)) {s with heap:=h'}):
  wpAny (model prog w) A (call (.type "zip") [.ref l1,.ref l2]) Q E s:=by
 refine callType_new F.called_zip (by decide) (F.typeCall_zip_2 _ _) (F.newCall_zip_2 _ _) (fun obj=>F.args_object_init_3 obj _ _) F.entry_zip_new (zip_new_meets b1 b2 l1 l2 xs ys) ⟨hl1,hl2,?_⟩
 show _∧_
 unfold zk5
 have n1:(s.heap.push (aCe b1 l1)).objs.size=s.heap.objs.size+1:=Heap.size_push ..
 have n2:((s.heap.push (aCe b1 l1)).push (aCe b2 l2)).objs.size=s.heap.objs.size+2:=by rw[Heap.size_push,n1]
 generalize hT:({cls:= .type "tuple",data:= .seq #[.ref s.heap.objs.size,.ref (s.heap.push (aCe b1 l1)).objs.size]}:Obj)=T1
 have n3:(((s.heap.push (aCe b1 l1)).push (aCe b2 l2)).push T1).objs.size=s.heap.objs.size+3:=by rw[Heap.size_push,n2]
 generalize hO:({cls:= .type "tuple",data:= .seq #[.none,.none]}:Obj)=T2
 have n4:((((s.heap.push (aCe b1 l1)).push (aCe b2 l2)).push T1).push T2).objs.size=s.heap.objs.size+4:=by rw[Heap.size_push,n3]
 have fT:T1.isFreed=false:=by rw[←hT];rfl
 have fO:T2.isFreed=false:=by rw[←hO];rfl
 rw[n2,n3]
 generalize hZ:({cls:= .type "zip",data:= .fields #[.none,.bool false,.bool false,.ref (s.heap.objs.size+2),.ref (s.heap.objs.size+3)]}:Obj)=Z
 have fZ:Z.isFreed=false:=by rw[←hZ];rfl
 have up: ∀{h:Heap} {c:Addr} {o o':Obj},h.get? c=some o→(h.push o').get? c=some o:=fun e=>Heap.get?_push_of_some _ e
 have g1:(s.heap.push (aCe b1 l1)).get? s.heap.objs.size=some (aCe b1 l1):=Heap.get?_push_size _ (itObj_alive b1 l1)
 have g2:((s.heap.push (aCe b1 l1)).push (aCe b2 l2)).get? (s.heap.objs.size+1)=some (aCe b2 l2):=by rw[←n1];exact Heap.get?_push_size _ (itObj_alive b2 l2)
 have g3:(((s.heap.push (aCe b1 l1)).push (aCe b2 l2)).push T1).get? (s.heap.objs.size+2)=some T1:=by rw[←n2];exact Heap.get?_push_size _ fT
 have g4:((((s.heap.push (aCe b1 l1)).push (aCe b2 l2)).push T1).push T2).get? (s.heap.objs.size+3)=some T2:=by rw[←n3];exact Heap.get?_push_size _ fO
 have g5:(((((s.heap.push (aCe b1 l1)).push (aCe b2 l2)).push T1).push T2).push Z).get? (s.heap.objs.size+4)=some Z:=by rw[←n4];exact Heap.get?_push_size _ fZ
 have z5:IsZip (((((s.heap.push (aCe b1 l1)).push (aCe b2 l2)).push T1).push T2).push Z) (s.heap.objs.size+4) (s.heap.objs.size+2) (s.heap.objs.size+3) .none:=by rw[←hZ] at g5⊢;exact g5
 have t1:IsPair (((((s.heap.push (aCe b1 l1)).push (aCe b2 l2)).push T1).push T2).push Z) (s.heap.objs.size+2) (.ref s.heap.objs.size) (.ref (s.heap.objs.size+1)):=by
  have:=up (o':=Z) (up (o':=T2) g3)
  rw[←hT,n1] at this
  rw[←hT,n1]
  exact this
 have t2:IsPair (((((s.heap.push (aCe b1 l1)).push (aCe b2 l2)).push T1).push T2).push Z) (s.heap.objs.size+3) .none .none:=by
  have:=up (o':=Z) g4
  rw[←hO] at this⊢
  exact this
 have zo:ZOk b1 b2 (((((s.heap.push (aCe b1 l1)).push (aCe b2 l2)).push T1).push T2).push Z) (s.heap.objs.size+4) (s.heap.objs.size+2) (s.heap.objs.size+3) s.heap.objs.size (s.heap.objs.size+1) l1 l2 0:=
  ⟨z5,t1,⟨_,_,t2⟩,itObj_st (up (up (up (up g1)))),itObj_st (up (up (up g2)))⟩
 exact⟨⟨_,g5,by rw[←hZ]⟩,q _ zo fun c o e=>up (up (up (up (up e))))⟩
end
section
variable {X:Cx} {B:Hp} {a b:Expr} {fa fb:Rho→M D} {pos p:Pos} {elts:List Expr} {ct:Nat} {tp:Pos}
noncomputable def itZ (fa fb:Rho→M D):Rho→M (List D):=fun ρ=>bnd (aAe fa (aAe fb aAs) ρ) fun ds=>match ds with
 | [x,y]=>bnd (itD x) fun as=>bnd (itD y) fun bs=>ok (zipD as bs)
 | _=>none
theorem zap_of {n l1 l2:Nat} (h1:l1<n) (h2:l2<n):ZAp (n+4) (n+2) (n+3) n (n+1) l1 l2:=by
 have g: ∀c∈[n+4,n+3,n,n+1],n≤c:=fun c hc=>by
  simp only[List.mem_cons,List.not_mem_nil,or_false] at hc
  rcases hc with rfl | rfl | rfl | rfl<;>first | exact Nat.le_refl _ | exact Nat.le_add_right _ _
 have e: ∀{a b:Nat},a<b→a≠b:=fun h=>Nat.ne_of_lt h
 have e': ∀{a b:Nat},b<a→a≠b:=fun h=>Nat.ne_of_gt h
 exact⟨e (by omega),e (by omega),e (by omega),e (by omega),e (by omega),e' (by omega),e' (by omega),e' (by omega),e' (by omega),e (by omega),fun c hc=>e (Nat.lt_of_lt_of_le h1 (g c hc)),fun c hc=>e (Nat.lt_of_lt_of_le h2 (g c hc))⟩
theorem boot_zip:bootBuiltins "zip"=some (.type "zip"):=by decide+kernel
theorem seq_of {K:PySem.W.Frag} {H:Hp} {d:D} {v:V} {ds:List D} (i:Is K H d v) (h:itD d=ok ds): ∃(k:Bool) (l:Addr) (vs:List V),v= .ref l∧SqB K k H l vs∧IsL K H ds vs:=by
 cases i with
 | lst hh rr=>cases h;exact⟨true,_,_,rfl,hh,rr⟩
 | tup hh rr=>cases h;exact⟨false,_,_,rfl,hh.sq,rr⟩
 | _=>cases h
theorem pit_zip (hg:Gl X "zip") (hm:X.mg "zip"=none) (ha:PD X B a fa) (hb:PD X B b fb) (hs:aD0 a=true:=by rfl) (hs2:aD0 b=true:=by rfl):PIt X B (.Tuple elts ct tp) (.Call (.Name "zip" p) [a,b] [] pos) (itZ fa fb):=by
 intro pins s σ H R ρ I r q
 have st1:starEach [a,b] X.env=[(false,eval a X.env),(false,eval b X.env)]:=by rw[aBg hs,star1 hs2]
 refine Call_ (ld_blt I hg hm boot_zip (PyProof.Rows.callWith_type1 (thn (aAb ha (aAb hb aAh (aBg hs2)) (aBg hs) pos pins s σ H (fun vs H1=> ∃ds,IsL X.K H1 ds vs∧Same H H1∧Res X σ H1 (fun es=> ∀J H2,Same H H2→ItD X.K J es H2→R J H2) (match ds with | [x,y]=>bnd (itD x) fun as=>bnd (itD y) fun bs=>ok (zipD as bs) | _=>none)) I ⟨ρ,r,(Res.bind q).imp fun ds q1 vs H1 e1 i1=>⟨ds,i1,e1,q1.mono e1 fun _ z=>z⟩⟩) fun us s1 ⟨vs,H1,I1,r1,ds,i1,e1,q1⟩=> ?_) (by rw[st1,star1 hs2]) (by rw[star1 hs2];rfl)))
 split at q1
 ·rename_i x y
  cases i1 with
  | cons ix i1=>
   cases i1 with
   | cons iy i1=>
    cases i1
    have qx:=Res.bind q1
    cases hx:itD x with
    | none=>rw[hx] at qx;exact False.elim qx
    | some z=>
     cases z with
     | error c=>cases x<;>cases hx
     | ok as=>
      rw[hx] at qx
      have qy:=Res.bind (show Res X σ H1 _ (bnd (itD y) fun bs=>ok (zipD as bs)) from qx)
      cases hy:itD y with
      | none=>rw[hy] at qy;exact False.elim qy
      | some z=>
       cases z with
       | error c=>cases y<;>cases hy
       | ok bs=>
        rw[hy] at qy
        obtain⟨k1,l1,xs,rfl,s1',r1'⟩:=seq_of ix hx
        obtain⟨k2,l2,ys,rfl,s2',r2'⟩:=seq_of iy hy
        cases r1 with
        | cons rx rr=>
         cases rr with
         | cons ry rr=>
          cases rr
          cases rx
          cases ry
          obtain⟨its,v1,t1⟩:=inv_seq I1 s1'
          obtain⟨jts,v2,t2⟩:=inv_seq I1 s2'
          refine call_zip t1 t2 fun h' Z kp=> ?_
          refine wpAny_pyIter_zip Z.z ?_
          have I2:Inv X pins σ H1 {s1 with heap:=h'}:=I1.kept (t':=s1.toks) fun b o e=>kp b o e
          have lt1:l1<s1.heap.objs.size:=by cases k1<;>(obtain⟨o,ho,_⟩:=t1;exact Heap.lt_size ho)
          have lt2:l2<s1.heap.objs.size:=by cases k2<;>(obtain⟨o,ho,_⟩:=t2;exact Heap.lt_size ho)
          have ap:ZAp (s1.heap.objs.size+4) (s1.heap.objs.size+2) (s1.heap.objs.size+3) s1.heap.objs.size (s1.heap.objs.size+1) l1 l2:=by
           exact zap_of lt1 lt2
          refine⟨s1.heap.objs.size+4,[s1.heap.objs.size+4,s1.heap.objs.size+2,s1.heap.objs.size+3,s1.heap.objs.size,s1.heap.objs.size+1],_,_,H1,rfl,I2,turn_zip ap,Z,fun b hb=> ?_,qy _ H1 e1 (itd_zip s1' s2' r1' r2')⟩
          have hb':s1.heap.objs.size≤b:=by
           simp only[List.mem_cons,List.not_mem_nil,or_false] at hb
           rcases hb with rfl | rfl | rfl | rfl | rfl<;>first | exact Nat.le_refl _ | exact Nat.le_add_right _ _
          exact I1.fpOk hb' (I1.hok.fresh hb')
 ·exact False.elim q1
end
noncomputable def lexS:List Str→List Str→Bool
 | [],[]=>false
 | [],_::_=>true
 | _::_,[]=>false
 | x::xs,y::ys=>if x=y then lexS xs ys else decide (x.cps.toList<y.cps.toList)
theorem lexS_ends: ∀{xs ys:List Str},(xs=[]∨ys=[])→lexS xs ys=decide (xs.length<ys.length)
 | [],[],_=>rfl
 | [],_::_,_=>by simp[lexS]
 | _::_,[],_=>by simp[lexS]
 | _::_,_::_,h=>by rcases h with h | h<;>cases h
end L2.PU
namespace L2.PU
open PySem PySem.Spec PyProof.Rows PySem.W
noncomputable def runT {α:Type} (lt:Nat→Nat→Bool):KasT α→α
 | .ret a=>a
 | .ask i j k=>runT lt (k (lt i j))
noncomputable def okP {α:Type} (n:Nat) (R:α→Prop):KasT α→Prop
 | .ret a=>R a
 | .ask i j k=>i<n∧j<n∧∀b,okP n R (k b)
theorem okP.bind {α β:Type} {n:Nat} {R:α→Prop} {S:β→Prop} {f:α→KasT β} (hf: ∀a,R a→okP n S (f a)): ∀(t:KasT α),okP n R t→okP n S (t.bind f)
 | .ret a,h=>hf a h
 | .ask i j k,h=>⟨h.1,h.2.1,fun b=>okP.bind hf (k b) (h.2.2 b)⟩
theorem runT_wp {n:Nat} {R:Array Nat→Prop} {lt:Nat→Nat→Bool} {cmp:Nat→Nat→(Bool→Shared→Prop)→Shared→Prop} {Q:Array Nat→Shared→Prop} {s:Shared} (hc: ∀i j C,i<n→j<n→C (lt i j) s→cmp i j C s): ∀(t:KasT (Array Nat)),okP n R t→Q (runT lt t) s→t.kasWp cmp Q s
 | .ret _,_,h=>h
 | .ask i j k,o,h=>hc i j _ o.1 o.2.1 (runT_wp hc (k (lt i j)) (o.2.2 _) h)
theorem runT_R {α:Type} {n:Nat} {R:α→Prop} {lt:Nat→Nat→Bool}: ∀(t:KasT α),okP n R t→R (runT lt t)
 | .ret _,o=>o
 | .ask i j k,o=>runT_R (k (lt i j)) (o.2.2 _)
noncomputable def Plc (n:Nat) (p:Array Nat):Prop:=p.toList.Perm (List.range n)
theorem Plc.lt {n:Nat} {p:Array Nat} (h:Plc n p) (hn:0<n) (k:Nat):p.getD k 0<n:=by
 by_cases hk:k<p.size
 ·have e:p.getD k 0=p[k]:=by simp[Array.getD,hk]
  rw[e]
  have:=(h.mem_iff (a:=p[k])).mp (by simp)
  exact List.mem_range.mp this
 ·have e:p.getD k 0=0:=by simp[Array.getD,hk]
  rw[e];exact hn
theorem Plc.of {n:Nat} {p p':Array Nat} (h:Plc n p) (q:p'.Perm p):Plc n p':=(Array.perm_iff_toList_perm.mp q).trans h
theorem Plc.rev {n:Nat} {p:Array Nat} (h:Plc n p) (i j:Nat):Plc n (kas_rev p i j):=h.of (mirror_perm _ _ _ _)
theorem ok_asc {n:Nat} {p:Array Nat} (hn:0<n) (h:Plc n p): ∀f m,okP n (fun _=>True) (kas_asc p f m)
 | 0,_=>trivial
 | f+1,m=>⟨h.lt hn _,h.lt hn _,fun b=>by
  cases b
  ·exact ok_asc hn h f (m+1)
  ·exact trivial⟩
theorem ok_desc {n:Nat} (hn:0<n): ∀f (p:Array Nat) m q,Plc n p→okP n (fun r=>Plc n r.1) (kas_desc f p m q)
 | 0,_,_,_,h=>h
 | f+1,p,m,q,h=>⟨h.lt hn _,h.lt hn _,fun b=>by
  cases b
  ·refine⟨h.lt hn _,h.lt hn _,fun d=> ?_⟩
   cases d
   ·exact ok_desc hn f p (m+1) (q+1) h
   ·exact h
  ·show okP n _ (if q>0 then kas_desc f (kas_rev p (m-(q+1)) m) (m+1) 0 else kas_desc f p (m+1) 0)
   split
   ·exact ok_desc hn f _ _ _ (h.rev _ _)
   ·exact ok_desc hn f _ _ _ h⟩
theorem ok_tail3 {n:Nat} {p:Array Nat} (hn:0<n) (h:Plc n p) (m r:Nat):okP n (fun x=>Plc n x.2) (kas_tail3 m r p):=by
 unfold kas_tail3
 refine okP.bind (R:=fun _=>True) (fun a _=> ?_) _ (ok_asc hn (h.rev 0 m) _ _)
 exact h.rev 0 m
theorem ok_descPart {n:Nat} {p:Array Nat} (hn:0<n) (h:Plc n p) (m r:Nat):okP n (fun x=>Plc n x.2) (kas_descPart m r p):=by
 refine okP.bind (fun x hx=> ?_) _ (ok_desc hn _ _ _ _ h)
 split
 ·exact ok_tail3 hn (hx.rev _ _) _ _
 ·exact ok_tail3 hn hx _ _
theorem ok_count {n:Nat} {p:Array Nat} (hn:0<n) (h:Plc n p) (r:Nat):okP n (fun x=>Plc n x.2) (kas_count r p):=by
 refine okP.bind (fun m _=> ?_) _ (ok_asc hn h _ _)
 split
 ·exact h
 ·split
  ·refine⟨h.lt hn _,h.lt hn _,fun c=> ?_⟩
   cases c
   ·exact ok_descPart hn (h.rev _ _) _ _
   ·exact h
  ·exact ok_descPart hn h _ _
theorem ok_place {n:Nat} {p:Array Nat} (hn:0<n) (h:Plc n p) (k:Nat): ∀f l r,okP n (fun _=>True) (kas_place p k f l r)
 | 0,_,_=>trivial
 | f+1,l,r=>by
  unfold kas_place
  split
  ·exact trivial
  ·refine⟨h.lt hn _,h.lt hn _,fun c=> ?_⟩
   cases c
   ·exact ok_place hn h k f _ _
   ·exact ok_place hn h k f _ _
theorem ok_bin {n:Nat} (hn:0<n): ∀f (p:Array Nat) k,Plc n p→okP n (Plc n) (kas_bin f p k)
 | 0,_,_,h=>h
 | f+1,p,k,h=>okP.bind (fun l _=>ok_bin hn f _ _ (h.of (bubble_perm _ _ _))) _ (ok_place hn h k _ _ _)
theorem ok_sort {n:Nat} (hn:0<n):okP n (Plc n) (kas_sort n):=by
 refine okP.bind (fun x hx=> ?_) _ (ok_count hn (p:=List.toArray (List.range n)) (List.Perm.refl _) _)
 split
 ·exact ok_bin hn _ _ _ hx
 ·exact hx
noncomputable def outT (lt:Nat→Nat→Bool) (n:Nat):List Nat:=if n<2 then List.range n else (runT lt (kas_sort n)).toList
theorem outT_perm (lt:Nat→Nat→Bool) (n:Nat):(outT lt n).Perm (List.range n):=by
 unfold outT
 split
 ·exact List.Perm.refl _
 ·exact runT_R _ (ok_sort (by omega))
section
variable {prog:Program} {w:World} {A:Around} {E:Value→Shared→Prop} {s:Shared}
theorem sort_T {a:Addr} {vs:List Value} {n:Nat} {lt:Nat→Nat→Bool} {P:PySem.Fin→Shared→Prop} (ho:s.heap.get? a=some (seqObj "list" vs.toArray n)) (h64:vs.length<64)
  (hc:2≤vs.length→∀s':Shared,(∀b o,b≠a→s.heap.get? b=some o→s'.heap.get? b=some o)→wpAny (model prog w) A (keyKind' vs.toArray) (fun κ s''=>s''=s'∧∀i j C,i<vs.length→j<vs.length→C (lt i j) s'→kas_ask prog w A κ vs i j C s') (fun _ _=>False) s')
  (h:P (.done (.ret .none)) {s with heap:=sortedHeap s.heap a vs ((outT lt vs.length).map fun i=>vs.getD i Value.none).toArray}):
  wpAny (model prog w) A (Builtin.«list.sort» ⟨[.ref a],[]⟩) P E s:=by
 rw[list_sort_plain]
 have ha:a<s.heap.objs.size:=Heap.lt_size ho
 refine wpAny_bind (listItems_at ho rfl ?_)
 refine wpAny_bind (listUpdate_at ho rfl ?_)
 obtain⟨e1,ho1⟩: ∃e1,(s.heap.update a (Obj.mapSeq fun _=> #[])).get? a=some (seqObj "list" #[] e1):=⟨_,get?_update_seq ho (fun _=> #[])⟩
 refine wpAny_bind (seqEpoch_at ho1 rfl ?_)
 refine wpAny_bind (wpAny_newTuple ?_)
 refine wpAny_bind (wpAny_newList ?_)
 refine wpAny_holding ?_
 have hk6: ∀b o,b≠a→s.heap.get? b=some o→(((s.heap.update a (Obj.mapSeq fun _=> #[])).push (seqObj "tuple" vs.toArray 0)).push (seqObj "list" #[] 0)).get? b=some o:=fun b o nb e=>Heap.get?_push_of_some _ (Heap.get?_push_of_some _ ((Heap.get?_update_other _ _ (Ne.symm nb)).trans e))
 have ho6:(((s.heap.update a (Obj.mapSeq fun _=> #[])).push (seqObj "tuple" vs.toArray 0)).push (seqObj "list" #[] 0)).get? a=some (seqObj "list" #[] e1):=Heap.get?_push_of_some _ (Heap.get?_push_of_some _ ho1)
 show wpAny (model prog w) A _ P E {s with heap:=((s.heap.update a (Obj.mapSeq fun _=> #[])).push (seqObj "tuple" vs.toArray 0)).push (seqObj "list" #[] 0)}
 dsimp only
 have hsz:vs.toArray.size=vs.length:=by simp
 by_cases h2:vs.toArray.size<2
 ·rw[if_pos h2,if_pos h2]
  refine wpAny_bind (wpAny_pure ?_)
  rw[StateT.run_pure]
  refine wpAny_bind (wpAny_pure ?_)
  dsimp only
  refine wpAny_bind (seqEpoch_at ho6 rfl ?_)
  refine wpAny_bind (listUpdate_at ho6 rfl ?_ (hsz2:=by rw[Array.size_map];show (pairsOf vs).size≤_;rw[pairsOf_size,sizeLine_eq];omega))
  simp only[bne_self_eq_false,Bool.false_eq_true,if_false]
  refine wpAny_pure ?_
  have eo:((outT lt vs.length).map fun i=>vs.getD i Value.none).toArray=Array.map (fun x=>x.2) (arrOf (SortSt.mk' general' (vs.toArray.zip vs.toArray) #[] 7 none)):=by
   unfold outT
   rw[if_pos (by rw[hsz] at h2;exact h2)]
   have hl:vs.length<2:=by rw[hsz] at h2;exact h2
   show _=Array.map (fun x=>x.2) (vs.toArray.zip vs.toArray)
   apply Array.ext
   ·simp
   ·intro i h1 h3
    simp at h1
    simp[h1]
  rw[eo] at h
  exact h
 ·rw[if_neg h2,if_neg h2]
  have h2':2≤vs.length:=by rw[hsz] at h2;omega
  refine wpAny_bind (wpAny_mono (hc h2' {s with heap:=((s.heap.update a (Obj.mapSeq fun _=> #[])).push (seqObj "tuple" vs.toArray 0)).push (seqObj "list" #[] 0)} hk6) (fun κ s0 hs0=> ?_) fun _ _ x=>x.elim)
  obtain⟨e0,ask⟩:=hs0
  subst e0
  refine wpAny_bind (wpAny_mono (kat_run (ks:=vs) (vs:=vs) (κ:=κ) (G:=fun p s'=>p=runT lt (kas_sort vs.length)∧s'={s with heap:=((s.heap.update a (Obj.mapSeq fun _=> #[])).push (seqObj "tuple" vs.toArray 0)).push (seqObj "list" #[] 0)})
   (Q:=fun st' s'=>s'={s with heap:=((s.heap.update a (Obj.mapSeq fun _=> #[])).push (seqObj "tuple" vs.toArray 0)).push (seqObj "list" #[] 0)}∧failedOf st'=none∧(runT lt (kas_sort vs.length)).size=vs.length∧arrOf st'=(runT lt (kas_sort vs.length)).map (kas_item (vs.toArray.zip vs.toArray)))
   rfl h2' h64 (fun p st' s' a1 a2 a3 a4=>⟨a4.2,a3,by rw[←a4.1];exact a1,by rw[←a4.1];exact a2⟩) (runT_wp ask _ (ok_sort (by omega)) ⟨rfl,rfl⟩)) ?_ fun _ _ e=>e)
  rintro⟨⟨⟩,st'⟩ s' ⟨rfl,hf,hp,har⟩
  dsimp only
  have hout:=kat_snds (ks:=vs) (vs:=vs) rfl har
  rw[hout]
  refine wpAny_bind (seqEpoch_at ho6 rfl ?_)
  refine wpAny_bind (listUpdate_at ho6 rfl ?_ (hsz2:=by rw[List.size_toArray,List.length_map,Array.length_toList,hp,sizeLine_eq];omega))
  rw[hf]
  simp only[bne_self_eq_false,Bool.false_eq_true,if_false]
  refine wpAny_pure ?_
  unfold outT at h
  rw[if_neg (by omega)] at h
  exact h
end
end L2.PU
namespace L2.PU
open PySem PySem.Spec PyProof.Rows
noncomputable def keyOf:D→Option Key
 | .int i=>some (.inl i)
 | .str x=>some (.inr x)
 | _=>none
noncomputable def keysOf:List D→Option (List Key)
 | []=>some []
 | d::ds=>match keyOf d,keysOf ds with | some k,some ks=>some (k::ks) | _,_=>none
section
variable {X:Cx} {B:Hp} {e:Expr} {fa:Rho→M D} {pos p apos cpos:Pos} {x:Str} {i:Nat}
noncomputable def rExt2 (K:PySem.W.Frag):V→List V→Hp→VK→Prop:=fun x vs H Q=> ∃l b xs zs,x= .ref l∧vs=[.ref b]∧H l=some (.lst xs)∧(SqL K H b zs∨SqT K H b zs)∧xs.length+zs.length≤sizeLine∧Q .non (upd H l (.lst (xs++zs)))
theorem mt_ext2:MtM X "list.extend" (rExt2 X.K):=by
 intro pins s σ H x vs v us Q I rx rv h
 obtain⟨l,b,xs,zs,rfl,rfl,hH,hB,hz,q⟩:=h
 cases rx
 obtain⟨u,rfl,ru⟩:=rv.one
 cases ru
 obtain⟨z,its,n,r,hl,e⟩:=I.lstM hH
 obtain⟨its2,r2,o2,n2,ho2,hc2,hd2⟩: ∃its2:List Value,Vals zs its2∧∃(o2:Obj) (n2:Nat),s.heap.get? b=some o2∧(o2.cls= .type "list"∨o2.cls= .type "tuple")∧o2.data= .seq its2.toArray n2:=by
  rcases hB with hB | hB
  ·obtain⟨its2,r2,⟨o2,n2,ho2,hc2,_,hd2⟩,z2⟩:=I.list hB
   exact⟨its2,r2,o2,n2,ho2,.inl hc2,hd2⟩
  ·obtain⟨its2,r2,⟨o2,ho2,hc2,n2,hd2⟩,z2⟩:=I.tuple hB
   exact⟨its2,r2,o2,n2,ho2,.inr hc2,hd2⟩
 have hl2:=r2.length
 have hsz:its.toArray.size+its2.toArray.size≤sizeLine:=by rw[List.size_toArray,List.size_toArray];omega
 refine wpAny_call_entry F.slot_list_extend ⟨_,e,rfl⟩ F.entry_list_extend ?_ (F.args_list_extend_2 _ _)
 show wpAny _ _ (Builtin.List.listExtendWith (.ref l) (.ref b) .none) _ _ _
 unfold Builtin.List.listExtendWith
 have ht:(Value.type "list"==Value.type "list")=true:=by rfl
 have ht2:(Value.type "tuple"==Value.type "tuple")=true:=by rfl
 rcases hc2 with hc2 | hc2
 ·refine wpAny_bind (wpAny_typeOf (T:="list") ⟨o2,ho2,hc2⟩ ?_)
  rw[if_pos (by rw[ht];simp)]
  refine wpAny_bind (listItems_at ho2 hd2 (wpAny_bind (listItems_at e rfl ?_)))
  rw[if_neg (by rw[notLongL hsz,Bool.and_false];exact Bool.false_ne_true)]
  refine wpAny_bind (listUpdate_at e rfl (wpAny_pure ⟨_,rfl,?_⟩) (by rw[List.size_toArray];omega) (by rw[Array.size_append];omega))
  refine⟨.non,_,I.lset (its':=its++its2) hH e (by simp) (r.append r2) ?_,rfl,q⟩
  rw[List.length_append]
  omega
 ·refine wpAny_bind (wpAny_typeOf (T:="tuple") ⟨o2,ho2,hc2⟩ ?_)
  rw[if_pos (by rw[ht2];simp)]
  refine wpAny_bind (listItems_at ho2 hd2 (wpAny_bind (listItems_at e rfl ?_)))
  rw[if_neg (by rw[notLongL hsz,Bool.and_false];exact Bool.false_ne_true)]
  refine wpAny_bind (listUpdate_at e rfl (wpAny_pure ⟨_,rfl,?_⟩) (by rw[List.size_toArray];omega) (by rw[Array.size_append];omega))
  refine⟨.non,_,I.lset (its':=its++its2) hH e (by simp) (r.append r2) ?_,rfl,q⟩
  rw[List.length_append]
  omega
noncomputable def sExt2 (i:Nat) (g:Rho→M (List D)):Rho→Option Out:=fun ρ=>match ρ[i]? with
 | some (some (.own ds))=>lft (g ρ) ρ fun as=>(match as with
  | [.lst es]=>if immL es=true∧ds.length+es.length≤100000 then some (.nx (ρ.set i (some (.own (ds++es))))) else none
  | [.tup es]=>if immL es=true∧ds.length+es.length≤100000 then some (.nx (ρ.set i (some (.own (ds++es))))) else none
  | _=>none)
 | _=>none
theorem pds_extend2 (hN:X.N[i]? =some x) (hv:Vis X.env.scope x) (ha:PD X B e fa) (hs:aD0 e=true:=by rfl) (hline:(apos.endLine==cpos.line)=true:=by rfl)
  (hsw:swapsWith (.Call (.Attribute (.Name x p) "extend" apos) [e] [] cpos) none pos.line X.env=pure false:=by rfl)
  (hd:(x==("__debug__":Str))=false:=by decide) (hcd:(x==("__classdict__":Str))=false:=by decide):
  PDS X B (.Expr (.Call (.Attribute (.Name x p) "extend" apos) [e] [] cpos) pos) (sExt2 i (aAe fa aAs)):=by
 refine PS.of (ps_expr (pe_bm PySem.F.plainAttrs_list PySem.F.slot_list_extend PySem.F.type_list_extend mt_ext2 (pe_var hN hv hd hcd) (aAb ha aAh (aBg hs)) (hbase:=rfl) (hfew:=by rw[star1 hs];rfl) (hline:=hline) (hs:=aBg hs) (hplain:=rfl)) hsw) fun E σ H h=> ?_
 obtain⟨ρ,r1,h⟩:=h
 unfold sExt2 at h
 split at h
 ·rename_i ds q
  obtain⟨O,h1,ho,h2,hl,h3⟩:=(show Rel X.K B ρ σ H from r1)
  obtain⟨a,vs,z1,z2,z3,z4⟩:=h3 i _ q
  refine⟨.ref a,z2,.inl ⟨rfl,_,SqL.of z3⟩,ρ,r1,(lft_red r1 h).imp fun as k1 us H1 e1 i1=> ?_⟩
  have ho1:=ho.mono e1
  have z4':=z4.mono (Off.mono e1 (O:=O))
  split at k1
  ·rename_i es
   split at k1
   ·rename_i hh
    cases i1 with
    | cons id1 rest=>
     cases rest
     cases id1 with
     | lst hq rr=>
      have il:=offL_imm ho1 hh.1 rr
      refine⟨a,_,vs,_,rfl,rfl,e1 _ _ z3,.inl hq,?_,k1 _ _ (Rel.own_put O h1 ho1 (h2.trans (Off.mono e1)) hl (fun j sv qj=>(h3 j sv qj).mono e1) q z1 z2 (z4'.append il))⟩
      rw[←z4.length,←rr.length]
      exact Nat.le_trans hh.2 (by decide)
   ·exact False.elim k1
  ·rename_i es
   split at k1
   ·rename_i hh
    cases i1 with
    | cons id1 rest=>
     cases rest
     cases id1 with
     | tup hq rr=>
      have il:=offL_imm ho1 hh.1 rr
      refine⟨a,_,vs,_,rfl,rfl,e1 _ _ z3,.inr hq,?_,k1 _ _ (Rel.own_put O h1 ho1 (h2.trans (Off.mono e1)) hl (fun j sv qj=>(h3 j sv qj).mono e1) q z1 z2 (z4'.append il))⟩
      rw[←z4.length,←rr.length]
      exact Nat.le_trans hh.2 (by decide)
   ·exact False.elim k1
  ·exact False.elim k1
 ·exact False.elim h
end
theorem ar1 (us:List Value) (hl:us.length=1): ∃a,us=[a]:=by
 cases us with
 | nil=>exact absurd hl (by simp)
 | cons a us=>
  cases us with
  | nil=>exact⟨a,rfl⟩
  | cons z us=>exact absurd hl (by simp)
theorem ar2 (us:List Value) (hl:us.length=2): ∃a b,us=[a,b]:=by
 cases us with
 | nil=>exact absurd hl (by simp)
 | cons a us=>
  cases us with
  | nil=>exact absurd hl (by simp)
  | cons b us=>
   cases us with
   | nil=>exact⟨a,b,rfl⟩
   | cons z us=>exact absurd hl (by simp)
theorem ar3 (us:List Value) (hl:us.length=3): ∃a b c,us=[a,b,c]:=by
 cases us with
 | nil=>exact absurd hl (by simp)
 | cons a us=>
  cases us with
  | nil=>exact absurd hl (by simp)
  | cons b us=>
   cases us with
   | nil=>exact absurd hl (by simp)
   | cons c us=>
    cases us with
    | nil=>exact⟨a,b,c,rfl⟩
    | cons z us=>exact absurd hl (by simp)
theorem ar4 (us:List Value) (hl:us.length=4): ∃a b c d,us=[a,b,c,d]:=by
 cases us with
 | nil=>exact absurd hl (by simp)
 | cons a us=>
  cases us with
  | nil=>exact absurd hl (by simp)
  | cons b us=>
   cases us with
   | nil=>exact absurd hl (by simp)
   | cons c us=>
    cases us with
    | nil=>exact absurd hl (by simp)
    | cons d us=>
     cases us with
     | nil=>exact⟨a,b,c,d,rfl⟩
     | cons z us=>exact absurd hl (by simp)
theorem ar5 (us:List Value) (hl:us.length=5): ∃a b c d e,us=[a,b,c,d,e]:=by
 cases us with
 | nil=>exact absurd hl (by simp)
 | cons a us=>
  cases us with
  | nil=>exact absurd hl (by simp)
  | cons b us=>
   cases us with
   | nil=>exact absurd hl (by simp)
   | cons c us=>
    cases us with
    | nil=>exact absurd hl (by simp)
    | cons d us=>
     cases us with
     | nil=>exact absurd hl (by simp)
     | cons e us=>
      cases us with
      | nil=>exact⟨a,b,c,d,e,rfl⟩
      | cons z us=>exact absurd hl (by simp)
noncomputable def Kps (h h':Heap):Prop:= ∀b u,h.get? b=some u→h'.get? b=some u
end L2.PU
namespace L2.PU
open PySem PySem.Spec PyProof.Rows PySem.W
structure Tot (n:Nat) (lt:Nat→Nat→Bool):Prop where
 ir: ∀i,lt i i=false
 tr: ∀i j k,lt i j=true→lt j k=true→lt i k=true
 to: ∀i j,i<n→j<n→i≠j→lt i j=false→lt j i=true
theorem runT_bind {α β:Type} {lt:Nat→Nat→Bool} {f:α→KasT β}: ∀(t:KasT α),runT lt (t.bind f)=runT lt (f (runT lt t))
 | .ret _=>rfl
 | .ask i j k=>runT_bind (k (lt i j))
noncomputable abbrev gt0 (p:Array Nat) (i:Nat):Nat:=p.getD i 0
theorem Plc.size {n:Nat} {p:Array Nat} (h:Plc n p):p.size=n:=by
 have:=h.length_eq
 rw[Array.length_toList,List.length_range] at this
 exact this
theorem Plc.ne {n:Nat} {p:Array Nat} (h:Plc n p) {i j:Nat} (hi:i<n) (hj:j<n) (e:i≠j):gt0 p i≠gt0 p j:=by
 have hs:=h.size
 have nd:p.toList.Nodup:=h.nodup_iff.mpr List.nodup_range
 intro q
 have e1:p.toList[i]? =some (gt0 p i):=by
  have:i<p.toList.length:=by rw[Array.length_toList];omega
  rw[List.getElem?_eq_getElem this]
  simp[gt0,Array.getD,show i<p.size by omega]
 have e2:p.toList[j]? =some (gt0 p j):=by
  have:j<p.toList.length:=by rw[Array.length_toList];omega
  rw[List.getElem?_eq_getElem this]
  simp[gt0,Array.getD,show j<p.size by omega]
 exact e ((List.getElem?_inj (by rw[Array.length_toList];omega) nd).mp (by rw[e1,e2,q]))
section
variable {n:Nat} {lt:Nat→Nat→Bool} (T:Tot n lt)
noncomputable def Asc (lt:Nat→Nat→Bool) (p:Array Nat) (a b:Nat):Prop:= ∀i,a≤i→i+1<b→lt (gt0 p i) (gt0 p (i+1))=true
include T
theorem asc_pw {p:Array Nat} {a b:Nat} (h:Asc lt p a b): ∀(d i:Nat),a≤i→i+d+1<b→lt (gt0 p i) (gt0 p (i+d+1))=true
 | 0,i,hi,hb=>h i hi hb
 | d+1,i,hi,hb=>T.tr _ _ _ (asc_pw h d i hi (by omega)) (h (i+d+1) (by omega) (by omega))
theorem run_asc {p:Array Nat} (hp:Plc n p): ∀(f m:Nat),1≤m→m+f≤n→Asc lt p 0 m→∃m',runT lt (kas_asc p f m)=m'∧m≤m'∧m'≤m+f∧Asc lt p 0 m'∧(m'<m+f→lt (gt0 p m') (gt0 p (m'-1))=true)
 | 0,m,h1,h2,ha=>⟨m,rfl,Nat.le_refl _,Nat.le_refl _,ha,fun z=>by omega⟩
 | f+1,m,h1,h2,ha=>by
  have e:runT lt (kas_asc p (f+1) m)=runT lt (if lt (gt0 p m) (gt0 p (m-1))=true then .ret m else kas_asc p f (m+1)):=rfl
  cases c:lt (gt0 p m) (gt0 p (m-1)) with
  | true=>exact⟨m,by rw[e,if_pos c];rfl,Nat.le_refl _,by omega,ha,fun _=>c⟩
  | false=>
   obtain⟨m',g1,g2,g3,g4,g5⟩:=run_asc hp f (m+1) (by omega) (by omega) (fun i hi hb=>by
    by_cases q:i+1<m
    ·exact ha i hi q
    ·have:i=m-1:=by omega
     subst this
     rw[show m-1+1=m by omega]
     exact T.to _ _ (hp.lt (by omega) _) (hp.lt (by omega) _) (hp.ne (by omega) (by omega) (by omega)) c)
   exact⟨m',by rw[e,if_neg (by rw[c];exact Bool.false_ne_true)];exact g1,by omega,by omega,g4,fun z=>g5 (by omega)⟩
noncomputable def Des (lt:Nat→Nat→Bool) (p:Array Nat) (b:Nat):Prop:= ∀i,i+1<b→lt (gt0 p (i+1)) (gt0 p i)=true
theorem run_desc {p:Array Nat} (hp:Plc n p): ∀(f m:Nat),1≤m→m+f≤n→Des lt p m→∃m',runT lt (kas_desc f p m 0)=(p,m',0)∧m≤m'∧m'≤m+f∧Des lt p m'
 | 0,m,h1,h2,ha=>⟨m,rfl,Nat.le_refl _,Nat.le_refl _,ha⟩
 | f+1,m,h1,h2,ha=>by
  have e:runT lt (kas_desc (f+1) p m 0)=runT lt (if lt (gt0 p m) (gt0 p (m-1))=true then (if 0>0 then kas_desc f (kas_rev p (m-(0+1)) m) (m+1) 0 else kas_desc f p (m+1) 0)
   else .ask (gt0 p (m-1)) (gt0 p m) fun d=>if d=true then .ret (p,m,0) else kas_desc f p (m+1) (0+1)):=rfl
  cases c:lt (gt0 p m) (gt0 p (m-1)) with
  | true=>
   obtain⟨m',g1,g2,g3,g4⟩:=run_desc hp f (m+1) (by omega) (by omega) (fun i hb=>by
    by_cases q:i+1<m
    ·exact ha i q
    ·have:i=m-1:=by omega
     subst this
     rw[show m-1+1=m by omega]
     exact c)
   exact⟨m',by rw[e,if_pos c,if_neg (by omega)];exact g1,by omega,by omega,g4⟩
  | false=>
   have d:=T.to _ _ (hp.lt (by omega) _) (hp.lt (by omega) _) (hp.ne (i:=m) (j:=m-1) (by omega) (by omega) (by omega)) c
   refine⟨m,?_,Nat.le_refl _,by omega,ha⟩
   rw[e,if_neg (by rw[c];exact Bool.false_ne_true)]
   show runT lt (if lt (gt0 p (m-1)) (gt0 p m)=true then .ret (p,m,0) else kas_desc f p (m+1) (0+1))=_
   rw[if_pos d]
   rfl
omit T in
theorem gt0_rev {p:Array Nat} {m:Nat} (hm:m≤p.size) {i:Nat}:gt0 (kas_rev p 0 m) i=if i<m then gt0 p (m-1-i) else gt0 p i:=by
 have e:=getElem?_mirror_all (xs:=p) (i:=0) (j:=m) hm i
 have g: ∀(q:Array Nat) (k:Nat),gt0 q k=(q[k]?).getD 0:=fun q k=>by simp[gt0,Array.getD,getElem?_def];split<;>rfl
 rw[g,show kas_rev p 0 m=mirror p 0 m ((m-0)/2) from rfl,e]
 by_cases q:i<m
 ·rw[if_pos ⟨Nat.zero_le _,q⟩,if_pos q,g,show 0+m-1-i=m-1-i by omega]
 ·rw[if_neg (fun z=>q z.2),if_neg q,g]
theorem run_tail {p:Array Nat} (hp:Plc n p) {m:Nat} (h1:1≤m) (h2:m≤n) (hd:Des lt p m): ∃m' p',runT lt (kas_tail3 m n p)=(m',p')∧Plc n p'∧1≤m'∧m'≤n∧Asc lt p' 0 m':=by
 have hr:=hp.rev 0 m
 obtain⟨m',g1,g2,g3,g4,_⟩:=run_asc T hr (n-m) m h1 (by omega) (fun i _ hb=>by
  rw[gt0_rev (by rw[hp.size];exact h2),gt0_rev (by rw[hp.size];exact h2),if_pos (by omega),if_pos hb]
  have:=hd (m-1-(i+1)) (by omega)
  rwa [show m-1-(i+1)+1=m-1-i by omega] at this)
 refine⟨m',kas_rev p 0 m,?_,hr,by omega,by omega,g4⟩
 unfold kas_tail3
 rw[runT_bind,g1]
 rfl
theorem run_count {p:Array Nat} (hp:Plc n p) (hn:2≤n): ∃m p',runT lt (kas_count n p)=(m,p')∧Plc n p'∧1≤m∧m≤n∧Asc lt p' 0 m:=by
 obtain⟨m,g1,g2,g3,g4,g5⟩:=run_asc T hp (n-1) 1 (Nat.le_refl _) (by omega) (fun i _ hb=>by omega)
 unfold kas_count
 rw[runT_bind,g1]
 by_cases q:m=n
 ·rw[if_pos (by simpa using q)]
  exact⟨m,p,rfl,hp,g2,by omega,g4⟩
 ·rw[if_neg (by simpa using q)]
  by_cases q2:m>1
  ·rw[if_pos q2]
   have c:=asc_pw T g4 (m-2) 0 (Nat.le_refl _) (by omega)
   rw[show 0+(m-2)+1=m-1 by omega] at c
   refine⟨m,p,?_,hp,g2,by omega,g4⟩
   show runT lt (if lt (gt0 p 0) (gt0 p (m-1))=true then .ret (m,p) else kas_descPart m n (kas_rev p 0 m))=_
   rw[if_pos c]
   rfl
  ·rw[if_neg q2]
   have em:m=1:=by omega
   subst em
   have c:=g5 (by omega)
   obtain⟨m',k1,k2,k3,k4⟩:=run_desc T hp (n-(1+1)) (1+1) (by omega) (by omega) (fun i hb=>by
    have:i=0:=by omega
    subst this
    exact c)
   unfold kas_descPart
   rw[runT_bind,k1]
   show∃m p',runT lt (if 0>0 then kas_tail3 m' n (kas_rev p (m'-(0+1)) m') else kas_tail3 m' n p)=(m,p')∧_
   rw[if_neg (by omega)]
   exact run_tail T hp (by omega) (by omega) k4
theorem run_place {p:Array Nat} (hp:Plc n p) {k:Nat} (hk:k<n) (ha:Asc lt p 0 k): ∀(f l r:Nat),r≤l+f→r≤k→l≤r→(∀i,i<l→lt (gt0 p i) (gt0 p k)=true)→(∀i,r≤i→i<k→lt (gt0 p k) (gt0 p i)=true)→
  ∃l',runT lt (kas_place p k f l r)=l'∧l'≤k∧(∀i,i<l'→lt (gt0 p i) (gt0 p k)=true)∧(∀i,l'≤i→i<k→lt (gt0 p k) (gt0 p i)=true)
 | 0,l,r,h1,h2,h3,hl,hr=>⟨l,rfl,by omega,hl,fun i hi hk=>hr i (by omega) hk⟩
 | f+1,l,r,h1,h2,h3,hl,hr=>by
  unfold kas_place
  by_cases q:l≥r
  ·rw[if_pos q]
   exact⟨l,rfl,by omega,hl,fun i hi hk=>hr i (by omega) hk⟩
  ·rw[if_neg q]
   have pw: ∀i j,i<j→j<k→lt (gt0 p i) (gt0 p j)=true:=fun i j hij hjk=>by
    have:=asc_pw T ha (j-i-1) i (Nat.zero_le _) (by omega)
    rwa [show i+(j-i-1)+1=j by omega] at this
   show∃l',runT lt (if lt (gt0 p k) (gt0 p ((l+r)/2))=true then kas_place p k f l ((l+r)/2) else kas_place p k f ((l+r)/2+1) r)=l'∧_
   cases c:lt (gt0 p k) (gt0 p ((l+r)/2)) with
   | true=>
    rw[if_pos rfl]
    refine run_place hp hk ha f l ((l+r)/2) (by omega) (by omega) (by omega) hl fun i hi hik=> ?_
    by_cases e:i=(l+r)/2
    ·rw[e];exact c
    ·exact T.tr _ _ _ c (pw _ _ (by omega) hik)
   | false=>
    rw[if_neg Bool.false_ne_true]
    have d:=T.to _ _ (hp.lt (by omega) _) (hp.lt (by omega) _) (hp.ne (i:=k) (j:=(l+r)/2) hk (by omega) (by omega)) c
    refine run_place hp hk ha f ((l+r)/2+1) r (by omega) h2 (by omega) (fun i hi=> ?_) hr
    by_cases e:i=(l+r)/2
    ·rw[e];exact d
    ·exact T.tr _ _ _ (pw _ _ (by omega) (by omega)) d
omit T in
theorem gt0_bub {p:Array Nat} {k d:Nat} (hk:k<p.size) (hd:d≤k) {i:Nat}:gt0 (bubble p k d) i=if i=k-d then gt0 p k else if k-d<i∧i≤k then gt0 p (i-1) else gt0 p i:=by
 have g: ∀(q:Array Nat) (k:Nat),gt0 q k=(q[k]?).getD 0:=fun q k=>by simp[gt0,Array.getD,getElem?_def];split<;>rfl
 have b:=getElem?_bubble hk d hd i
 rw[g,g p k,g p (i-1),g p i,b]
 by_cases c1:i=k-d
 ·rw[if_pos c1,if_pos c1]
 ·rw[if_neg c1,if_neg c1]
  by_cases c2:k-d<i∧i≤k
  ·rw[if_pos c2,if_pos c2]
  ·rw[if_neg c2,if_neg c2]
theorem run_bin: ∀(f:Nat) (p:Array Nat) (k:Nat),Plc n p→1≤k→k+f=n→Asc lt p 0 k→∃p',runT lt (kas_bin f p k)=p'∧Plc n p'∧Asc lt p' 0 n
 | 0,p,k,hp,h1,h2,ha=>⟨p,rfl,hp,by rw[←h2];exact ha⟩
 | f+1,p,k,hp,h1,h2,ha=>by
  obtain⟨l,g1,g2,g3,g4⟩:=run_place T hp (k:=k) (by omega) ha k 0 k (by omega) (Nat.le_refl _) (Nat.zero_le _) (fun i hi=>by omega) (fun i hi hk=>by omega)
  have e:runT lt (kas_bin (f+1) p k)=runT lt (kas_bin f (bubble p k (k-l)) (k+1)):=by
   show runT lt ((kas_place p k k 0 k).bind fun l=>kas_bin f (bubble p k (k-l)) (k+1))=_
   rw[runT_bind,g1]
  rw[e]
  have hs:=hp.size
  refine run_bin f _ (k+1) (hp.of (bubble_perm _ _ _)) (by omega) (by omega) fun i _ hb=> ?_
  rw[gt0_bub (by omega) (by omega),gt0_bub (by omega) (by omega)]
  have kl:k-(k-l)=l:=by omega
  rw[kl]
  by_cases c1:i=l
  ·rw[if_pos c1,if_neg (by omega),if_pos (by omega),show i+1-1=i by omega]
   exact g4 i (by omega) (by omega)
  ·rw[if_neg c1]
   by_cases c2:l<i
   ·rw[if_pos (by omega),if_neg (by omega),if_pos (by omega),show i+1-1=i-1+1 by omega]
    exact ha (i-1) (Nat.zero_le _) (by omega)
   ·rw[if_neg (by omega)]
    by_cases c3:i+1=l
    ·rw[if_pos c3]
     exact g3 i (by omega)
    ·rw[if_neg c3,if_neg (by omega)]
     exact ha i (Nat.zero_le _) (by omega)
theorem run_sort (hn:2≤n): ∃p,runT lt (kas_sort n)=p∧Plc n p∧Asc lt p 0 n:=by
 obtain⟨m,p,g1,g2,g3,g4,g5⟩:=run_count T (p:=List.toArray (List.range n)) (List.Perm.refl _) hn
 unfold kas_sort
 rw[runT_bind,g1]
 show∃p',runT lt (if m<n then kas_bin (n-max m 1) p (max m 1) else .ret p)=p'∧_
 rw[show max m 1=m by omega]
 by_cases q:m<n
 ·rw[if_pos q]
  exact run_bin T (n-m) p m g2 g3 (by omega) g5
 ·rw[if_neg q]
  refine⟨p,rfl,g2,?_⟩
  rw[show n=m by omega]
  exact g5
theorem outT_asc:(outT lt n).Pairwise fun i j=>lt i j=true:=by
 unfold outT
 by_cases h:n<2
 ·rw[if_pos h]
  rcases (show n=0∨n=1 by omega) with e | e<;>subst e
  ·exact .nil
  ·exact List.pairwise_singleton _ _
 ·rw[if_neg h]
  obtain⟨p,g1,g2,g3⟩:=run_sort T (by omega)
  rw[g1,List.pairwise_iff_getElem]
  intro i j hi hj hij
  rw[Array.length_toList] at hi hj
  have e: ∀k (h:k<p.size),p.toList[k]'(by rw[Array.length_toList];exact h)=gt0 p k:=fun k h=>by simp[gt0,Array.getD,h]
  rw[e i hi,e j hj]
  have hs:=g2.size
  have:=asc_pw T g3 (j-i-1) i (Nat.zero_le _) (by omega)
  rwa [show i+(j-i-1)+1=j by omega] at this
end
end L2.PU
namespace L2.PU
open PySem PySem.Spec PyProof.Rows
section
variable {prog:Program} {w:World} {A:Around} {E:Value→Shared→Prop} {s:Shared}
theorem tup_ne_nil {a b:Addr} {its:Array Value} {Q:Value→Shared→Prop} (ha:IsTup s.heap a its) (hb:IsTup s.heap b #[]) (q:Q (.bool (its.size !=0)) s):
  wpAny (model prog w) A (Builtin.«tuple.__ne__» ⟨[.ref a,.ref b],[]⟩) (fun fin s'=> ∃r,fin= .done (.ret r)∧Q r s') E s:=by
 obtain⟨⟨c1,d1,x1,l1⟩,o1,k1,n1,e1⟩:=ha
 obtain⟨⟨c2,d2,x2,l2⟩,o2,k2,n2,e2⟩:=hb
 dsimp only at k1 e1 k2 e2
 subst k1 e1 k2 e2
 have f2:=AutoSeq1.sub_tuple_tuple
 unfold Builtin.«tuple.__ne__»
 wp_walk using AutoSeq1.wpAny_loadPart' o1,AutoSeq1.wpAny_loadPart' o2,wpAny_forIn_list _ (fun rest st s'=>st.1=none∧s'=s∧rest=[]) _
 case turn=>
  rintro p rest st s' ⟨g1,g2,g3⟩
  cases g3
 case fin=>
  rintro⟨b1,b2⟩ s' ⟨g1,g2,g3⟩
  subst g2
  dsimp only at g1
  subst g1
  wp_walk
  exact⟨_,rfl,by simpa[Builtin.Tuple.tupleCompareSizes] using q⟩
 case h=>
  exact⟨rfl,rfl,by simp⟩
theorem ne_tup_nil {a b:Addr} {its:Array Value} {Q:Value→Shared→Prop} (ha:IsTup s.heap a its) (hb:IsTup s.heap b #[]) (hu:A.units<cLine) (q:Q (.bool (its.size !=0)) s):
  wpAny (model prog w) A (compareOp .NotEq (.ref a) (.ref b)) Q E s:=by
 have ta:s.TypeIs (.ref a) "tuple":=ha.typeIs
 have tb:s.TypeIs (.ref b) "tuple":=hb.typeIs
 show wpAny _ _ (richCompare .NotEq (.ref a) (.ref b)) _ _ _
 refine wpAny_richCompare_same_room ta tb PySem.F.slot_tuple_ne (wpAny_call_entry PySem.F.slot_tuple_ne ta PySem.F.entry_tuple_ne (tup_ne_nil ha hb ?_) (PySem.F.args_tuple_ne_2 _ _)) hu
 exact And.intro (fun z=>nomatch z) q
end
noncomputable def N1 (p:Keyed):Int:=numOf p.1
noncomputable def SL (l:List Keyed):Prop:=l.Pairwise fun p q=>N1 p≤N1 q
noncomputable def RunsOk:Nat→List (Nat×Nat×Nat)→List (List Keyed)→Prop
 | _,[],[]=>True
 | s,(b,n,_)::p,r::R=>b=s∧n=r.length∧0<n∧SL r∧RunsOk (s+n) p R
 | _,_,_=>False
structure TS (a0:List Keyed) (rest:List Keyed) (lo:Nat) (st:SortSt):Prop where
 kind:kindOf st=oneType'
 fail:failedOf st=none
 runs: ∃R,(arrOf st).toList=R.flatten++rest∧R.flatten.length=lo∧RunsOk 0 (pendingOf st).toList R
 perm:(arrOf st).toList.Perm a0
noncomputable def Ups (xs:Array Nat):Prop:= ∀i j:Nat,i<j→∀(hj:j<xs.size) (hi:i<xs.size),xs[i]<xs[j]
theorem go_ok {xs:Array Nat} {j:Nat} (up:Ups xs): ∀(f lo hi:Nat),hi-lo≤f→lo≤hi→hi≤xs.size→(∀k (h:k<xs.size),k<lo→xs[k]<j)→(∀k (h:k<xs.size),hi≤k→j≤xs[k])→
  SetTable.below.go xs j f lo hi≤xs.size∧(∀k (h:k<xs.size),k<SetTable.below.go xs j f lo hi→xs[k]<j)∧(∀k (h:k<xs.size),SetTable.below.go xs j f lo hi≤k→j≤xs[k]):=by
 intro f
 induction f with
 | zero=>
  intro lo hi h1 h2 h3 h4 h5
  obtain rfl:lo=hi:=by omega
  unfold SetTable.below.go
  exact⟨h3,h4,h5⟩
 | succ f ih=>
  intro lo hi h1 h2 h3 h4 h5
  unfold SetTable.below.go
  by_cases hl:lo<hi
  ·rw[if_pos hl]
   dsimp only
   have hm:(lo+hi)/2<xs.size:=by omega
   have eg:xs.getD ((lo+hi)/2) j=xs[(lo+hi)/2]:=by simp[Array.getD,hm]
   rw[eg]
   by_cases hc:xs[(lo+hi)/2]<j
   ·rw[if_pos hc]
    refine ih _ _ (by omega) (by omega) h3 (fun k hk hlt=> ?_) h5
    by_cases he:k=(lo+hi)/2
    ·subst he;exact hc
    ·exact Nat.lt_trans (up k ((lo+hi)/2) (by omega) hm hk) hc
   ·rw[if_neg hc]
    refine ih _ _ (by omega) (by omega) (by omega) h4 fun k hk hle=> ?_
    by_cases he:k=(lo+hi)/2
    ·subst he;omega
    ·have:=up ((lo+hi)/2) k (by omega) hk hm
     omega
  ·rw[if_neg hl]
   obtain rfl:lo=hi:=by omega
   exact⟨h3,h4,h5⟩
theorem below_ok {xs:Array Nat} (up:Ups xs) (j:Nat):SetTable.below xs j≤xs.size∧(∀k (h:k<xs.size),k<SetTable.below xs j→xs[k]<j)∧(∀k (h:k<xs.size),SetTable.below xs j≤k→j≤xs[k]):=by
 unfold SetTable.below
 exact go_ok up _ _ _ (by omega) (by omega) (Nat.le_refl _) (fun k h hk=>by omega) (fun k h hk=>by omega)
theorem below_at {xs:Array Nat} (up:Ups xs) {i j:Nat} (e:xs[i]? =some j):SetTable.below xs j=i:=by
 obtain⟨hi,rfl⟩:=Array.getElem?_eq_some_iff.mp e
 obtain⟨b1,b2,b3⟩:=below_ok up xs[i]
 rcases Nat.lt_trichotomy (SetTable.below xs xs[i]) i with h | h | h
 ·have h':SetTable.below xs xs[i]<xs.size:=by omega
  have q1:=b3 _ h' (Nat.le_refl _)
  have q2:=up _ i h hi h'
  omega
 ·exact h
 ·have:=b2 i hi h
  omega
theorem below_get {xs:Array Nat} (up:Ups xs) (j:Nat):(xs[SetTable.below xs j]? =some j)↔j∈xs.toList:=by
 constructor
 ·intro e
  obtain⟨h,e2⟩:=Array.getElem?_eq_some_iff.mp e
  rw[←e2]
  simp
 ·intro h
  obtain⟨i,hi,e⟩:=List.mem_iff_getElem.mp h
  have e':xs[i]? =some j:=by
   rw[←e];simp at hi;simp[hi]
  rw[below_at up e']
  exact e'
theorem slot_live {t:SetTable} (up:Ups t.place) {i j:Nat} (e:t.place[i]? =some j):t.slot j= .live i:=by
 unfold SetTable.slot
 dsimp only
 rw[below_at up e,e,if_pos (by simp)]
theorem slot_live' {t:SetTable} {i j:Nat} (e:t.slot j= .live i):t.place[i]? =some j:=by
 unfold SetTable.slot at e
 dsimp only at e
 split at e
 ·rename_i h
  cases e
  simpa using h
 ·split at e<;>cases e
theorem slot_off {t:SetTable} (up:Ups t.place) {j:Nat} (h:j∉t.place.toList):t.slot j=if SetTable.has t.dummies j then .dummy else .empty:=by
 unfold SetTable.slot
 dsimp only
 rw[if_neg]
 intro e
 exact h ((below_get up j).mp (by simpa using e))
theorem has_ok {xs:Array Nat} (up:Ups xs) (j:Nat):SetTable.has xs j=true↔j∈xs.toList:=by
 unfold SetTable.has
 rw[beq_iff_eq]
 exact below_get up j
noncomputable def Occ (t:SetTable) (j:Nat):Prop:=j∈t.place.toList∨j∈t.dummies.toList
theorem slot_empty {t:SetTable} (up:Ups t.place) (ud:Ups t.dummies) (j:Nat):t.slot j= .empty↔¬Occ t j:=by
 unfold Occ
 by_cases h:j∈t.place.toList
 ·obtain⟨i,hi,e⟩:=List.mem_iff_getElem.mp h
  have e':t.place[i]? =some j:=by rw[←e];simp at hi;simp[hi]
  rw[slot_live up e']
  constructor
  ·intro q;cases q
  ·intro q;exact absurd (.inl h) q
 ·rw[slot_off up h]
  by_cases hd:SetTable.has t.dummies j=true
  ·rw[if_pos hd]
   have:=(has_ok ud j).mp hd
   constructor
   ·intro q;cases q
   ·intro q;exact absurd (.inr this) q
  ·rw[if_neg hd]
   constructor
   ·intro _ q
    rcases q with q | q
    ·exact h q
    ·exact hd ((has_ok ud j).mpr q)
   ·intro _;rfl
noncomputable def stand (t:SetTable) (h:Int):Nat→SetTable.Probe
 | 0=>t.probeStart h
 | n+1=>t.advance (stand t h n)
theorem adv_dummy (t:SetTable) (p:SetTable.Probe) (d:Option Nat):t.advance {p with dummy:=d}={t.advance p with dummy:=d}:=by
 unfold SetTable.advance
 dsimp only
 split<;>rfl
noncomputable def runI (mask:Nat) (h:Int):Nat→Nat×Nat
 | 0=>(SetTable.bits h%(mask+1),SetTable.bits h)
 | k+1=>SetTable.leap mask (runI mask h k).1 (runI mask h k).2
theorem runI_lt (mask:Nat) (h:Int) (k:Nat):(runI mask h k).1<mask+1:=by
 cases k with
 | zero=>exact Nat.mod_lt _ (Nat.succ_pos _)
 | succ k=>exact Nat.mod_lt _ (Nat.succ_pos _)
noncomputable def aDm (mask:Nat) (h:Int):Nat→Nat
 | 0=>0
 | k+1=>aDm mask h k+(SetTable.runEnd mask (runI mask h k).1-(runI mask h k).1)+1
theorem runAt_le (mask:Nat) (h:Int) (k:Nat):aDm mask h k≤10*k:=by
 induction k with
 | zero=>exact Nat.le_refl _
 | succ k ih=>
  show aDm mask h k+_+1≤_
  unfold SetTable.runEnd
  split<;>omega
theorem stand_run (t:SetTable) (h:Int): ∀(k m:Nat),m≤SetTable.runEnd t.mask (runI t.mask h k).1-(runI t.mask h k).1→
  stand t h (aDm t.mask h k+m)={j:=(runI t.mask h k).1+m,more:=SetTable.runEnd t.mask (runI t.mask h k).1-(runI t.mask h k).1-m,i:=(runI t.mask h k).1,perturb:=(runI t.mask h k).2,dummy:=none}:=by
 intro k
 induction k with
 | zero=>
  intro m
  induction m with
  | zero=>intro _;rfl
  | succ m ih=>
   intro hm
   have e:=ih (by omega)
   show t.advance (stand t h (aDm t.mask h 0+m))=_
   rw[e]
   unfold SetTable.advance
   dsimp only
   rw[if_pos (by omega)]
   congr 1
 | succ k ihk=>
  intro m
  induction m with
  | zero=>
   intro _
   have e:=ihk _ (Nat.le_refl _)
   show t.advance (stand t h (aDm t.mask h k+(SetTable.runEnd t.mask (runI t.mask h k).1-(runI t.mask h k).1)))=_
   rw[e]
   unfold SetTable.advance
   dsimp only
   rw[if_neg (by omega)]
   rfl
  | succ m ih=>
   intro hm
   have e:=ih (by omega)
   show t.advance (stand t h (aDm t.mask h (k+1)+m))=_
   rw[e]
   unfold SetTable.advance
   dsimp only
   rw[if_pos (by omega)]
   congr 1
theorem pert_eq (mask:Nat) (h:Int) (k:Nat):(runI mask h k).2=SetTable.bits h/32^k:=by
 induction k with
 | zero=>simp[runI]
 | succ k ih=>
  show (runI mask h k).2/32=_
  rw[ih,Nat.div_div_eq_div_mul,Nat.pow_succ]
theorem bits_low (h:Int):SetTable.bits h<2^64:=by
 unfold SetTable.bits
 omega
theorem pert_0 (mask:Nat) (h:Int) {k:Nat} (hk:13≤k):(runI mask h k).2=0:=by
 rw[pert_eq]
 refine Nat.div_eq_of_lt ?_
 have h1:=bits_low h
 have h2:(32:Nat)^13≤32^k:=Nat.pow_le_pow_right (by decide) hk
 have h3:(2:Nat)^64≤32^13:=by decide
 omega
noncomputable def spin (m:Nat):Nat→Nat→Nat
 | 0,i=>i
 | k+1,i=>(spin m k i*5+1)%m
theorem spin8: ∀i,i<8→∀j,j<8→∃k,k<8∧spin 8 k i=j:=by decide+kernel
theorem spin16: ∀i,i<16→∀j,j<16→∃k,k<16∧spin 16 k i=j:=by decide+kernel
theorem spin32: ∀i,i<32→∀j,j<32→∃k,k<32∧spin 32 k i=j:=by decide+kernel
theorem run_spin (mask:Nat) (h:Int) (k:Nat):(runI mask h (13+k)).1=spin (mask+1) k (runI mask h 13).1:=by
 induction k with
 | zero=>rfl
 | succ k ih=>
  show ((runI mask h (13+k)).1*5+1+(runI mask h (13+k)).2/32)%(mask+1)=(spin (mask+1) k (runI mask h 13).1*5+1)%(mask+1)
  rw[pert_0 mask h (by omega),ih]
noncomputable def Small (t:SetTable):Prop:=t.mask=7∨t.mask=31
noncomputable def Small3 (t:SetTable):Prop:=t.mask=7∨t.mask=15∨t.mask=31
theorem Small.to3 {t:SetTable} (h:Small t):Small3 t:=h.elim .inl fun h=> .inr (.inr h)
theorem road_all {t:SetTable} (hm:Small t) (h:Int) {j:Nat} (hj:j≤t.mask): ∃n,n≤10*(t.mask+13)∧(stand t h n).j=j:=by
 have hi:=runI_lt t.mask h 13
 obtain⟨k,hk,e⟩: ∃k,k≤t.mask∧spin (t.mask+1) k (runI t.mask h 13).1=j:=by
  rcases hm with hm | hm
  ·rw[hm] at hi hj⊢
   obtain⟨k,h1,h2⟩:=spin8 _ hi j (by omega)
   exact⟨k,by omega,h2⟩
  ·rw[hm] at hi hj⊢
   obtain⟨k,h1,h2⟩:=spin32 _ hi j (by omega)
   exact⟨k,by omega,h2⟩
 refine⟨aDm t.mask h (13+k),Nat.le_trans (runAt_le _ _ _) (by omega),?_⟩
 have:=stand_run t h (13+k) 0 (Nat.zero_le _)
 rw[Nat.add_zero] at this
 rw[this]
 show (runI t.mask h (13+k)).1+0=j
 rw[run_spin,e,Nat.add_zero]
noncomputable def EndAt (t:SetTable) (h:Int) (e:Nat):Prop:=¬Occ t (stand t h e).j∧∀m,m<e→Occ t (stand t h m).j
theorem first_of (P:Nat→Prop): ∀n,P n→∃e,e≤n∧P e∧∀m,m<e→¬P m:=by
 intro n
 induction n using Nat.strongRecOn with
 | ind n ih=>
  intro hn
  by_cases h: ∃m,m<n∧P m
  ·obtain⟨m,hm,pm⟩:=h
   obtain⟨e,h1,h2,h3⟩:=ih m hm pm
   exact⟨e,by omega,h2,h3⟩
  ·exact⟨n,Nat.le_refl _,hn,fun m hm pm=>h ⟨m,hm,pm⟩⟩
theorem end_at {t:SetTable} (hm:Small t) (hf: ∃j,j≤t.mask∧¬Occ t j) (h:Int): ∃e,e≤10*(t.mask+13)∧EndAt t h e:=by
 obtain⟨j,hj,hn⟩:=hf
 obtain⟨n,hn1,hn2⟩:=road_all hm h hj
 obtain⟨e,h1,h2,h3⟩:=first_of (fun n=>¬Occ t (stand t h n).j) n (by rw[hn2];exact hn)
 exact⟨e,by omega,h2,fun m hm'=>Classical.byContradiction fun q=>h3 m hm' q⟩
theorem nodup_leN: ∀(l m:List Nat),l.Nodup→(∀x∈l,x∈m)→l.length≤m.length:=by
 intro l
 induction l with
 | nil=>intro m _ _;exact Nat.zero_le _
 | cons x l ih=>
  intro m hn hs
  obtain⟨h1,h2⟩:=List.nodup_cons.mp hn
  have hx:=hs x List.mem_cons_self
  have:=ih (m.erase x) h2 fun y hy=>(List.mem_erase_of_ne (fun e=>h1 (by rw[←e];exact hy))).mpr (hs y (List.mem_cons_of_mem _ hy))
  rw[List.length_erase_of_mem hx] at this
  have hp:0<m.length:=List.length_pos_of_mem hx
  rw[List.length_cons]
  omega
theorem room_left {t:SetTable} (up:Ups t.place) (hf:t.fill≤t.mask): ∃j,j≤t.mask∧¬Occ t j:=by
 apply Classical.byContradiction
 intro hno
 have hall: ∀j,j≤t.mask→Occ t j:=fun j hj=>Classical.byContradiction fun q=>hno ⟨j,hj,q⟩
 have hsub: ∀j∈List.range (t.mask+1),j∈t.place.toList++t.dummies.toList:=fun j hj=>by
  rcases hall j (by have:=List.mem_range.mp hj;omega) with q | q
  ·exact List.mem_append_left _ q
  ·exact List.mem_append_right _ q
 have hle:=nodup_leN _ _ List.nodup_range hsub
 rw[List.length_range,List.length_append,Array.length_toList,Array.length_toList] at hle
 unfold SetTable.fill at hf
 omega
noncomputable def NoneOf (t:SetTable) (hashAt:Nat→Int) (h:Int) (a b:Nat):Prop:= ∀m i,a≤m→m<b→t.slot (stand t h m).j= .live i→hashAt i≠h
theorem probe_ok {t:SetTable} (up:Ups t.place) (ud:Ups t.dummies) {hashAt:Nat→Int} {h:Int} {e:Nat} (he:EndAt t h e): ∀(f n:Nat) (d:Option Nat),n≤e→e-n<f→
  ∃d',(t.dummies= #[]→d'=d)∧((SetTable.probe.go t hashAt h f {stand t h n with dummy:=d}=some (.empty (stand t h e).j d')∧NoneOf t hashAt h n e)∨
   ∃m i,n≤m∧m<e∧t.slot (stand t h m).j= .live i∧hashAt i=h∧NoneOf t hashAt h n m∧SetTable.probe.go t hashAt h f {stand t h n with dummy:=d}=some (.candidate (stand t h m).j i {stand t h (m+1) with dummy:=d'})):=by
 intro f
 induction f with
 | zero=>intro n d h1 h2;omega
 | succ f ih=>
  intro n d h1 h2
  unfold SetTable.probe.go
  dsimp only
  by_cases hen:n=e
  ·subst hen
   rw[(slot_empty up ud _).mpr he.1]
   exact⟨d,fun _=>rfl,.inl ⟨rfl,fun m i a b=>by omega⟩⟩
  have ho:=he.2 n (by omega)
  have hne:t.slot (stand t h n).j≠ .empty:=fun q=>((slot_empty up ud _).mp q) ho
  cases hs:t.slot (stand t h n).j with
  | empty=>exact absurd hs hne
  | dummy=>
   dsimp only
   rw[adv_dummy]
   obtain⟨d',hd',r⟩:=ih (n+1) (some (stand t h n).j) (by omega) (by omega)
   have nd:t.dummies≠#[]:=fun q=>by
    rcases ho with q1 | q1
    ·obtain⟨i,hi,ei⟩:=List.mem_iff_getElem.mp q1
     have e':t.place[i]? =some (stand t h n).j:=by rw[←ei];simp at hi;simp[hi]
     rw[slot_live up e'] at hs
     cases hs
    ·rw[q] at q1;simp at q1
   refine⟨d',fun q=>absurd q nd,?_⟩
   rcases r with⟨r1,r2⟩ |⟨m,i,q1,q2,q3,q4,q5,q6⟩
   ·refine .inl ⟨r1,fun m i a b q=> ?_⟩
    by_cases hm:m=n
    ·subst hm;rw[hs] at q;cases q
    ·exact r2 m i (by omega) b q
   ·refine .inr ⟨m,i,by omega,q2,q3,q4,fun m' i' a b q=> ?_,q6⟩
    by_cases hm:m'=n
    ·subst hm;rw[hs] at q;cases q
    ·exact q5 m' i' (by omega) b q
  | live i=>
   dsimp only
   by_cases hh:hashAt i=h
   ·rw[if_pos (by simpa using hh),adv_dummy]
    exact⟨d,fun _=>rfl,.inr ⟨n,i,Nat.le_refl _,by omega,hs,hh,fun m i a b=>by omega,rfl⟩⟩
   ·rw[if_neg (by simpa using hh),adv_dummy]
    obtain⟨d',hd',r⟩:=ih (n+1) d (by omega) (by omega)
    refine⟨d',hd',?_⟩
    rcases r with⟨r1,r2⟩ |⟨m,i',q1,q2,q3,q4,q5,q6⟩
    ·refine .inl ⟨r1,fun m i2 a b q=> ?_⟩
     by_cases hm:m=n
     ·subst hm;rw[hs] at q;cases q;exact hh
     ·exact r2 m i2 (by omega) b q
    ·refine .inr ⟨m,i',by omega,q2,q3,q4,fun m' i2 a b q=> ?_,q6⟩
     by_cases hm:m'=n
     ·subst hm;rw[hs] at q;cases q;exact hh
     ·exact q5 m' i2 (by omega) b q
noncomputable def Met (t:SetTable) (hashAt:Nat→Int):Prop:= ∀i j,t.place[i]? =some j→∃n,(stand t (hashAt i) n).j=j∧∀m,m<n→Occ t (stand t (hashAt i) m).j
noncomputable def hAt (es:Array (Int×Value)) (i:Nat):Int:=(es[i]?.map (·.1)).getD 0
theorem search_eq (a:Addr) (x:Value) (h:Int) (adding:Bool) (fuel:Nat) (st:Option SetTable.Probe):setSearchFrom a x h adding (fuel+1) st=(do
  let (es,_,t)←setState a
  if t.gaveWay then unsupported "set:on-a-table-that-gave-way"
  let some met:=t.probe (hAt es) h (st.getD (t.probeStart h)) | unsupported "internal:set-table-without-an-empty-slot"
  match met with
  | .empty j dummy=>
   match dummy with
   | none=>return .free j false
   | some d=>
    if adding&&t.slot d != .dummy then rule "set.search.the-dummy-was-taken";return←setSearchFrom a x h adding fuel none
    return .free d true
  | .candidate j i next=>
   if !t.led then
    if←searchCouldBeSeen x ((es.filter (·.1==h)).toList.map (·.2)) then unsupported "set:the-search-would-show-the-table"
   let some (_,y):=es[i]? | unsupported "internal:set-entry"
   let equal←holding [y] (eqBool y x)
   let (es',_,t')←setState a
   if adding&&equal then return .there none
   let some same:=t'.sameMemory t.moves t.mask | unsupported "set.changed-during-lookup:is-the-new-block-at-the-old-address"
   let still←match (if same then t'.slot j else .empty) with
    | .live i'=>match es'[i']? with
     | some (_,y')=>do pure (if←isSame y' y then some i' else none)
     | none=>pure none
    | _=>pure none
   match still with
   | none=>rule "set.search.anew";setSearchFrom a x h adding fuel none
   | some i'=>if equal then return .there (some i') else setSearchFrom a x h adding fuel (some next)):=rfl
section
variable {prog:Program} {w:World} {K:Type} [DecidableEq K] {knd:KeyKind prog w K} {P:Value→Prop} {A:Around} {E:Value→Shared→Prop} {s:Shared}
theorem class_val (n:Nat) {v:Value} (h:carriedByValue v=true):ofAClassStatement n v=pure false:=by
 cases v<;>first |(cases n<;>rfl) |(simp[carriedByValue] at h)
theorem class_no {ks:List K} {a:Addr} {Q:Bool→Shared→Prop} (hk:IsTupleKey knd s.heap ks a) (h:Q false s):wpAny (model prog w) A (ofAClassStatement 8 (.ref a)) Q E s:=by
 have hT:=hk.typeIs
 obtain⟨o,items,n,ho,_,hd,hi⟩:=hk
 unfold ofAClassStatement
 refine wpAny_bind (wpAny_typeOf hT ?_)
 dsimp only
 rw[if_pos (by rfl)]
 refine wpAny_bind (wpAny_pure ?_)
 rw[if_neg (by simp)]
 refine wpAny_bind (wpAny_seqItems ho hd ?_)
 dsimp only
 refine wpAny_bind ?_
 show wpAny _ _ (forIn items _ _) _ _ s
 rw[←Array.forIn_toList]
 refine wpAny_forIn_list _ (fun rest r s'=>r.1=none∧s'=s∧∀v∈rest,carriedByValue v=true) _ ?_ ?_ _ _ ⟨rfl,rfl,hi.byValue⟩
 ·rintro v rest r s' ⟨hr,rfl,hall⟩
  rw[class_val _ (hall v List.mem_cons_self)]
  refine wpAny_bind (wpAny_pure ?_)
  simp only[Bool.false_eq_true,if_false]
  exact wpAny_pure ⟨rfl,rfl,fun u hu'=>hall u (List.mem_cons_of_mem _ hu')⟩
 ·rintro⟨r1,r2⟩ s' ⟨hr,rfl,_⟩
  simp only at hr
  subst hr
  exact wpAny_pure h
noncomputable def TKey (knd:KeyKind prog w K) (h:Heap) (v:Value) (ks:List K):Prop:= ∃p,v= .ref p∧IsTupleKey knd h ks p
theorem seen_no {x:Value} {k:List K} {vs:List Value} {Q:Bool→Shared→Prop} (hx:TKey knd s.heap x k) (hv: ∀v∈vs,∃ks,TKey knd s.heap v ks) (h:Q false s):wpAny (model prog w) A (searchCouldBeSeen x vs) Q E s:=by
 obtain⟨p,rfl,hp⟩:=hx
 unfold searchCouldBeSeen
 refine wpAny_bind ?_
 refine wpAny_forIn_list _ (fun rest r s'=>r.1=none∧s'=s∧∀v∈rest,∃ks,TKey knd s.heap v ks) _ ?_ ?_ _ _ ⟨rfl,rfl,hv⟩
 ·rintro v rest r s' ⟨hr,rfl,hall⟩
  have hrest: ∀v∈rest,∃ks,TKey knd s'.heap v ks:=fun u hu=>hall u (List.mem_cons_of_mem _ hu)
  obtain⟨ks,q,rfl,hq⟩:=hall v List.mem_cons_self
  dsimp only
  split
  ·exact wpAny_pure ⟨rfl,rfl,hrest⟩
  ·refine wpAny_bind (wpAny_eqIsQuiet_tuple hp ?_)
   rw[if_neg (by simp)]
   refine wpAny_bind (wpAny_eqIsQuiet_tuple hq ?_)
   rw[if_neg (by simp)]
   refine wpAny_bind (class_no hp ?_)
   rw[if_neg (by simp)]
   refine wpAny_bind (class_no hq ?_)
   rw[if_neg (by simp)]
   exact wpAny_pure ⟨rfl,rfl,hrest⟩
 ·rintro⟨r1,r2⟩ s' ⟨hr,rfl,_⟩
  simp only at hr
  subst hr
  exact wpAny_pure h
structure GoodT (t:SetTable) (es:Array (Int×Value)):Prop where
 up:Ups t.place
 ud:Ups t.dummies
 size:t.place.size=es.size
 fill:t.fill≤t.mask
 small:Small t
 met:Met t (hAt es)
theorem GoodT.fits {t:SetTable} {es:Array (Int×Value)} (g:GoodT t es):t.fits es.size=true:=by
 unfold SetTable.fits
 rw[g.size]
 simp
 exact g.fill
theorem GoodT.way {t:SetTable} {es:Array (Int×Value)} (g:GoodT t es):t.gaveWay=false:=by
 unfold SetTable.gaveWay
 rcases g.small with h | h<;>rw[h]<;>rfl
structure TuSet (knd:KeyKind prog w K) (P:Value→Prop) (h:Heap) (a:Addr) (o:Obj) (es:Array (Int×Value)) (ep:Nat) (t:SetTable) (ts:List (List K)):Prop where
 get:h.get? a=some o
 ex:o.ExactSet
 data:o.data= .set es ep t
 good:GoodT t es
 len:es.size=ts.length
 ent: ∀(i:Nat) (e:Int×Value),es[i]? =some e→∃ks,ts[i]? =some ks∧TKey knd h e.2 ks∧e.1=tupleKeyHash knd ks
 nd:ts.Nodup
 ok: ∀(i:Nat) (e:Int×Value),es[i]? =some e→P e.2
theorem TuSet.state {a:Addr} {o:Obj} {es:Array (Int×Value)} {ep:Nat} {t:SetTable} {ts:List (List K)} {Q:(Array (Int×Value)×Nat×SetTable)→Shared→Prop} (z:TuSet knd P s.heap a o es ep t ts) (h:Q (es,ep,t) s):wpAny (model prog w) A (setState a) Q E s:=
 wpAny_setState_of z.get z.data z.good.fits h
theorem search_from {a:Addr} {o:Obj} {es:Array (Int×Value)} {ep:Nat} {t:SetTable} {ts:List (List K)} {x:Value} {k:List K} {adding:Bool} {Q:SetFound→Shared→Prop} (hu:A.units<cLine) (z:TuSet knd P s.heap a o es ep t ts) (hx:TKey knd s.heap x k)
  {e:Nat} (he:EndAt t (tupleKeyHash knd k) e) (hle:e≤10*(t.mask+13)) (hd:adding=true→t.dummies= #[])
  (hit: ∀i:Nat,ts[i]? =some k→Q (.there (if adding then none else some i)) s) (miss:k∉ts→∀d b,(t.dummies= #[]→d=(stand t (tupleKeyHash knd k) e).j∧b=false)→Q (.free d b) s):
  ∀(f n:Nat) (st:Option SetTable.Probe) (d:Option Nat),n≤e→e-n<f→(st.getD (t.probeStart (tupleKeyHash knd k))={stand t (tupleKeyHash knd k) n with dummy:=d})→(t.dummies= #[]→d=none)→
   (∀m i,m<n→t.slot (stand t (tupleKeyHash knd k) m).j= .live i→ts[i]?≠some k)→
   wpAny (model prog w) A (setSearchFrom a x (tupleKeyHash knd k) adding f st) Q E s:=by
 intro f
 induction f with
 | zero=>intro n st d h1 h2;omega
 | succ f ih=>
  intro n st d h1 h2 hst hdn hno
  rw[search_eq]
  refine wpAny_bind (z.state ?_)
  dsimp only
  rw[z.good.way,if_neg (by simp)]
  have hfu:e-n<10*SetTable.turns t.mask:=by unfold SetTable.turns;omega
  obtain⟨d',hd',r⟩:=probe_ok z.good.up z.good.ud (hashAt:=hAt es) he (10*SetTable.turns t.mask) n d h1 hfu
  have hpr:t.probe (hAt es) (tupleKeyHash knd k) (st.getD (t.probeStart (tupleKeyHash knd k)))=SetTable.probe.go t (hAt es) (tupleKeyHash knd k) (10*SetTable.turns t.mask) {stand t (tupleKeyHash knd k) n with dummy:=d}:=by rw[hst];rfl
  rw[hpr]
  rcases r with⟨r1,r2⟩ |⟨m,i,q1,q2,q3,q4,q5,q6⟩
  ·rw[r1]
   dsimp only
   have hk:k∉ts:=by
    intro hm
    obtain⟨i,hi,ei⟩:=List.mem_iff_getElem.mp hm
    have ei':ts[i]? =some k:=by rw[←ei];exact List.getElem?_eq_getElem hi
    have hi':i<es.size:=by rw[z.len];exact hi
    obtain⟨ks,e1,e2,e3⟩:=z.ent i es[i] (by simp[hi'])
    rw[ei'] at e1
    cases e1
    have hh:hAt es i=tupleKeyHash knd k:=by unfold hAt;simp[hi',e3]
    have hpl:i<t.place.size:=by rw[z.good.size];exact hi'
    obtain⟨n',g1,g2⟩:=z.good.met i t.place[i] (by simp[hpl])
    rw[hh] at g1 g2
    have hsl:t.slot (stand t (tupleKeyHash knd k) n').j= .live i:=by rw[g1];exact slot_live z.good.up (by simp[hpl])
    have hlt:n'<e:=by
     apply Classical.byContradiction
     intro hge
     by_cases hne:n'=e
     ·subst hne
      exact he.1 (by rw[g1];exact .inl (by simp))
     ·exact he.1 (g2 e (by omega))
    by_cases hn':n'<n
    ·exact hno n' i hn' hsl ei'
    ·exact r2 n' i (by omega) hlt hsl hh
   cases d' with
   | none=>exact wpAny_pure (miss hk _ _ fun _=>⟨rfl,rfl⟩)
   | some dd=>
    dsimp only
    have hne:t.dummies≠#[]:=fun q=>by have:=hd' q;rw[hdn q] at this;cases this
    have had:adding=false:=by
     cases ha:adding with
     | false=>rfl
     | true=>exact absurd (hd ha) hne
    subst had
    rw[if_neg (by simp)]
    exact wpAny_pure (miss hk _ _ fun q=>absurd q hne)
  ·rw[q6]
   dsimp only
   have hpi:=slot_live' q3
   obtain⟨hpl,_⟩:=Array.getElem?_eq_some_iff.mp hpi
   have hi':i<es.size:=by rw[←z.good.size];exact hpl
   have ei:es[i]? =some es[i]:=by simp[hi']
   obtain⟨ks,e1,e2,e3⟩:=z.ent i es[i] ei
   generalize es[i]=en at ei e2 e3
   obtain⟨eh,ev⟩:=en
   have seen: ∀(R:Bool→Shared→Prop),R false s→wpAny (model prog w) A (searchCouldBeSeen x ((es.filter (·.1==tupleKeyHash knd k)).toList.map (·.2))) R E s:=fun R hR=>seen_no hx (fun v hv=>by
    obtain⟨en,he',rfl⟩:=List.mem_map.mp hv
    have hm:en∈es:=(Array.mem_filter.mp (Array.mem_def.mpr he')).1
    obtain⟨i2,hi2,rfl⟩:=Array.mem_iff_getElem.mp hm
    obtain⟨ks2,_,g2,_⟩:=z.ent i2 es[i2] (by simp[hi2])
    exact⟨ks2,g2⟩) hR
   have rest:wpAny (model prog w) A (do
     let some (_,y):=es[i]? | unsupported "internal:set-entry"
     let equal←holding [y] (eqBool y x)
     let (es',_,t')←setState a
     if adding&&equal then return .there none
     let some same:=t'.sameMemory t.moves t.mask | unsupported "set.changed-during-lookup:is-the-new-block-at-the-old-address"
     let still←match (if same then t'.slot (stand t (tupleKeyHash knd k) m).j else .empty) with
      | .live i'=>match es'[i']? with
       | some (_,y')=>do pure (if←isSame y' y then some i' else none)
       | none=>pure none
      | _=>pure none
     match still with
     | none=>rule "set.search.anew";setSearchFrom a x (tupleKeyHash knd k) adding f none
     | some i'=>if equal then return .there (some i') else setSearchFrom a x (tupleKeyHash knd k) adding f (some {stand t (tupleKeyHash knd k) (m+1) with dummy:=d'})) Q E s:=by
    simp only[ei]
    obtain⟨px,rfl,hpx⟩:=hx
    obtain⟨py,rfl,hpy⟩:=e2
    refine wpAny_bind (wpAny_holding (wpAny_eqBool_tuple hu hpy hpx ?_))
    refine wpAny_bind (z.state ?_)
    dsimp only
    have sm:t.sameMemory t.moves t.mask=some true:=by unfold SetTable.sameMemory;simp
    by_cases hkk:ks=k
    ·subst hkk
     have hh:=hit i e1
     rw[decide_eq_true rfl]
     cases adding with
     | true=>
      rw[if_pos (by simp)]
      exact wpAny_pure hh
     | false=>
      rw[if_neg (by simp)]
      simp only[sm,if_true,q3,ei]
      refine wpAny_bind (wpAny_isSame_ref_self (wpAny_bind (wpAny_pure ?_)))
      simp only[if_true]
      exact wpAny_pure hh
    ·rw[decide_eq_false hkk,Bool.and_false,if_neg (by simp)]
     simp only[sm,if_true,q3,ei]
     refine wpAny_bind (wpAny_isSame_ref_self (wpAny_bind (wpAny_pure ?_)))
     simp only[if_true,Bool.false_eq_true,if_false]
     refine ih (m+1) _ d' (by omega) (by omega) rfl (fun q=>(hd' q).trans (hdn q)) fun m' i' hm' hs'=> ?_
     by_cases hlt:m'<n
     ·exact hno m' i' hlt hs'
     ·by_cases hmm:m'=m
      ·subst hmm
       rw[q3] at hs'
       cases hs'
       rw[e1]
       intro hc
       cases hc
       exact hkk rfl
      ·intro hc
       have hlt2:i'<es.size:=by
        have:=slot_live' hs'
        obtain⟨g,_⟩:=Array.getElem?_eq_some_iff.mp this
        rw[←z.good.size];exact g
       obtain⟨ks3,g1,g2,g3⟩:=z.ent i' es[i'] (by simp[hlt2])
       rw[hc] at g1
       cases g1
       exact q5 m' i' (by omega) (by omega) hs' (by unfold hAt;simp[hlt2,g3])
   cases hl:t.led with
   | true=>
    rw[if_neg (by simp)]
    exact rest
   | false=>
    rw[if_pos (by simp)]
    refine wpAny_bind (seen _ ?_)
    rw[if_neg (by simp)]
    exact rest
end
theorem insertAt_list {α:Type} (xs:Array α) (p:Nat) (x:α):(SetTable.insertAt xs p x).toList=xs.toList.take p++x::xs.toList.drop p:=by
 unfold SetTable.insertAt
 rw[Array.toList_append,Array.toList_push,Array.toList_extract,Array.toList_extract,List.extract_eq_take_drop,List.extract_eq_take_drop]
 simp only[List.drop_zero,Nat.sub_zero,List.append_assoc,List.singleton_append]
 congr 2
 exact List.take_of_length_le (by simp)
theorem aDp {α:Type} (xs:Array α) (p:Nat) (x:α) (hp:p≤xs.size) (i:Nat):(SetTable.insertAt xs p x)[i]? =if i<p then xs[i]? else if i=p then some x else xs[i-1]? :=by
 have hl:(xs.toList.take p).length=p:=by rw[List.length_take];simp;omega
 rw[←Array.getElem?_toList,insertAt_list]
 by_cases h1:i<p
 ·rw[if_pos h1,List.getElem?_append_left (by omega),List.getElem?_take,if_pos h1,Array.getElem?_toList]
 ·rw[if_neg h1,List.getElem?_append_right (by omega),hl]
  by_cases h2:i=p
  ·rw[if_pos h2,h2,Nat.sub_self];rfl
  ·rw[if_neg h2]
   obtain⟨m,hm⟩: ∃m,i-p=m+1:=⟨i-p-1,by omega⟩
   rw[hm,List.getElem?_cons_succ,List.getElem?_drop,Array.getElem?_toList]
   congr 1
   omega
theorem aCn {α:Type} (xs:Array α) (p:Nat) (x:α) (hp:p≤xs.size):(SetTable.insertAt xs p x).size=xs.size+1:=by
 rw[←Array.length_toList,insertAt_list,List.length_append,List.length_cons,List.length_take,List.length_drop]
 simp
 omega
theorem aDb {t t':SetTable} (e:t'.mask=t.mask) (h:Int) (n:Nat):stand t' h n=stand t h n:=by
 induction n with
 | zero=>
  show t'.probeStart h=t.probeStart h
  unfold SetTable.probeStart
  rw[e]
 | succ n ih=>
  show t'.advance (stand t' h n)=t.advance (stand t h n)
  rw[ih]
  unfold SetTable.advance
  rw[e]
theorem ups_insert {xs:Array Nat} (up:Ups xs) {j:Nat} (hj:j∉xs.toList):Ups (SetTable.insertAt xs (SetTable.below xs j) j):=by
 obtain⟨b1,b2,b3⟩:=below_ok up j
 intro a b hab hb ha
 have gb:=aDp xs (SetTable.below xs j) j b1 b
 have ga:=aDp xs (SetTable.below xs j) j b1 a
 rw[getElem?_pos _ b hb] at gb
 rw[getElem?_pos _ a ha] at ga
 rw[aCn _ _ _ b1] at hb
 generalize (SetTable.insertAt xs (SetTable.below xs j) j)[b]=vb at gb
 generalize (SetTable.insertAt xs (SetTable.below xs j) j)[a]=va at ga
 have off: ∀k (h:k<xs.size),xs[k]≠j:=fun k h e=>hj (by rw[←e];simp)
 by_cases h1:b<SetTable.below xs j
 ·rw[if_pos h1] at gb
  rw[if_pos (by omega)] at ga
  obtain⟨hb',rfl⟩:=Array.getElem?_eq_some_iff.mp gb.symm
  obtain⟨ha',rfl⟩:=Array.getElem?_eq_some_iff.mp ga.symm
  exact up a b hab hb' ha'
 ·rw[if_neg h1] at gb
  by_cases h2:b=SetTable.below xs j
  ·rw[if_pos h2] at gb
   cases gb
   rw[if_pos (by omega)] at ga
   obtain⟨ha',rfl⟩:=Array.getElem?_eq_some_iff.mp ga.symm
   exact b2 a ha' (by omega)
  ·rw[if_neg h2] at gb
   obtain⟨hb',rfl⟩:=Array.getElem?_eq_some_iff.mp gb.symm
   by_cases h3:a<SetTable.below xs j
   ·rw[if_pos h3] at ga
    obtain⟨ha',rfl⟩:=Array.getElem?_eq_some_iff.mp ga.symm
    exact up a (b-1) (by omega) hb' ha'
   ·rw[if_neg h3] at ga
    by_cases h4:a=SetTable.below xs j
    ·rw[if_pos h4] at ga
     cases ga
     have q1:=b3 (b-1) hb' (by omega)
     have q2:=off (b-1) hb'
     omega
    ·rw[if_neg h4] at ga
     obtain⟨ha',rfl⟩:=Array.getElem?_eq_some_iff.mp ga.symm
     exact up (a-1) (b-1) (by omega) hb' ha'
theorem good_put {t:SetTable} {es:Array (Int×Value)} {h:Int} {x:Value} {e:Nat} (g:GoodT t es) (hd:t.dummies= #[]) (hf:t.fill+1≤t.mask) (he:EndAt t h e) (pl:Bool):
  GoodT {(t.put (stand t h e).j).1 with plain:=pl} (SetTable.insertAt es (t.put (stand t h e).j).2 (h,x))∧(t.put (stand t h e).j).2≤es.size∧(t.put (stand t h e).j).1.dummies= #[]∧(t.put (stand t h e).j).1.fill=t.fill+1∧(t.put (stand t h e).j).1.mask=t.mask∧(t.put (stand t h e).j).1.led=t.led:=by
 have hj:(stand t h e).j∉t.place.toList:=fun q=>he.1 (.inl q)
 obtain⟨b1,b2,b3⟩:=below_ok g.up (stand t h e).j
 have hpz:SetTable.below t.place (stand t h e).j≤es.size:=by rw[←g.size];exact b1
 have e1:t.put (stand t h e).j=({t with place:=SetTable.insertAt t.place (SetTable.below t.place (stand t h e).j) (stand t h e).j,dummies:= #[]},SetTable.below t.place (stand t h e).j):=by
  unfold SetTable.put
  dsimp only
  rw[hd]
  rfl
 rw[e1]
 dsimp only
 have hfl:SetTable.fill {t with place:=SetTable.insertAt t.place (SetTable.below t.place (stand t h e).j) (stand t h e).j,dummies:= #[]}=t.fill+1:=by
  unfold SetTable.fill
  dsimp only
  rw[aCn _ _ _ b1,hd]
  simp
 refine⟨⟨ups_insert g.up hj,fun i j _ hj=>by simp at hj,?_,?_,g.small,?_⟩,hpz,rfl,hfl,rfl,rfl⟩
 ·rw[aCn _ _ _ b1,aCn _ _ _ hpz,g.size]
 ·show SetTable.fill {t with place:=SetTable.insertAt t.place (SetTable.below t.place (stand t h e).j) (stand t h e).j,dummies:= #[]}≤t.mask
  rw[hfl]
  exact hf
 ·intro i j hij
  rw[aDp _ _ _ b1] at hij
  have hg:=aDp es (SetTable.below t.place (stand t h e).j) (h,x) hpz i
  have occ: ∀j',Occ t j'→Occ {t with place:=SetTable.insertAt t.place (SetTable.below t.place (stand t h e).j) (stand t h e).j,dummies:= #[],plain:=pl} j':=fun j' ho=>by
   rcases ho with ho | ho
   ·refine .inl ?_
    show j'∈(SetTable.insertAt t.place _ _).toList
    rw[insertAt_list]
    rw[←List.take_append_drop (SetTable.below t.place (stand t h e).j) t.place.toList] at ho
    rcases List.mem_append.mp ho with q | q
    ·exact List.mem_append_left _ q
    ·exact List.mem_append_right _ (List.mem_cons_of_mem _ q)
   ·rw[hd] at ho;simp at ho
  have old: ∀i0,t.place[i0]? =some j→hAt (SetTable.insertAt es (SetTable.below t.place (stand t h e).j) (h,x)) i=hAt es i0→∃n,(stand {t with place:=SetTable.insertAt t.place (SetTable.below t.place (stand t h e).j) (stand t h e).j,dummies:= #[],plain:=pl} (hAt (SetTable.insertAt es (SetTable.below t.place (stand t h e).j) (h,x)) i) n).j=j∧∀m,m<n→Occ {t with place:=SetTable.insertAt t.place (SetTable.below t.place (stand t h e).j) (stand t h e).j,dummies:= #[],plain:=pl} (stand {t with place:=SetTable.insertAt t.place (SetTable.below t.place (stand t h e).j) (stand t h e).j,dummies:= #[],plain:=pl} (hAt (SetTable.insertAt es (SetTable.below t.place (stand t h e).j) (h,x)) i) m).j:=fun i0 h0 eh=>by
   obtain⟨n,n1,n2⟩:=g.met i0 j h0
   refine⟨n,?_,fun m hm=> ?_⟩
   ·rw[eh];exact (congrArg SetTable.Probe.j (aDb (t:=t) (by rfl) _ _)).trans n1
   ·rw[eh];exact (congrArg (fun p:SetTable.Probe=>Occ _ p.j) (aDb (t:=t) (by rfl) _ m)).mpr (occ _ (n2 m hm))
  by_cases h1:i<SetTable.below t.place (stand t h e).j
  ·rw[if_pos h1] at hij hg
   exact old i hij (by unfold hAt;rw[hg])
  ·rw[if_neg h1] at hij hg
   by_cases h2:i=SetTable.below t.place (stand t h e).j
   ·rw[if_pos h2] at hij hg
    cases hij
    have eh:hAt (SetTable.insertAt es (SetTable.below t.place (stand t h e).j) (h,x)) i=h:=by unfold hAt;rw[hg];rfl
    refine⟨e,?_,fun m hm=> ?_⟩
    ·rw[eh];exact congrArg SetTable.Probe.j (aDb (t:=t) (by rfl) _ _)
    ·rw[eh];exact (congrArg (fun p:SetTable.Probe=>Occ _ p.j) (aDb (t:=t) (by rfl) _ m)).mpr (occ _ (he.2 m hm))
   ·rw[if_neg h2] at hij hg
    exact old (i-1) hij (by unfold hAt;rw[hg])
noncomputable def Full (owner:Array (Option Nat)) (j:Nat):Prop:= ∃k,owner[j]? =some (some k)
theorem runAt_mono (mask:Nat) (h:Int) {a b:Nat} (hab:a≤b):aDm mask h a≤aDm mask h b:=by
 induction b with
 | zero=>
  obtain rfl:a=0:=by omega
  exact Nat.le_refl _
 | succ b ih=>
  by_cases e:a=b+1
  ·subst e;exact Nat.le_refl _
  ·have:=ih (by omega)
   show _≤aDm mask h b+_+1
   omega
theorem runEnd_le {mask i:Nat} (h:i≤mask):SetTable.runEnd mask i≤mask:=by
 unfold SetTable.runEnd
 split<;>omega
theorem free_ok (T:SetTable) {owner:Array (Option Nat)} {h:Int} {e:Nat} (hz:owner.size=T.mask+1) (he:¬Full owner (stand T h e).j) (hb: ∀m,m<e→Full owner (stand T h m).j):
  ∀(f k:Nat),aDm T.mask h k≤e→e<aDm T.mask h (k+f)→SetTable.layClean.free T.mask owner f (runI T.mask h k).1 (runI T.mask h k).2=some (stand T h e).j:=by
 intro f
 induction f with
 | zero=>intro k h1 h2;rw[Nat.add_zero] at h2;omega
 | succ f ih=>
  intro k h1 h2
  unfold SetTable.layClean.free
  have hi:=runI_lt T.mask h k
  have hre:SetTable.runEnd T.mask (runI T.mask h k).1≤T.mask:=runEnd_le (by omega)
  have hri:(runI T.mask h k).1≤SetTable.runEnd T.mask (runI T.mask h k).1:=by unfold SetTable.runEnd;split<;>omega
  have val: ∀m,m≤SetTable.runEnd T.mask (runI T.mask h k).1-(runI T.mask h k).1→((owner.getD ((runI T.mask h k).1+m) (some 0)).isNone=true↔¬Full owner (stand T h (aDm T.mask h k+m)).j):=fun m hm=>by
   rw[stand_run T h k m hm]
   dsimp only
   have hlt:(runI T.mask h k).1+m<owner.size:=by omega
   have e1:owner.getD ((runI T.mask h k).1+m) (some 0)=owner[(runI T.mask h k).1+m]:=by simp[Array.getD,hlt]
   rw[e1]
   unfold Full
   rw[getElem?_pos owner _ hlt]
   cases owner[(runI T.mask h k).1+m] with
   | none=>simp
   | some k=>simp
  by_cases hc:e<aDm T.mask h (k+1)
  ·have hm:e-aDm T.mask h k≤SetTable.runEnd T.mask (runI T.mask h k).1-(runI T.mask h k).1:=by
    have:e<aDm T.mask h k+(SetTable.runEnd T.mask (runI T.mask h k).1-(runI T.mask h k).1)+1:=hc
    omega
   have hfind:(List.range (SetTable.runEnd T.mask (runI T.mask h k).1+1-(runI T.mask h k).1)).find? (fun m=>(owner.getD ((runI T.mask h k).1+m) (some 0)).isNone)=some (e-aDm T.mask h k):=by
    rw[List.find?_range_eq_some]
    refine⟨?_,?_,fun m hm'=> ?_⟩
    ·exact (val _ hm).mpr (by rw[show aDm T.mask h k+(e-aDm T.mask h k)=e by omega];exact he)
    ·exact List.mem_range.mpr (by omega)
    ·have hnn:¬(owner.getD ((runI T.mask h k).1+m) (some 0)).isNone=true:=fun q=>(val m (by omega)).mp q (hb _ (by omega))
     rw[Bool.not_eq_true']
     exact Bool.eq_false_iff.mpr hnn
   rw[hfind]
   dsimp only
   have e2:=stand_run T h k _ hm
   rw[show aDm T.mask h k+(e-aDm T.mask h k)=e by omega] at e2
   rw[e2]
  ·have hfind:(List.range (SetTable.runEnd T.mask (runI T.mask h k).1+1-(runI T.mask h k).1)).find? (fun m=>(owner.getD ((runI T.mask h k).1+m) (some 0)).isNone)=none:=by
    rw[List.find?_eq_none]
    intro m hm hn
    have hm':=List.mem_range.mp hm
    refine (val m (by omega)).mp hn (hb _ ?_)
    have:aDm T.mask h k+(SetTable.runEnd T.mask (runI T.mask h k).1-(runI T.mask h k).1)+1≤e:=Nat.le_of_not_lt hc
    omega
   rw[hfind]
   exact ih (k+1) (by omega) (by rw[show k+1+f=k+(f+1) by omega];exact h2)
structure OwnOk (T:SetTable) (owner:Array (Option Nat)) (hs:List Int):Prop where
 size:owner.size=T.mask+1
 lt: ∀(j k:Nat),owner[j]? =some (some k)→k<hs.length
 has: ∀k,k<hs.length→∃j:Nat,owner[j]? =some (some k)
 inj: ∀(j j' k:Nat),owner[j]? =some (some k)→owner[j']? =some (some k)→j=j'
 met: ∀(j k:Nat),owner[j]? =some (some k)→∃n,(stand T (hs.getD k 0) n).j=j∧∀m,m<n→Full owner (stand T (hs.getD k 0) m).j
theorem own_room {T:SetTable} {owner:Array (Option Nat)} {hs:List Int} (o:OwnOk T owner hs) (hl:hs.length≤T.mask): ∃j,j≤T.mask∧¬Full owner j:=by
 apply Classical.byContradiction
 intro hno
 have hall: ∀j,j≤T.mask→Full owner j:=fun j hj=>Classical.byContradiction fun q=>hno ⟨j,hj,q⟩
 have key: ∀n,n≤T.mask+1→∃l:List Nat,l.length=n∧l.Nodup∧(∀k∈l,k<hs.length∧∃j:Nat,j<n∧owner[j]? =some (some k)):=by
  intro n
  induction n with
  | zero=>intro _;exact⟨[],rfl,.nil,fun k hk=>by simp at hk⟩
  | succ n ih=>
   intro hn
   obtain⟨l,h1,h2,h3⟩:=ih (by omega)
   obtain⟨k,hk⟩:=hall n (by omega)
   refine⟨k::l,by simp[h1],List.nodup_cons.mpr ⟨fun q=> ?_,h2⟩,fun k' hk'=> ?_⟩
   ·obtain⟨_,j,j1,j2⟩:=h3 k q
    have:=o.inj n j k hk j2
    omega
   ·rcases List.mem_cons.mp hk' with rfl | hk'
    ·exact⟨o.lt n k' hk,n,by omega,hk⟩
    ·obtain⟨a,j,j1,j2⟩:=h3 k' hk'
     exact⟨a,j,by omega,j2⟩
 obtain⟨l,h1,h2,h3⟩:=key (T.mask+1) (Nat.le_refl _)
 have:=nodup_leN l (List.range hs.length) h2 fun k hk=>List.mem_range.mpr (h3 k hk).1
 rw[List.length_range] at this
 omega
theorem own_step {T:SetTable} (hm:Small3 T) {owner:Array (Option Nat)} {hs:List Int} (o:OwnOk T owner hs) (hl:hs.length≤T.mask) (h:Int):
  ∃j,SetTable.layClean.free T.mask owner (SetTable.turns T.mask) (SetTable.bits h%(T.mask+1)) (SetTable.bits h)=some j∧OwnOk T (owner.setIfInBounds j (some hs.length)) (hs++ [h]):=by
 obtain⟨j0,hj0,hn0⟩:=own_room o hl
 have hi:=runI_lt T.mask h 13
 obtain⟨k0,hk0,ek⟩: ∃k,k≤T.mask∧spin (T.mask+1) k (runI T.mask h 13).1=j0:=by
  rcases hm with hm | hm | hm
  ·rw[hm] at hi hj0⊢
   obtain⟨k,h1,h2⟩:=spin8 _ hi j0 (by omega)
   exact⟨k,by omega,h2⟩
  ·rw[hm] at hi hj0⊢
   obtain⟨k,h1,h2⟩:=spin16 _ hi j0 (by omega)
   exact⟨k,by omega,h2⟩
  ·rw[hm] at hi hj0⊢
   obtain⟨k,h1,h2⟩:=spin32 _ hi j0 (by omega)
   exact⟨k,by omega,h2⟩
 have est:(stand T h (aDm T.mask h (13+k0))).j=j0:=by
  have:=stand_run T h (13+k0) 0 (Nat.zero_le _)
  rw[Nat.add_zero] at this
  rw[this]
  show (runI T.mask h (13+k0)).1+0=j0
  rw[run_spin,ek,Nat.add_zero]
 obtain⟨e,e1,e2,e3⟩:=first_of (fun n=>¬Full owner (stand T h n).j) (aDm T.mask h (13+k0)) (by rw[est];exact hn0)
 have e3': ∀m,m<e→Full owner (stand T h m).j:=fun m hm'=>Classical.byContradiction fun q=>e3 m hm' q
 have lt:e<aDm T.mask h (0+SetTable.turns T.mask):=by
  have a1:aDm T.mask h (13+k0+1)≤aDm T.mask h (0+SetTable.turns T.mask):=runAt_mono _ _ (by unfold SetTable.turns;omega)
  have a2:aDm T.mask h (13+k0)+1≤aDm T.mask h (13+k0+1):=by
   show _≤aDm T.mask h (13+k0)+_+1
   omega
  omega
 have hfr:=free_ok T o.size e2 e3' (SetTable.turns T.mask) 0 (Nat.zero_le _) lt
 have hjl:(stand T h e).j≤T.mask:=by
  have aux: ∀n,(stand T h n).j+(stand T h n).more≤T.mask:=by
   intro n
   induction n with
   | zero=>
    show SetTable.bits h%(T.mask+1)+(SetTable.runEnd T.mask (SetTable.bits h%(T.mask+1))-SetTable.bits h%(T.mask+1))≤T.mask
    have h1:SetTable.bits h%(T.mask+1)<T.mask+1:=Nat.mod_lt _ (Nat.succ_pos _)
    have h2:=runEnd_le (mask:=T.mask) (i:=SetTable.bits h%(T.mask+1)) (by omega)
    omega
   | succ n ih=>
    show (T.advance (stand T h n)).j+(T.advance (stand T h n)).more≤T.mask
    unfold SetTable.advance
    dsimp only
    split
    ·dsimp only
     omega
    ·dsimp only
     have h1:(SetTable.leap T.mask (stand T h n).i (stand T h n).perturb).1<T.mask+1:=Nat.mod_lt _ (Nat.succ_pos _)
     have h2:=runEnd_le (mask:=T.mask) (i:=(SetTable.leap T.mask (stand T h n).i (stand T h n).perturb).1) (by omega)
     omega
  have:=aux e
  omega
 refine⟨_,hfr,?_⟩
 generalize hj:(stand T h e).j=j at e2 hjl
 have hjz:j<owner.size:=by rw[o.size];omega
 have gj:(owner.setIfInBounds j (some hs.length))[j]? =some (some hs.length):=by simp[hjz]
 have go: ∀j':Nat,j'≠j→(owner.setIfInBounds j (some hs.length))[j']? =owner[j']? :=fun j' hne=>by
  rw[Array.getElem?_setIfInBounds]
  simp[Ne.symm hne]
 have fullMono: ∀j',Full owner j'→Full (owner.setIfInBounds j (some hs.length)) j':=fun j' ⟨k,hk⟩=>by
  by_cases hne:j'=j
  ·subst hne;exact⟨_,gj⟩
  ·exact⟨k,by rw[go j' hne];exact hk⟩
 refine⟨by simp[o.size],fun j' k hk=> ?_,fun k hk=> ?_,fun a b k ha hb=> ?_,fun j' k hk=> ?_⟩
 ·rw[List.length_append,List.length_singleton]
  by_cases hne:j'=j
  ·subst hne;rw[gj] at hk;cases hk;omega
  ·rw[go j' hne] at hk;have:=o.lt j' k hk;omega
 ·rw[List.length_append,List.length_singleton] at hk
  by_cases hkl:k=hs.length
  ·subst hkl;exact⟨j,gj⟩
  ·obtain⟨j',hj'⟩:=o.has k (by omega)
   have hne:j'≠j:=fun q=>e2 ⟨k,by rw[←q];exact hj'⟩
   exact⟨j',by rw[go j' hne];exact hj'⟩
 ·by_cases h1:a=j
  ·by_cases h2:b=j
   ·rw[h1,h2]
   ·subst h1
    rw[gj] at ha;cases ha
    rw[go b h2] at hb
    have:=o.lt b _ hb
    omega
  ·by_cases h2:b=j
   ·subst h2
    rw[gj] at hb;cases hb
    rw[go a h1] at ha
    have:=o.lt a _ ha
    omega
   ·rw[go a h1] at ha;rw[go b h2] at hb
    exact o.inj a b k ha hb
 ·by_cases hne:j'=j
  ·subst hne
   rw[gj] at hk;cases hk
   have eh:(hs++ [h]).getD hs.length 0=h:=by simp
   rw[eh]
   exact⟨e,hj,fun m hm'=>fullMono _ (e3' m hm')⟩
  ·rw[go j' hne] at hk
   have hkl:=o.lt j' k hk
   have eh:(hs++ [h]).getD k 0=hs.getD k 0:=by
    rw[List.getD_eq_getElem?_getD,List.getD_eq_getElem?_getD,List.getElem?_append_left hkl]
   rw[eh]
   obtain⟨n,n1,n2⟩:=o.met j' k hk
   exact⟨n,n1,fun m hm'=>fullMono _ (n2 m hm')⟩
theorem own_nil (T:SetTable):OwnOk T (Array.replicate (T.mask+1) none) []:=by
 have no: ∀(j k:Nat),(Array.replicate (T.mask+1) (none:Option Nat))[j]?≠some (some k):=fun j k=>by
  rw[Array.getElem?_replicate]
  split<;>simp
 exact⟨by simp,fun j k h=>absurd h (no j k),fun k h=>by simp at h,fun a b k h=>absurd h (no a k),fun j k h=>absurd h (no j k)⟩
theorem lay_all {T:SetTable} (hm:Small3 T): ∀(rest hs:List Int) (owner:Array (Option Nat)),OwnOk T owner hs→hs.length+rest.length≤T.mask+1→
  ∃owner',rest.foldl (fun acc h=>do
   let (owner,k)←acc
   let j←SetTable.layClean.free T.mask owner (SetTable.turns T.mask) (SetTable.bits h%(T.mask+1)) (SetTable.bits h)
   pure (owner.setIfInBounds j (some k),k+1)) (some (owner,hs.length))=some (owner',(hs++rest).length)∧OwnOk T owner' (hs++rest):=by
 intro rest
 induction rest with
 | nil=>intro hs owner o _;exact⟨owner,by simp,by simpa using o⟩
 | cons h rest ih=>
  intro hs owner o hl
  rw[List.length_cons] at hl
  obtain⟨j,hj,o'⟩:=own_step hm o (by omega) h
  obtain⟨owner',h1,h2⟩:=ih (hs++ [h]) _ o' (by rw[List.length_append,List.length_singleton];omega)
  refine⟨owner',?_,by simpa using h2⟩
  rw[List.foldl_cons]
  show rest.foldl _ ((SetTable.layClean.free T.mask owner (SetTable.turns T.mask) (SetTable.bits h%(T.mask+1)) (SetTable.bits h)).bind fun j=>some (owner.setIfInBounds j (some hs.length),hs.length+1))=_
  rw[hj]
  have e:(hs++ [h]).length=hs.length+1:=by simp
  rw[e] at h1
  rw[List.append_assoc] at h1
  exact h1
theorem layClean_ok {T:SetTable} (hm:Small3 T) (hashes:Array Int) (hl:hashes.size≤T.mask+1): ∃owner,SetTable.layClean T.mask hashes=some owner∧OwnOk T owner hashes.toList:=by
 obtain⟨owner,h1,h2⟩:=lay_all hm hashes.toList [] _ (own_nil T) (by simpa using hl)
 refine⟨owner,?_,by simpa using h2⟩
 unfold SetTable.layClean
 rw[←Array.foldl_toList]
 show Option.map _ (hashes.toList.foldl _ (some (_,([]:List Int).length)))=_
 rw[h1]
 rfl
noncomputable def aCy (mask:Nat) (owner:Array (Option Nat)):List (Nat×Nat):=(List.range (mask+1)).filterMap fun j=>(owner.getD j none).map (j,·)
theorem live_mem {mask:Nat} {owner:Array (Option Nat)} {p:Nat×Nat}:p∈aCy mask owner↔p.1≤mask∧owner[p.1]? =some (some p.2):=by
 unfold aCy
 rw[List.mem_filterMap]
 constructor
 ·rintro⟨j,hj,e⟩
  have hj':=List.mem_range.mp hj
  rw[Option.map_eq_some_iff] at e
  obtain⟨k,hk,rfl⟩:=e
  refine⟨by dsimp only;omega,?_⟩
  dsimp only
  by_cases hz:j<owner.size
  ·have:owner.getD j none=owner[j]:=by simp[Array.getD,hz]
   rw[this] at hk
   rw[getElem?_pos owner j hz,hk]
  ·have:owner.getD j none=none:=by simp[Array.getD,hz]
   rw[this] at hk;cases hk
 ·rintro⟨h1,h2⟩
  refine⟨p.1,List.mem_range.mpr (by omega),?_⟩
  obtain⟨hz,e⟩:=Array.getElem?_eq_some_iff.mp h2
  have:owner.getD p.1 none=owner[p.1]:=by simp[Array.getD,hz]
  rw[this,e]
  rfl
theorem live_rise (mask:Nat) (owner:Array (Option Nat)):((aCy mask owner).map (·.1)).Pairwise (· < ·):=by
 unfold aCy
 rw[List.pairwise_map,List.pairwise_filterMap]
 refine List.pairwise_lt_range.imp fun {a b} hab p hp q hq=> ?_
 rw[Option.map_eq_some_iff] at hp hq
 obtain⟨_,_,rfl⟩:=hp
 obtain⟨_,_,rfl⟩:=hq
 exact hab
theorem live_nodup {T:SetTable} {owner:Array (Option Nat)} {hs:List Int} (o:OwnOk T owner hs):((aCy T.mask owner).map (·.2)).Nodup:=by
 have hr:=live_rise T.mask owner
 rw[List.pairwise_map] at hr
 unfold List.Nodup
 rw[List.pairwise_map]
 refine List.Pairwise.imp_of_mem (fun {p q} hp hq hlt=> ?_) hr
 intro e
 have h1:=(live_mem.mp hp).2
 have h2:=(live_mem.mp hq).2
 rw[e] at h1
 have:=o.inj _ _ _ h1 h2
 omega
theorem live_perm {T:SetTable} {owner:Array (Option Nat)} {hs:List Int} (o:OwnOk T owner hs):((aCy T.mask owner).map (·.2)).Perm (List.range hs.length):=by
 rw[List.perm_ext_iff_of_nodup (live_nodup o) List.nodup_range]
 intro k
 rw[List.mem_map,List.mem_range]
 constructor
 ·rintro⟨p,hp,rfl⟩
  exact o.lt _ _ (live_mem.mp hp).2
 ·intro hk
  obtain⟨j,hj⟩:=o.has k hk
  obtain⟨hz,_⟩:=Array.getElem?_eq_some_iff.mp hj
  exact⟨(j,k),live_mem.mpr ⟨by rw[o.size] at hz;dsimp only;omega,hj⟩,rfl⟩
theorem filt_map {α:Type} (es:Array α) (d:α): ∀(l:List Nat),(∀k∈l,k<es.size)→l.filterMap (fun k=>es[k]?)=l.map fun k=>es.getD k d:=by
 intro l
 induction l with
 | nil=>intro _;rfl
 | cons k l ih=>
  intro h
  have hk:=h k List.mem_cons_self
  rw[List.filterMap_cons,List.map_cons,getElem?_pos es k hk,ih fun x hx=>h x (List.mem_cons_of_mem _ hx)]
  simp[Array.getD,hk]
theorem ups_list {l:List Nat} (h:l.Pairwise (· < ·)):Ups l.toArray:=by
 intro i j hij hj hi
 simp at hj hi
 simpa using (List.pairwise_iff_getElem.mp h) i j hi hj hij
theorem relaid_ok {t:SetTable} {es:Array (Int×Value)} {wanted:Nat} (hw:SetTable.sizeAbove wanted=8∨SetTable.sizeAbove wanted=32) (hl:es.size<SetTable.sizeAbove wanted):
  ∃(T:SetTable) (l:List Nat),t.relaid (es.map (·.1)) wanted=some (T,l.toArray)∧l.Perm (List.range es.size)∧(T.led=t.led∧T.plain=t.plain)∧T.dummies= #[]∧T.mask=SetTable.sizeAbove wanted-1∧T.place.size=es.size∧GoodT T (l.toArray.filterMap (es[·]?))∧(l.toArray.filterMap (es[·]?)).toList=l.map fun k=>es.getD k (0,.none):=by
 obtain⟨T0,hT0,hm⟩: ∃T0:SetTable,T0.mask=SetTable.sizeAbove wanted-1∧Small T0:=⟨{t with mask:=SetTable.sizeAbove wanted-1},rfl,by
  unfold Small
  dsimp only
  rcases hw with h | h<;>rw[h]<;>simp⟩
 obtain⟨owner,h1,o⟩:=layClean_ok hm.to3 (es.map (·.1)) (by rw[Array.size_map];omega)
 have hlen:((es.map (·.1)).toList).length=es.size:=by simp
 have hp:=live_perm o
 rw[hlen] at hp
 have hr:=live_rise T0.mask owner
 have hlt: ∀k∈(aCy T0.mask owner).map (·.2),k<es.size:=fun k hk=>List.mem_range.mp (hp.mem_iff.mp hk)
 have hsz:(aCy T0.mask owner).length=es.size:=by
  have:=hp.length_eq
  rw[List.length_map,List.length_range] at this
  exact this
 have hfm:(((aCy T0.mask owner).map (·.2)).toArray.filterMap (es[·]?)).toList=((aCy T0.mask owner).map (·.2)).map fun k=>es.getD k (0,.none):=by
  rw[←filt_map es (0,.none) _ hlt]
  simp
 refine⟨{mask:=SetTable.sizeAbove wanted-1,place:=((aCy T0.mask owner).map (·.1)).toArray,dummies:= #[],finger:=t.finger,led:=t.led,moves:=t.movedTo (SetTable.sizeAbove wanted-1),plain:=t.plain},(aCy T0.mask owner).map (·.2),?_,hp,⟨rfl,rfl⟩,rfl,rfl,by simp[hsz],?_,hfm⟩
 ·unfold SetTable.relaid SetTable.laid
  rw[←hT0,h1]
  rfl
 ·have hz2:(((aCy T0.mask owner).map (·.2)).toArray.filterMap (es[·]?)).size=es.size:=by
   rw[←Array.length_toList,hfm,List.length_map,List.length_map,hsz]
  refine⟨ups_list hr,fun i j _ hj=>by simp at hj,?_,?_,?_,fun i j hij=> ?_⟩
  ·rw[hz2];simp[hsz]
  ·show ((aCy T0.mask owner).map (·.1)).toArray.size+(#[]:Array Nat).size≤SetTable.sizeAbove wanted-1
   simp[hsz]
   omega
  ·unfold Small
   dsimp only
   rcases hw with h | h<;>rw[h]<;>simp
  ·have hij':((aCy T0.mask owner).map (·.1))[i]? =some j:=by simpa using hij
   rw[List.getElem?_map,Option.map_eq_some_iff] at hij'
   obtain⟨p,hp1,hp2⟩:=hij'
   have hpm:=live_mem.mp (List.mem_of_getElem? hp1)
   have hk:p.2<es.size:=hlt p.2 (List.mem_map.mpr ⟨p,List.mem_of_getElem? hp1,rfl⟩)
   have eh:hAt (((aCy T0.mask owner).map (·.2)).toArray.filterMap (es[·]?)) i=((es.map (·.1)).toList).getD p.2 0:=by
    unfold hAt
    rw[←Array.getElem?_toList,hfm,List.map_map,List.getElem?_map,hp1]
    simp[Array.getD,hk]
   obtain⟨n,n1,n2⟩:=o.met p.1 p.2 hpm.2
   rw[eh]
   have sm: ∀(h:Int) (n:Nat),stand {mask:=SetTable.sizeAbove wanted-1,place:=((aCy T0.mask owner).map (·.1)).toArray,dummies:= #[],finger:=t.finger,led:=t.led,moves:=t.movedTo (SetTable.sizeAbove wanted-1),plain:=t.plain} h n=stand T0 h n:=fun h n=>aDb hT0.symm h n
   refine⟨n,?_,fun m hm'=> ?_⟩
   ·rw[sm,n1,hp2]
   ·rw[sm]
    obtain⟨k,hk2⟩:=n2 m hm'
    obtain⟨hz,_⟩:=Array.getElem?_eq_some_iff.mp hk2
    refine .inl ?_
    show (stand T0 _ m).j∈((aCy T0.mask owner).map (·.1)).toArray.toList
    rw[List.toList_toArray]
    rw[o.size] at hz
    exact List.mem_map.mpr ⟨(_,k),live_mem.mpr ⟨Nat.le_of_lt_succ hz,hk2⟩,rfl⟩
section
variable {prog:Program} {w:World} {K:Type} [DecidableEq K] {knd:KeyKind prog w K} {P:Value→Prop} {A:Around} {E:Value→Shared→Prop} {s:Shared}
theorem hbv_txt {k:List Str} {x:Value} {Q:Bool→Shared→Prop} (hx:TKey (PySem.strKind prog w) s.heap x k) (h:Q k.isEmpty s):wpAny (model prog w) A (hashByValue 8 x) Q E s:=by
 obtain⟨p,rfl,hk⟩:=hx
 have hT:=hk.typeIs
 obtain⟨o,items,n,ho,_,hd,hi⟩:=hk
 unfold hashByValue
 refine wpAny_bind (wpAny_specialOf hT F.slot_tuple_hash.lookup ?_)
 dsimp only
 refine wpAny_bind (wpAny_seqItems ho hd ?_)
 refine wpAny_bind ?_
 show wpAny _ _ (forIn items _ _) _ _ s
 rw[←Array.forIn_toList]
 generalize items.toList=l at hi
 cases hi with
 | nil=>
  rw[List.forIn_nil]
  exact wpAny_pure (wpAny_pure h)
 | cons h1 h2=>
  obtain⟨t,rfl⟩:=Value.isStrOf_shape h1
  rw[List.forIn_cons]
  refine wpAny_bind ?_
  show wpAny _ _ (hashByValue 7 (Value.str _ t)>>=_) _ _ _
  refine wpAny_bind (show wpAny _ _ (pure false) _ _ _ from wpAny_pure ?_)
  rw[if_pos (by simp)]
  exact wpAny_pure (wpAny_pure (wpAny_pure h))
theorem TKey.kept {h h':Heap} {v:Value} {ks:List K} {a:Addr} {o:Obj} {es:Array (Int×Value)} {ep:Nat} {t:SetTable} (x:TKey knd h v ks) (ho:h.get? a=some o) (hd:o.data= .set es ep t) (hs:Heap.SameBut a h h'):TKey knd h' v ks:=by
 obtain⟨p,rfl,o',items,n,ho',hc,hd',hi⟩:=x
 have hne:p≠a:=by
  rintro rfl
  rw[ho] at ho'
  cases ho'
  rw[hd] at hd';cases hd'
 exact⟨p,rfl,o',items,n,(hs.2 p hne).trans ho',hc,hd',hi⟩
theorem TKey.moved {h h':Heap} {v:Value} {ks:List K} (x:TKey knd h v ks) (hs: ∀p o,v= .ref p→h.get? p=some o→h'.get? p=some o):TKey knd h' v ks:=by
 obtain⟨p,rfl,o',items,n,ho',hc,hd',hi⟩:=x
 exact⟨p,rfl,o',items,n,hs p o' rfl ho',hc,hd',hi⟩
noncomputable def SetT (knd:KeyKind prog w K) (P:Value→Prop) (h:Heap) (a:Addr) (ts:List (List K)):Prop:= ∃o es ep t us,TuSet knd P h a o es ep t us∧us.Perm ts∧t.dummies= #[]∧t.fill*5<t.mask*3∧t.led=ledW w∧(t.plain=true→∀k∈us,k=[])
noncomputable def addT (σ:List (List K)) (v:List K):List (List K):=if σ.contains v then σ else σ++ [v]
theorem TuSet.put {h h':Heap} {a:Addr} {o o':Obj} {es:Array (Int×Value)} {ep ep':Nat} {t t':SetTable} {us:List (List K)} {x:Value} {k:List K} {p:Nat} (z:TuSet knd P h a o es ep t us) (hx:TKey knd h x k) (hP:P x) (hk:k∉us) (hp:p≤es.size) (sb:Heap.SameBut a h h')
  (ho:h'.get? a=some o') (hex:o'.ExactSet) (hd:o'.data= .set (SetTable.insertAt es p (tupleKeyHash knd k,x)) ep' t') (g:GoodT t' (SetTable.insertAt es p (tupleKeyHash knd k,x))):
  TuSet knd P h' a o' (SetTable.insertAt es p (tupleKeyHash knd k,x)) ep' t' (us.take p++k::us.drop p):=by
 have hpl:p≤us.length:=by rw[←z.len];exact hp
 refine⟨ho,hex,hd,g,?_,fun i e hi=> ?_,?_,fun i e hi=> ?_⟩
 ·rw[aCn _ _ _ hp,z.len,List.length_append,List.length_cons,List.length_take,List.length_drop]
  omega
 ·rw[aDp _ _ _ hp] at hi
  have hl:(us.take p).length=p:=by rw[List.length_take];omega
  have keep: ∀(i0:Nat) (e0:Int×Value),es[i0]? =some e0→∃ks,us[i0]? =some ks∧TKey knd h' e0.2 ks∧e0.1=tupleKeyHash knd ks:=fun i0 e0 h0=>by
   obtain⟨ks,a1,a2,a3⟩:=z.ent i0 e0 h0
   exact⟨ks,a1,a2.kept z.get z.data sb,a3⟩
  by_cases h1:i<p
  ·rw[if_pos h1] at hi
   rw[List.getElem?_append_left (by omega),List.getElem?_take,if_pos h1]
   exact keep i e hi
  ·rw[if_neg h1] at hi
   rw[List.getElem?_append_right (by omega),hl]
   by_cases h2:i=p
   ·rw[if_pos h2] at hi
    cases hi
    rw[h2,Nat.sub_self]
    exact⟨k,rfl,hx.kept z.get z.data sb,rfl⟩
   ·rw[if_neg h2] at hi
    obtain⟨m,hm⟩: ∃m,i-p=m+1:=⟨i-p-1,by omega⟩
    rw[hm,List.getElem?_cons_succ,List.getElem?_drop,show p+m=i-1 by omega]
    exact keep (i-1) e hi
 ·have pe:(us.take p++k::us.drop p).Perm (k::us):=by
   refine List.perm_middle.trans ?_
   rw[List.take_append_drop]
  exact pe.nodup_iff.mpr (List.nodup_cons.mpr ⟨hk,z.nd⟩)
 ·rw[aDp _ _ _ hp] at hi
  split at hi
  ·exact z.ok i e hi
  ·split at hi
   ·cases hi;exact hP
   ·exact z.ok _ e hi
theorem set_data {h:Heap} {a:Addr} {o:Obj} {es es':Array (Int×Value)} {ep:Nat} {t t':SetTable} (ho:h.get? a=some o) (hd:o.data= .set es ep t):(h.update a (Obj.putSet es' t')).get? a=some {o with data:= .set es' (ep+1) t'}:=by
 have:=Heap.get?_update_self (Obj.putSet es' t') ho (by rw[putSet_of es' t' hd];rfl)
 rw[putSet_of es' t' hd] at this;exact this
theorem relay_eq (a:Addr) (wanted:Nat):setRelay a wanted=(do
 let (es,_,t)←setState a
 if SetTable.sizeAbove wanted>sizeLine then unsupported "set:memory"
 let (es,t)←(do
  let some (t,order):=t.relaid (es.map (·.1)) wanted | unsupported "internal:set-table-without-room"
  let es':=order.filterMap (es[·]?)
  if es'.size !=es.size then unsupported "internal:set-table-lost-an-element"
  pure (es',t))
 storeSet a es t):=rfl
theorem relay_tup {a:Addr} {o:Obj} {es:Array (Int×Value)} {ep:Nat} {t:SetTable} {us:List (List K)} {wanted:Nat} {Q:Unit→Shared→Prop} (z:TuSet knd P s.heap a o es ep t us) (hw:SetTable.sizeAbove wanted=8∨SetTable.sizeAbove wanted=32) (hl:es.size<SetTable.sizeAbove wanted)
  (h: ∀h' o' es' ep' t' us',Heap.SameBut a s.heap h'→TuSet knd P h' a o' es' ep' t' us'→us'.Perm us→t'.dummies= #[]→t'.mask=SetTable.sizeAbove wanted-1→t'.fill=es.size→(t'.led=t.led∧t'.plain=t.plain)→Q () {s with heap:=h'}):wpAny (model prog w) A (setRelay a wanted) Q E s:=by
 obtain⟨T,l,r1,r2,r3,r4,r5,r6,r7,r8⟩:=relaid_ok (t:=t) hw hl
 have hs:sizeLine=16777216:=sizeLine_eq
 rw[relay_eq]
 refine wpAny_bind (z.state ?_)
 dsimp only
 rw[if_neg (by rcases hw with h | h<;>rw[h,hs]<;>decide),r1]
 dsimp only
 have hsz:(l.toArray.filterMap (es[·]?)).size=es.size:=by rw[←r7.size,r6]
 rw[if_neg (by rw[hsz];simp)]
 refine wpAny_bind (wpAny_pure ?_)
 dsimp only
 refine wpAny_storeSet_of z.get z.data ?_ (by rw[hsz,hs];rcases hw with h | h<;>omega)
 have sb:=Heap.SameBut.update s.heap a (Obj.putSet (l.toArray.filterMap (es[·]?)) T)
 have hlt: ∀k∈l,k<us.length:=fun k hk=>by rw[←z.len];exact List.mem_range.mp (r2.mem_iff.mp hk)
 have pu:(l.map fun k=>us.getD k []).Perm us:=by
  have e1:(List.range us.length).map (fun k=>us.getD k [])=us:=by
   apply List.ext_getElem (by simp)
   intro i h1 h2
   simp[h2]
  have:=r2.map fun k=>us.getD k []
  rw[z.len,e1] at this
  exact this
 refine h _ _ _ _ _ (l.map fun k=>us.getD k []) sb ⟨set_data z.get z.data,z.ex,rfl,r7,?_,fun i e hi=> ?_,pu.nodup_iff.mpr z.nd,fun i e hi=> ?_⟩ pu r4 r5 ?_ r3
 ·rw[hsz,List.length_map,r2.length_eq,List.length_range]
 ·rw[←Array.getElem?_toList,r8,List.getElem?_map,Option.map_eq_some_iff] at hi
  obtain⟨k,hk1,rfl⟩:=hi
  have hkm:=List.mem_of_getElem? hk1
  have hk2:=hlt k hkm
  have hk3:k<es.size:=by rw[z.len];exact hk2
  obtain⟨ks,a1,a2,a3⟩:=z.ent k es[k] (by simp[hk3])
  have eg:es.getD k (0,Value.none)=es[k]:=by simp[Array.getD,hk3]
  rw[eg]
  refine⟨ks,?_,a2.kept z.get z.data sb,a3⟩
  rw[List.getElem?_map,hk1]
  simp[List.getD_eq_getElem?_getD,a1]
 ·rw[←Array.getElem?_toList,r8,List.getElem?_map,Option.map_eq_some_iff] at hi
  obtain⟨k,hk1,rfl⟩:=hi
  have hk3:k<es.size:=by rw[z.len];exact hlt k (List.mem_of_getElem? hk1)
  have eg:es.getD k (0,Value.none)=es[k]:=by simp[Array.getD,hk3]
  rw[eg]
  exact z.ok k es[k] (by simp[hk3])
 ·unfold SetTable.fill
  rw[r4,r6]
  rfl
theorem addE (a:Addr) (x:Value) (h:Int) (fuel:Nat) (hx: ∃p,x= .ref p):setAddHashedIn a x h (fuel+1)=(do
  let (es₀,_,t₀)←setState a
  if byScan x es₀ then
   match←setAddByScan a x h es₀ t₀ with
   | some added=>return added
   | none=>return←setAddHashedIn a x h fuel
  let .free slot wasDummy←setSearch a x h (adding:=true) | return false
  let (es,_,t)←setState a
  let (t,p):=t.put slot
  let byValue←if t.plain then hashByValue 8 x else pure true
  let t:=if byValue then t else {t with plain:=false}
  storeSet a (SetTable.insertAt es p (h,x)) t
  if !wasDummy&&t.tooFull then setRelay a (SetTable.grown (es.size+1))
  return true):=rfl
theorem add_tup {a:Addr} {ts:List (List K)} {x:Value} {k:List K} {Q:Bool→Shared→Prop} (hu:A.units<cLine) (zs:SetT knd P s.heap a ts) (hx:TKey knd s.heap x k) (hP:P x) (hn:ts.length<18) (bv:Bool) (hbv: ∀Q:Bool→Shared→Prop,Q bv s→wpAny (model prog w) A (hashByValue 8 x) Q E s) (hbt:bv=true→k=[])
  (h: ∀b h',Heap.SameBut a s.heap h'→SetT knd P h' a (addT ts k)→Q b {s with heap:=h'}):wpAny (model prog w) A (setAddHashed a x (tupleKeyHash knd k)) Q E s:=by
 obtain⟨o,es,ep,t,us,z,pu,hd,hf,hled,hpn⟩:=zs
 have hs:sizeLine=16777216:=sizeLine_eq
 have hlen:es.size=ts.length:=by rw[z.len,pu.length_eq]
 have hfill:t.fill=es.size:=by unfold SetTable.fill;rw[hd,z.good.size];rfl
 have hmask:t.fill+1≤t.mask:=by rcases z.good.small with q | q<;>rw[q] at hf⊢ <;>omega
 unfold setAddHashed
 refine wpAny_holding ?_
 rw[addE a x _ _ (let ⟨p,e,_⟩:=hx;⟨p,e⟩)]
 refine wpAny_bind (z.state ?_)
 dsimp only
 have hbs:byScan x es=false:=by
  obtain⟨p,rfl,_⟩:=hx
  rfl
 rw[hbs,if_neg (by simp)]
 obtain⟨e,he1,he2⟩:=end_at z.good.small (room_left z.good.up z.good.fill) (tupleKeyHash knd k)
 refine wpAny_bind ?_
 unfold setSearch
 refine search_from hu z hx he2 he1 (fun _=>hd) (fun i hi=> ?_) (fun hk d b hdb=> ?_) 100000 0 none none (Nat.zero_le _) (by rcases z.good.small with q | q<;>rw[q] at he1<;>omega) rfl (fun _=>rfl) (fun m i hm=>by omega)
 ·dsimp only
  refine wpAny_pure ?_
  have hm:k∈us:=List.mem_of_getElem? hi
  have e:s={s with heap:=s.heap}:=by cases s;rfl
  rw[e]
  refine h false s.heap (Heap.SameBut.refl a s.heap) ⟨o,es,ep,t,us,z,?_,hd,hf,hled,hpn⟩
  unfold addT
  rw[if_pos (by simpa using pu.mem_iff.mp hm)]
  exact pu
 ·obtain⟨rfl,rfl⟩:=hdb hd
  dsimp only
  refine wpAny_bind (z.state ?_)
  dsimp only
  have fin: ∀pl:Bool,(pl=true→k=[]∧∀k∈us,k=[])→wpAny (model prog w) A (do
    storeSet a (SetTable.insertAt es (t.put (stand t (tupleKeyHash knd k) e).j).2 (tupleKeyHash knd k,x)) {(t.put (stand t (tupleKeyHash knd k) e).j).1 with plain:=pl}
    if (!false&&SetTable.tooFull {(t.put (stand t (tupleKeyHash knd k) e).j).1 with plain:=pl})=true then do
     setRelay a (SetTable.grown (es.size+1))
     pure true
    else pure true) Q E s:=fun pl hpl0=>by
   obtain⟨g1,g2,g3,g4,g5,g6⟩:=good_put (x:=x) z.good hd hmask he2 pl
   have hsz:=aCn es (t.put (stand t (tupleKeyHash knd k) e).j).2 (tupleKeyHash knd k,x) g2
   refine wpAny_bind (wpAny_storeSet_of z.get z.data ?_ (by rw[hsz,hs];omega))
   have sb:=Heap.SameBut.update s.heap a (Obj.putSet (SetTable.insertAt es (t.put (stand t (tupleKeyHash knd k) e).j).2 (tupleKeyHash knd k,x)) {(t.put (stand t (tupleKeyHash knd k) e).j).1 with plain:=pl})
   have z1:=z.put hx hP hk g2 sb (set_data z.get z.data) z.ex rfl g1
   have pe:(us.take (t.put (stand t (tupleKeyHash knd k) e).j).2++k::us.drop (t.put (stand t (tupleKeyHash knd k) e).j).2).Perm (addT ts k):=by
    unfold addT
    rw[if_neg (by intro q;exact hk (pu.mem_iff.mpr (by simpa using q)))]
    refine List.perm_middle.trans ?_
    rw[List.take_append_drop]
    exact (List.Perm.cons k pu).trans (List.perm_append_comm (l₁:=[k]))
   generalize (t.put (stand t (tupleKeyHash knd k) e).j).2=p at z1 pe hsz sb
   have gf:SetTable.fill {(t.put (stand t (tupleKeyHash knd k) e).j).1 with plain:=pl}=t.fill+1:=g4
   have gm:SetTable.mask {(t.put (stand t (tupleKeyHash knd k) e).j).1 with plain:=pl}=t.mask:=g5
   have gd:SetTable.dummies {(t.put (stand t (tupleKeyHash knd k) e).j).1 with plain:=pl}= #[]:=g3
   have gl:SetTable.led {(t.put (stand t (tupleKeyHash knd k) e).j).1 with plain:=pl}=t.led:=g6
   have gp:SetTable.plain {(t.put (stand t (tupleKeyHash knd k) e).j).1 with plain:=pl}=pl:=rfl
   have hall:pl=true→∀k'∈addT ts k,k'=[]:=fun q k' hk'=>by
    obtain⟨q1,q2⟩:=hpl0 q
    unfold addT at hk'
    split at hk'
    ·exact q2 k' (pu.mem_iff.mpr hk')
    ·rcases List.mem_append.mp hk' with r | r
     ·exact q2 k' (pu.mem_iff.mpr r)
     ·rw[List.mem_singleton.mp r];exact q1
   generalize ({(t.put (stand t (tupleKeyHash knd k) e).j).1 with plain:=pl}:SetTable)=T at z1 gf gm gd gl gp sb⊢
   by_cases hfull:T.tooFull=true
   ·rw[if_pos (by rw[hfull];rfl)]
    unfold SetTable.tooFull at hfull
    rw[gf,gm,decide_eq_true_eq] at hfull
    have h5:es.size=4:=by rcases z.good.small with q | q<;>rw[q] at hf hfull<;>omega
    have hw:SetTable.sizeAbove (SetTable.grown (es.size+1))=32:=by rw[h5];rfl
    refine wpAny_bind (relay_tup (s:={s with heap:=_}) z1 (.inr hw) (by rw[hsz,hw];omega) fun h' o' es' ep' t' us' sb' z' pu' d' m' f' l'=>wpAny_pure (h true h' (sb.trans sb') ⟨o',es',ep',t',us',z',pu'.trans pe,d',?_,?_,fun q k' hk'=> ?_⟩))
    ·rw[f',m',hw,hsz];omega
    ·rw[l'.1,gl,hled]
    ·exact hall (by rw[l'.2,gp] at q;exact q) k' ((pu'.trans pe).mem_iff.mp hk')
   ·rw[if_neg (by rw[Bool.eq_false_iff.mpr hfull];simp)]
    refine wpAny_pure (h true _ sb ⟨_,_,_,_,_,z1,pe,gd,?_,by rw[gl,hled],fun q k' hk'=>hall (by rw[gp] at q;exact q) k' (pe.mem_iff.mp hk')⟩)
    unfold SetTable.tooFull at hfull
    rw[decide_eq_true_eq] at hfull
    omega
  have pp:(t.put (stand t (tupleKeyHash knd k) e).j).1.plain=t.plain:=rfl
  by_cases hpl:(t.put (stand t (tupleKeyHash knd k) e).j).1.plain=true
  ·rw[if_pos hpl]
   refine wpAny_bind (hbv _ ?_)
   cases hb:bv with
   | true=>
    have:=fin true fun _=>⟨hbt hb,hpn (by rw[←pp];exact hpl)⟩
    have e1:({(t.put (stand t (tupleKeyHash knd k) e).j).1 with plain:=true}:SetTable)=(t.put (stand t (tupleKeyHash knd k) e).j).1:=by rw[←hpl]
    rw[e1] at this
    exact this
   | false=>exact fin false (fun q=>by cases q)
  ·rw[if_neg hpl]
   refine wpAny_bind (wpAny_pure ?_)
   have:=fin false (fun q=>by cases q)
   have e1:({(t.put (stand t (tupleKeyHash knd k) e).j).1 with plain:=false}:SetTable)=(t.put (stand t (tupleKeyHash knd k) e).j).1:=by
    rw[←Bool.eq_false_iff.mpr hpl]
   rw[e1] at this
   exact this
end
section
variable {prog:Program} {w:World} {A:Around} {E:Value→Shared→Prop} {s:Shared}
noncomputable def metT (vs:List (List Str)):List (List Str):=vs.foldl addT []
theorem metT_snoc (vs:List (List Str)) (v:List Str):metT (vs++ [v])=addT (metT vs) v:=by unfold metT;rw[List.foldl_append];rfl
theorem addT_len (σ:List (List Str)) (v:List Str):(addT σ v).length≤σ.length+1:=by unfold addT;split<;>simp
theorem metT_le (vs:List (List Str)):(metT vs).length≤vs.length:=by
 have g: ∀(vs σ:List (List Str)),(vs.foldl addT σ).length≤σ.length+vs.length:=by
  intro vs
  induction vs with
  | nil=>intro σ;exact Nat.le_refl _
  | cons v vs ih=>
   intro σ
   rw[List.foldl_cons,List.length_cons]
   have h1:=ih (addT σ v)
   have h2:=addT_len σ v
   omega
 have:=g vs []
 unfold metT
 simpa using this
noncomputable abbrev Lies (prog:Program) (w:World) (h0:Heap) (v:Value):Prop:= ∃ks,TKey (PySem.strKind prog w) h0 v ks
theorem TKey.inj {h h':Heap} {v:Value} {a b:List Str} (x:TKey (PySem.strKind prog w) h v a) (y:TKey (PySem.strKind prog w) h' v b) (k:Kps h h'):a=b:=by
 obtain⟨p,rfl,hp⟩:=x
 obtain⟨q,e,hq⟩:=y
 cases e
 obtain⟨o,items,n,ho,hc,hd,hi⟩:=hp
 exact IsTupleKey.inj (h:=h') ⟨o,items,n,k _ _ ho,hc,hd,hi⟩ hq
theorem TKey.up {h h':Heap} {v:Value} {ks:List Str} (x:TKey (PySem.strKind prog w) h v ks) (k:Kps h h'):TKey (PySem.strKind prog w) h' v ks:=x.moved fun p o _ e=>k p o e
theorem SetT.moved {P:Value→Prop} {h0 h h':Heap} {a:Addr} {ts:List (List Str)} (hPL: ∀v,P v→Lies prog w h0 v) (z:SetT (PySem.strKind prog w) P h a ts) (k0:Kps h0 h) (k1:Kps h0 h') (e: ∀o,h.get? a=some o→h'.get? a=some o):SetT (PySem.strKind prog w) P h' a ts:=by
 obtain⟨o,es,ep,t,us,z,r⟩:=z
 refine⟨o,es,ep,t,us,⟨e o z.get,z.ex,z.data,z.good,z.len,fun i e' hi=> ?_,z.nd,z.ok⟩,r⟩
 obtain⟨ks,a1,a2,a3⟩:=z.ent i e' hi
 obtain⟨ks',b1⟩:=hPL _ (z.ok i e' hi)
 have:=TKey.inj b1 a2 k0
 subst this
 exact⟨ks',a1,b1.up k1,a3⟩
theorem setT_new {P:Value→Prop} {h:Heap} {a:Addr} (e:h.get? a=some (setO (ledW w))):SetT (PySem.strKind prog w) P h a []:=by
 refine⟨_,#[],0,.fresh 0 0 (ledW w),[],⟨e,⟨rfl,rfl,rfl⟩,rfl,⟨?_,?_,rfl,Nat.zero_le _,.inl rfl,?_⟩,rfl,?_,.nil,?_⟩,.nil,rfl,show 0*5<7*3 by decide,rfl,fun _ k hk=>by simp at hk⟩
 ·intro i j _ hj;simp[SetTable.fresh] at hj
 ·intro i j _ hj;simp[SetTable.fresh] at hj
 ·intro i j hij;simp[SetTable.fresh] at hij
 ·intro i e hi;simp at hi
 ·intro i e hi;simp at hi
theorem set_loopT {P:Value→Prop} {R:Result→Shared→Prop} {I S:Addr} {fp wr:List Addr} {n:Nat} {St:Nat→Heap→Prop} {items:Array Value} (W:Walks prog w A.in1 I fp wr n (fun i v=>items[i]? =some v) St) (hS:S∉fp) (h0:Heap) (hw: ∀b∈wr,h0.get? b=none) (hS0:h0.get? S=none)
  (vs:List (List Str)) (hn:vs.length=n) (hu:A.in1.units<cLine) (hPL: ∀v,P v→Lies prog w h0 v) (hp: ∀(i:Nat) (v:Value),items[i]? =some v→P v∧∃ks,vs[i]? =some ks∧TKey (PySem.strKind prog w) h0 v ks) (hb:n<18):
  ∀(k i:Nat) (s:Shared),n-i=k→i≤n→St i s.heap→SetT (PySem.strKind prog w) P s.heap S (metT (vs.take i))→Kps h0 s.heap→
   (∀h' tk,SetT (PySem.strKind prog w) P h' S (metT vs)→Kps h0 h'→R (.ok (.ret .none)) {s with heap:=h',toks:=tk})→
   codeAny (model prog w) A (.builtin "set.update.loop" ⟨[.ref S,.ref I],[]⟩) R s:=by
 have nw:S∉wr:=fun z=>hS (W.sub _ z)
 have kw: ∀{h h':Heap},(∀b o,b∉wr→h.get? b=some o→h'.get? b=some o)→Kps h0 h→Kps h0 h':=fun {h h'} m z b u q=>m b u (fun hbw=>by rw[hw b hbw] at q;cases q) (z b u q)
 intro k
 induction k with
 | zero=>
  intro i s hk hi st zS zK q
  have ei:i=n:=by omega
  subst ei
  rw[←hn,List.take_length] at zS
  refine codeAny_builtin PyProof.Rows.F.entry_set_update_loop ?_
  rw[Around.under_plainId PyProof.Rows.F.plain_set_update_loop _]
  show wpAny _ A.in1 (pyNext (.ref I)>>=_) _ _ s
  refine wpAny_bind (W.done s _ _ st fun h' tk m=> ?_)
  exact wpAny_pure (q h' tk (zS.moved hPL zK (kw m zK) fun o e=>m S o nw e) (kw m zK))
 | succ k ih=>
  intro i s hk hi st zS zK q
  have lt:i<n:=by omega
  refine codeAny_builtin PyProof.Rows.F.entry_set_update_loop ?_
  rw[Around.under_plainId PyProof.Rows.F.plain_set_update_loop _]
  show wpAny _ A.in1 (pyNext (.ref I)>>=_) _ _ s
  refine wpAny_bind (W.item i s _ _ lt st fun v h' tk hP st' m=> ?_)
  obtain⟨hPv,ks,hks,hv0⟩:=hp i v hP
  have zK':=kw m zK
  have zS':SetT (PySem.strKind prog w) P h' S (metT (vs.take i)):=zS.moved hPL zK zK' fun o e=>m S o nw e
  have hv:=hv0.up zK'
  show wpAny _ A.in1 (holding [v] (setAdd S v)>>=_) _ _ _
  refine wpAny_bind (wpAny_holding ?_)
  unfold setAdd
  obtain⟨p,rfl,hpk⟩:=id hv
  refine wpAny_holding (wpAny_bind (wpAny_pyHash_tuple (s:={s with heap:=h',toks:=tk}) hu hpk ?_))
  have room:(metT (vs.take i)).length<18:=by
   have:=metT_le (vs.take i)
   rw[List.length_take] at this
   omega
  refine add_tup (s:={s with heap:=h',toks:=tk+(ks.length+1)}) hu zS' hv hPv room ks.isEmpty (fun Q q=>hbv_txt (s:={s with heap:=h',toks:=tk+(ks.length+1)}) hv q) (fun q=>by simpa using q) fun b h2 sb z2=> ?_
  have es:metT (vs.take (i+1))=addT (metT (vs.take i)) ks:=by
   rw[List.take_succ,hks,←metT_snoc]
   rfl
  rw[←es] at z2
  have zK2:Kps h0 h2:=fun b u e=>(sb.2 b (fun z=>by rw[z,hS0] at e;cases e)).trans (zK' b u e)
  refine wpAny_pure ⟨plainId_quiet PyProof.Rows.F.plain_set_update_loop _,ih (i+1) _ (by omega) lt (W.frame _ h' h2 st' fun b hb' o e=> ?_) z2 zK2 fun h3 tk3 z3 k3=> ?_⟩
  ·exact (sb.2 b (fun z:b=S=>hS (by rw[←z];exact hb'))).trans e
  ·exact q h3 tk3 z3 k3
theorem call_setT {P:Value→Prop} {l:Addr} {items:Array Value} {T:String} {o:Obj} {nn:Nat} {vs:List (List Str)} {Q:Value→Shared→Prop} (hT:T="list"∨T="tuple") (hh:A.handled=none) (hu:A.in1.in1.in1.units<cLine) (ho:s.heap.get? l=some o) (hc:o.cls= .type T) (hd:o.data= .seq items nn)
  (hPL: ∀v,P v→Lies prog w s.heap v) (hv: ∀(i:Nat) (v:Value),items[i]? =some v→P v∧∃ks,vs[i]? =some ks∧TKey (PySem.strKind prog w) s.heap v ks) (hn:vs.length=items.size) (hb:items.size<18)
  (h: ∀(h':Heap) (tk:Nat),SetT (PySem.strKind prog w) P h' s.heap.objs.size (metT vs)→Kps s.heap h'→Q (.ref s.heap.objs.size) {s with heap:=h',toks:=tk}):
  wpAny (model prog w) A (call (.type "set") [.ref l]) Q E s:=by
 obtain⟨c,tl,hmro⟩:=F.called_set.mro
 have hmade:=F.called_set.made
 have hsub:=F.called_set.sub
 have lt:l<s.heap.objs.size:=Heap.lt_size ho
 refine wpAny_call (codeAny_of_tree ?_)
 show wpAny _ _ (callAny (.type "set") _) _ _ _
 refine wpAny_pure ⟨Code.quiet_builtin _ (by decide+kernel),codeAny_builtin F.entry_type_call ?_⟩
 rw[Around.under_plain (weight_type_call_type "set" [.ref l] []) rfl]
 have h1:=F.called_set.notType
 have h2:=F.called_set.canCreate
 have hct:=F.typeCall_set_1 (.ref l)
 repeat (any_goals (first | assumption | wp_step))
 refine codeAny_mono (code_set_led (.ref l) (E:=E) (Q₁:=fun obj s₁=> ∃led:Bool,led=ledW w∧obj= .ref s.heap.objs.size∧s₁={s with heap:=s.heap.push (setO led)}) ⟨_,rfl,rfl,rfl⟩) fun r s₁ hr=> ?_
 cases r with
 | error e=>exact hr
 | ok fl=>
  cases fl with
  | ret obj=>
   obtain⟨led,hled,rfl,rfl⟩:=hr
   subst hled
   have zS:(s.heap.push (setO (ledW w))).get? s.heap.objs.size=some (setO (ledW w)):=Heap.get?_push_size _ rfl
   have tS:Shared.TypeIs {s with heap:=s.heap.push (setO (ledW w))} (.ref s.heap.objs.size) "set":=⟨_,zS,rfl⟩
   have hli:=F.called_set.init.lookup
   have hbi:=F.called_set.init.bind (.ref s.heap.objs.size)
   repeat (any_goals (first | assumption | wp_step))
   refine codeAny_mono (codeAny_call_builtin (R:=wants (fun r s₂=>r= .none∧∃h' tk,s₂={s with heap:=h',toks:=tk}∧SetT (PySem.strKind prog w) P h' s.heap.objs.size (metT vs)∧Kps s.heap h') E) F.called_set.init.plain F.entry_set_init (check_set_init_1 tS ?_)) fun r₂ s₂ hr₂=> ?_
   ·have ho':(s.heap.push (setO (ledW w))).get? l=some o:=Heap.get?_push_of_some _ ho
    have tL:Shared.TypeIs {s with heap:=s.heap.push (setO (ledW w))} (.ref l) T:=⟨o,ho',hc⟩
    have ns:isSubtype (.type T) (.type "set")=pure false:=by rcases hT with rfl | rfl<;>first | exact F.sub_list_set | exact sub_tuple_set
    have nf:isSubtype (.type T) (.type "frozenset")=pure false:=by rcases hT with rfl | rfl<;>first | exact F.sub_list_frozenset | exact sub_tuple_frozenset
    have nd:(Value.type T==Value.type "dict")=false:=by rcases hT with rfl | rfl<;>decide
    unfold Builtin.«set.__init__» noKeywords Builtin.Frozenset.updateFrom
    generalize hPI:pyIter=PI
    wp_walk
    subst hPI
    refine seq_walk (A:=A.in1.in1) hT (by simp[hh]) ho' hc hd fun ob St W st0=> ?_
    refine wpAny_bind (wpAny_runValue ?_)
    have sz:(s.heap.push (setO (ledW w))).objs.size=s.heap.objs.size+1:=Heap.size_push _ _
    have apart:s.heap.objs.size∉[(s.heap.push (setO (ledW w))).objs.size,l]:=by
     rw[sz]
     simp only[List.mem_cons,List.not_mem_nil,or_false,not_or]
     exact⟨by omega,Nat.ne_of_gt lt⟩
    have k2:Kps s.heap ((s.heap.push (setO (ledW w))).push ob):=fun b u e=>Heap.get?_push_of_some _ (Heap.get?_push_of_some _ e)
    refine set_loopT (W _ (by simp[hh])) apart s.heap (fun b hb'=> ?_) (Heap.get?_none_of_le (Nat.le_refl _)) vs hn hu hPL hv hb (items.size-0) 0 _ (by omega) (Nat.zero_le _) st0 (setT_new (Heap.get?_push_of_some _ zS)) k2 fun h' tk z' k'=> ?_
    ·simp only[List.mem_cons,List.not_mem_nil,or_false] at hb'
     rw[hb',sz]
     exact Heap.get?_none_of_le (Nat.le_succ _)
    ·exact wpAny_pure (show wpAny _ _ (ret Value.none) _ _ _ from wpAny_pure ⟨rfl,h',tk,rfl,z',k'⟩)
   ·cases r₂ with
    | error e=>exact hr₂
    | ok fl₂=>
     cases fl₂ with
     | ret r=>
      obtain⟨rfl,h',tk,rfl,z',k'⟩:=hr₂
      repeat (any_goals (first | assumption | wp_step))
      exact h _ _ z' k'
     | _=>exact hr₂.elim
  | _=>exact hr.elim
end
theorem Paired.len {α β:Type} {F:α→β→Prop}: ∀{l₁:List α} {l₂:List β},Paired F l₁ l₂→l₁.length=l₂.length
 | _,_,.nil=>rfl
 | _,_,.cons _ t=>congrArg (· +1) (Paired.len t)
theorem Paired.at {α β:Type} {F:α→β→Prop}: ∀{l₁:List α} {l₂:List β} {i:Nat} {a:α},Paired F l₁ l₂→l₁[i]? =some a→∃b,l₂[i]? =some b∧F a b
 | _,_,_,_,.nil,e=>by simp at e
 | _,_,0,_,.cons h _,e=>by simp at e;subst e;exact⟨_,rfl,h⟩
 | _,_,i+1,a,.cons _ t,e=>by
  obtain⟨b,h1,h2⟩:=Paired.at (i:=i) (a:=a) t (by simpa using e)
  exact⟨b,by simpa using h1,h2⟩
noncomputable abbrev Sm:=List (List Str×Int)
theorem ltc_iff (a b:Str):decide (a.cps.toList<b.cps.toList)= !leS b a:=by
 rw[Bool.eq_iff_iff,decide_eq_true_eq,Bool.not_eq_true',←Bool.not_eq_true,leS_iff]
 exact List.not_le.symm
theorem ltc_ir (a:Str):decide (a.cps.toList<a.cps.toList)=false:=by
 rw[ltc_iff]
 have:=leS_total a a
 rw[Bool.or_self] at this
 rw[this]
 rfl
theorem ltc_tr {a b c:Str} (h1:decide (a.cps.toList<b.cps.toList)=true) (h2:decide (b.cps.toList<c.cps.toList)=true):decide (a.cps.toList<c.cps.toList)=true:=
 decide_eq_true (List.lt_trans (of_decide_eq_true h1) (of_decide_eq_true h2))
theorem ltc_to {a b:Str} (ne:a≠b) (h:decide (a.cps.toList<b.cps.toList)=false):decide (b.cps.toList<a.cps.toList)=true:=by
 rw[ltc_iff] at h⊢
 cases q:leS a b with
 | false=>rfl
 | true=>
  have q2:leS b a=true:=by cases z:leS b a<;>simp_all
  exact absurd (leS_anti a b q q2) ne
theorem lex_ir: ∀(xs:List Str),lexS xs xs=false
 | []=>rfl
 | x::xs=>by unfold lexS;rw[if_pos rfl];exact lex_ir xs
theorem lex_tr: ∀{xs ys zs:List Str},lexS xs ys=true→lexS ys zs=true→lexS xs zs=true
 | [],[],_,h,_=>by cases h
 | [],_::_,[],_,h=>by cases h
 | [],_::_,_::_,_,_=>rfl
 | _::_,[],_,h,_=>by cases h
 | _::_,_::_,[],_,h=>by cases h
 | x::xs,y::ys,z::zs,h1,h2=>by
  unfold lexS at h1 h2⊢
  by_cases e1:x=y
  ·subst e1
   rw[if_pos rfl] at h1
   by_cases e2:x=z
   ·subst e2
    rw[if_pos rfl] at h2⊢
    exact lex_tr h1 h2
   ·rw[if_neg e2] at h2⊢
    exact h2
  ·rw[if_neg e1] at h1
   by_cases e2:y=z
   ·subst e2
    rw[if_neg e1]
    exact h1
   ·rw[if_neg e2] at h2
    have t:=ltc_tr h1 h2
    rw[if_neg (fun e=>by rw[e,ltc_ir] at t;cases t)]
    exact t
theorem lex_to: ∀{xs ys:List Str},xs≠ys→lexS xs ys=false→lexS ys xs=true
 | [],[],n,_=>absurd rfl n
 | [],_::_,_,h=>by cases h
 | _::_,[],_,_=>rfl
 | x::xs,y::ys,n,h=>by
  unfold lexS at h⊢
  by_cases e:x=y
  ·subst e
   rw[if_pos rfl] at h⊢
   exact lex_to (fun z=>n (by rw[z])) h
  ·rw[if_neg e] at h
   rw[if_neg (Ne.symm e)]
   exact ltc_to e h
noncomputable abbrev kys (l:Sm):List (List Str):=l.map (·.1)
end L2.PU
namespace L2.PU
open PySem PySem.Spec PyProof.Rows PySem.W
noncomputable def srtT (ts:List (List Str)):List (List Str):=(outT (fun i j=>lexS (ts.getD i []) (ts.getD j [])) ts.length).map fun i=>ts.getD i []
theorem rangeT_getD (ts:List (List Str)):(List.range ts.length).map (fun i=>ts.getD i [])=ts:=by
 apply List.ext_getElem (by simp)
 intro i h1 h2
 simp[h2]
theorem srtT_perm (ts:List (List Str)):(srtT ts).Perm ts:=by
 have:=(outT_perm (fun i j=>lexS (ts.getD i []) (ts.getD j [])) ts.length).map fun i=>ts.getD i []
 rw[rangeT_getD] at this
 exact this
theorem srtT_asc {ts:List (List Str)} (nd:ts.Nodup):(srtT ts).Pairwise fun a b=>lexS a b=true:=by
 unfold srtT
 rw[List.pairwise_map]
 refine outT_asc ⟨fun i=>lex_ir _,fun a b c h1 h2=>lex_tr h1 h2,fun i j hi hj hne hf=> ?_⟩
 refine lex_to (fun e=>hne ?_) hf
 have e1:ts[i]? =ts[j]? :=by
  rw[List.getD_eq_getElem?_getD,List.getD_eq_getElem?_getD,List.getElem?_eq_getElem hi,List.getElem?_eq_getElem hj] at e
  rw[List.getElem?_eq_getElem hi,List.getElem?_eq_getElem hj]
  simpa using e
 exact (List.getElem?_inj hi nd).mp e1
theorem srtT_of {xs ys:List (List Str)} (h:ys.Pairwise fun a b=>lexS a b=true) (nd:xs.Nodup) (p:ys.Perm xs):ys=srtT xs:=by
 refine List.Perm.eq_of_pairwise (fun a b _ _ h1 h2=> ?_) h (srtT_asc nd) (p.trans (srtT_perm xs).symm)
 have:=lex_tr h1 h2
 rw[lex_ir] at this
 cases this
section
variable {prog:Program} {w:World} {A:Around} {E:Value→Shared→Prop} {s:Shared}
theorem lex_ask {fin:Bool} {C:Bool→Shared→Prop}: ∀{xs ys:List Str} {vs us:List Value} (i:Nat),ItemsAre (PySem.strKind prog w) xs vs→ItemsAre (PySem.strKind prog w) ys us→fin=decide (xs.length<ys.length)→C (lexS xs ys) s→KatLex prog w A true fin C (vs.zip us) i s:=by
 intro xs
 induction xs with
 | nil=>
  intro ys vs us i h1 h2 hf h
  cases h1
  rw[List.zip_nil_left]
  rw[lexS_ends (.inl rfl),←hf] at h
  exact kat_nil h
 | cons x xs ih=>
  intro ys vs us i h1 h2 hf h
  cases h1 with
  | cons k1 r1=>
   cases h2 with
   | nil=>
    rw[List.zip_nil_right]
    rw[lexS_ends (.inr rfl),←hf] at h
    exact kat_nil h
   | cons k2 r2=>
    rename_i y _ ys _
    rw[List.zip_cons_cons]
    refine kat_cons ((PySem.strKind prog w).eqBool k1 k2 ?_)
    unfold lexS at h
    by_cases e:x=y
    ·rw[if_pos e] at h
     rw[decide_eq_true e]
     exact kat_yes (ih (i+1) r1 r2 (by rw[hf];simp) h)
    ·rw[if_neg e] at h
     rw[decide_eq_false e]
     obtain⟨t,rfl⟩:=Value.isStrOf_shape k1
     obtain⟨u,rfl⟩:=Value.isStrOf_shape k2
     refine kat_no ?_
     cases hi:(true&&i==0) with
     | true=>exact oneLt_str h
     | false=>exact kat_one _ _ (lt_str (show W.BoolBack C (.bool _) s from h))
theorem ask_txts {a b:Addr} {xs ys:List Str} {C:Bool→Shared→Prop} (ha:IsTupleKey (PySem.strKind prog w) s.heap xs a) (hb:IsTupleKey (PySem.strKind prog w) s.heap ys b) (h:C (lexS xs ys) s):wpAny (model prog w) A (keyLt' (tuples' true) (.ref a) (.ref b)) C E s:=by
 obtain⟨o,its,n,h1,_,h2,h3⟩:=ha
 obtain⟨o',jts,n',g1,_,g2,g3⟩:=hb
 refine kat_lt h1 h2 g1 g2 (lex_ask 0 h3 g3 ?_ h)
 rw[h3.length,g3.length]
 simp
theorem firsts_txt {h:Heap}: ∀(vs:List Value),(∀v∈vs,∃ks,TKey (PySem.strKind prog w) h v ks∧ks≠[])→∃fs,KatTups h vs fs∧fs.length=vs.length∧∀v∈fs,∃x t,v=Value.str x t
 | [],_=>⟨[],trivial,rfl,fun v hv=>by simp at hv⟩
 | v::vs,hp=>by
  obtain⟨fs,h1,h2,h3⟩:=firsts_txt vs fun b hb=>hp b (List.mem_cons_of_mem _ hb)
  obtain⟨ks,⟨a,rfl,o,items,n,g1,g2,g3,g4⟩,hne⟩:=hp v List.mem_cons_self
  obtain⟨il⟩:=items
  cases g4 with
  | nil=>exact absurd rfl hne
  | cons k1 k2=>
   obtain⟨t,rfl⟩:=Value.isStrOf_shape k1
   refine⟨_::fs,⟨⟨a,o,_,n,rfl,g1,g2,g3,by simp;rfl⟩,h1⟩,by rw[List.length_cons,List.length_cons,h2],fun v hv=> ?_⟩
   rcases List.mem_cons.mp hv with e | e
   ·exact⟨_,t,e⟩
   ·exact h3 v e
theorem perm_map_inv {α β:Type} {f:α→β} {l r:List β} (h:l.Perm r): ∀{m:List α},m.map f=r→∃m':List α,m'.Perm m∧m'.map f=l:=by
 induction h with
 | nil=>intro m hm;exact⟨m,.refl _,hm⟩
 | cons x _ ih=>
  intro m hm
  cases m with
  | nil=>cases hm
  | cons a m=>
   rw[List.map_cons] at hm
   injection hm with h1 h2
   obtain⟨m',p,e⟩:=ih h2
   exact⟨a::m',p.cons a,by rw[List.map_cons,e,h1]⟩
 | swap x y l=>
  intro m hm
  match m,hm with
  | a::b::m,hm=>
   rw[List.map_cons,List.map_cons] at hm
   injection hm with h1 h2
   injection h2 with h2 h3
   exact⟨b::a::m,.swap _ _ _,by rw[List.map_cons,List.map_cons,h1,h2,h3]⟩
 | trans _ _ ih1 ih2=>
  intro m hm
  obtain⟨m1,p1,e1⟩:=ih2 hm
  obtain⟨m2,p2,e2⟩:=ih1 e1
  exact⟨m2,p2.trans p1,e2⟩
theorem sorted_setT {P:Value→Prop} {a:Addr} {ts:List (List Str)} {Q:Value→Shared→Prop} (hh:A.handled=none) (zs:SetT (PySem.strKind prog w) P s.heap a ts) (hne: ∀k∈ts,k≠[]) (hl:ts.length<18)
  (h: ∀out l h' tk d m,Paired (fun v ks=>P v∧TKey (PySem.strKind prog w) s.heap v ks) out (srtT ts)→s.heap.objs.size≤l→h'.get? l=some {cls:= .type "list",data:= .seq out.toArray m}→Kps s.heap h'→Q (.ref l) {s with heap:=h',toks:=tk,drawn:=d}):
  wpAny (model prog w) A (call (.builtin "sorted") [.ref a]) Q E s:=by
 obtain⟨o,es,ep,t,us,z,pu,hd0,hf,hled,hpn⟩:=zs
 have hs:sizeLine=16777216:=sizeLine_eq
 have hlen:us.length=ts.length:=pu.length_eq
 have hw:w.params.followText "set-order"=true∨t.led=true:=by
  rw[hled]
  unfold ledW
  cases w.params.followText "set-order"<;>simp
 have hp:es.size=0∨t.plain=false:=by
  by_cases h0:es.size=0
  ·exact .inl h0
  ·refine .inr ?_
   cases hpl:t.plain with
   | false=>rfl
   | true=>
    have hlt:0<us.length:=by rw[←z.len];omega
    exact absurd (hpn hpl us[0] (List.getElem_mem _)) (hne _ (pu.mem_iff.mp (List.getElem_mem _)))
 refine Calls.call_function_entry kind_sorted plain_sorted entry_sorted (args_sorted1 _) ?_
 unfold Builtin.«sorted»
 refine wpAny_bind (m:=checkCount "sorted" 1 1 _) (wpAny_pure ?_)
 refine wpAny_bind (collect_set (A:=A.in1) (by simp[hh]) z.get z.ex z.data z.good.fits (by rw[z.len,hlen,hs];omega) hw hp fun vals h1 tk d pv le hk=> ?_)
 have pl:((es.toList.map (·.2)).zip us).map Prod.fst=es.toList.map (·.2):=List.map_fst_zip (by rw[List.length_map,Array.length_toList,z.len];exact Nat.le_refl _)
 obtain⟨pl',pp,pe⟩:=perm_map_inv pv pl
 have kvp:(pl'.map Prod.snd).Perm ts:=by
  have:=pp.map Prod.snd
  rw[List.map_snd_zip (by rw[List.length_map];exact Nat.le_of_eq (z.len.symm.trans (Array.length_toList (xs:=es)).symm))] at this
  exact this.trans pu
 have hpr: ∀q∈pl',P q.1∧TKey (PySem.strKind prog w) s.heap q.1 q.2:=fun q hq=>by
  have hm:=pp.mem_iff.mp hq
  obtain⟨i,hi,ei⟩:=List.mem_iff_getElem.mp hm
  rw[List.getElem_zip] at ei
  have hi2:i<es.size:=by simp at hi;omega
  obtain⟨ks,a1,a2,a3⟩:=z.ent i es[i] (by simp[hi2])
  have hi3:i<us.length:=by rw[←z.len];exact hi2
  rw[List.getElem?_eq_getElem hi3] at a1
  cases a1
  rw[←ei]
  simp only[List.getElem_map,Array.getElem_toList]
  exact⟨z.ok i es[i] (by simp[hi2]),a2⟩
 have vl:vals.length=ts.length:=by rw[←pe,List.length_map,←kvp.length_eq,List.length_map]
 have pll:pl'.length=ts.length:=by rw[←kvp.length_eq,List.length_map]
 refine wpAny_bind (wpAny_newList ?_ (by omega))
 have hoL:(h1.push (seqObj "list" vals.toArray 0)).get? h1.objs.size=some (seqObj "list" vals.toArray 0):=Heap.get?_push_size _ rfl
 show wpAny _ _ _ _ _ {s with heap:=h1.push (seqObj "list" vals.toArray 0),toks:=tk,drawn:=d}
 have gv: ∀i (hi:i<pl'.length),vals.getD i Value.none=pl'[i].1∧(pl'.map Prod.snd).getD i []=pl'[i].2:=fun i hi=>by
  rw[←pe]
  constructor
  ·rw[List.getD_eq_getElem?_getD,List.getElem?_map,List.getElem?_eq_getElem hi];rfl
  ·rw[List.getD_eq_getElem?_getD,List.getElem?_map,List.getElem?_eq_getElem hi];rfl
 refine wpAny_bind (wpAny_holding (wpAny_call_entry slot_list_sort ⟨_,hoL,rfl⟩ entry_list_sort (sort_T (lt:=fun i j=>lexS ((pl'.map Prod.snd).getD i []) ((pl'.map Prod.snd).getD j [])) hoL (by omega) (fun h2 s' kp=> ?_) ⟨_,rfl,?_⟩) (args_list_sort _)))
 ·have tk': ∀q∈pl',TKey (PySem.strKind prog w) s'.heap q.1 q.2:=fun q hq=>(hpr q hq).2.moved fun p o _ e=>by
   have e2:=hk p o e
   exact kp p o (Nat.ne_of_lt (Heap.lt_size e2)) (Heap.get?_push_of_some _ e2)
  obtain⟨fs,t1,t2,t3⟩:=firsts_txt (prog:=prog) (w:=w) (h:=s'.heap) vals (fun v hv=>by
   rw[←pe] at hv
   obtain⟨q,hq,rfl⟩:=List.mem_map.mp hv
   exact⟨q.2,tk' q hq,hne _ (kvp.mem_iff.mp (List.mem_map.mpr ⟨q,hq,rfl⟩))⟩)
  refine kat_kind (M:=model prog w) (T:= .type "str") t1 (by omega) (fun v hv=> ?_) rfl ⟨rfl,fun i j C hi hj hC=> ?_⟩
  ·obtain⟨x,u,rfl⟩:=t3 v hv
   exact .now
  ·have hi':i<pl'.length:=by omega
   have hj':j<pl'.length:=by omega
   unfold kas_ask
   rw[(gv i hi').1,(gv j hj').1]
   obtain⟨pa,ea,ka⟩:=tk' pl'[i] (List.getElem_mem _)
   obtain⟨pb,eb,kb⟩:=tk' pl'[j] (List.getElem_mem _)
   rw[ea,eb]
   refine ask_txts ka kb ?_
   rw[←(gv i hi').2,←(gv j hj').2]
   exact hC
 ·refine wpAny_pure ⟨_,rfl,?_⟩
  have k1:=get?_update_seq hoL (fun _=> #[])
  have k2:=get?_update_seq (Heap.get?_push_of_some (seqObj "list" #[] 0) (Heap.get?_push_of_some (seqObj "tuple" vals.toArray 0) k1)) (fun _=>((outT (fun i j=>lexS ((pl'.map Prod.snd).getD i []) ((pl'.map Prod.snd).getD j [])) vals.length).map fun i=>vals.getD i Value.none).toArray)
  refine h _ h1.objs.size _ tk d _ ?_ le k2 fun b o e=> ?_
  ·have es1:srtT ts=(outT (fun i j=>lexS ((pl'.map Prod.snd).getD i []) ((pl'.map Prod.snd).getD j [])) vals.length).map fun i=>(pl'.map Prod.snd).getD i []:=by
    have nd:ts.Nodup:=pu.nodup_iff.mp z.nd
    have nd2:(pl'.map Prod.snd).Nodup:=kvp.nodup_iff.mpr nd
    have e0:vals.length=(pl'.map Prod.snd).length:=by rw[List.length_map];omega
    rw[e0]
    show srtT ts=srtT (pl'.map Prod.snd)
    exact (srtT_of (srtT_asc nd2) nd ((srtT_perm _).trans kvp)).symm
   rw[es1]
   have hin: ∀i∈outT (fun i j=>lexS ((pl'.map Prod.snd).getD i []) ((pl'.map Prod.snd).getD j [])) vals.length,i<pl'.length:=fun i hi=>by
    have:=List.mem_range.mp ((outT_perm _ _).mem_iff.mp hi)
    omega
   generalize outT (fun i j=>lexS ((pl'.map Prod.snd).getD i []) ((pl'.map Prod.snd).getD j [])) vals.length=ol at hin
   induction ol with
   | nil=>exact .nil
   | cons i ol ih=>
    rw[List.map_cons,List.map_cons]
    refine .cons ?_ (ih fun j hj=>hin j (List.mem_cons_of_mem _ hj))
    have hi:=hin i List.mem_cons_self
    rw[(gv i hi).1,(gv i hi).2]
    exact hpr _ (List.getElem_mem _)
  ·have lt:=Heap.lt_size (hk b o e)
   have ne:h1.objs.size≠b:=Nat.ne_of_gt lt
   show (sortedHeap _ _ _ _).get? b=some o
   unfold sortedHeap
   rw[Heap.get?_update_other _ _ ne]
   refine Heap.get?_push_of_some _ (Heap.get?_push_of_some _ ?_)
   rw[Heap.get?_update_other _ _ ne]
   exact Heap.get?_push_of_some _ (hk b o e)
end
end L2.PU
namespace L2.PU
open PySem PySem.Spec PyProof.Rows
section
variable {prog:Program} {w:World} {P:Value→Prop} {A:Around} {E:Value→Shared→Prop} {s:Shared}
theorem find_tup {a:Addr} {o:Obj} {es:Array (Int×Value)} {ep:Nat} {t:SetTable} {us:List (List Str)} {x:Value} {k:List Str} {Q:Option Nat→Shared→Prop} (hu:A.units<cLine) (z:TuSet (PySem.strKind prog w) P s.heap a o es ep t us) (hx:TKey (PySem.strKind prog w) s.heap x k)
  (hit: ∀i:Nat,us[i]? =some k→Q (some i) s) (miss:k∉us→Q none s):wpAny (model prog w) A (setFind a x (tupleKeyHash (PySem.strKind prog w) k)) Q E s:=by
 have hbs:byScan x es=false:=by
  obtain⟨p,rfl,_⟩:=hx
  rfl
 obtain⟨e,he1,he2⟩:=end_at z.good.small (room_left z.good.up z.good.fill) (tupleKeyHash (PySem.strKind prog w) k)
 unfold setFind setFindIn
 refine wpAny_bind (z.state ?_)
 dsimp only
 rw[hbs,if_neg (by simp)]
 refine wpAny_bind ?_
 unfold setSearch
 refine search_from hu z hx he2 he1 (fun q=>by cases q) (fun i hi=> ?_) (fun hk d b _=> ?_) 100000 0 none none (Nat.zero_le _) (by rcases z.good.small with q | q<;>rw[q] at he1<;>omega) rfl (fun _=>rfl) (fun m i hm=>by omega)
 ·exact wpAny_pure (hit i hi)
 ·exact wpAny_pure (miss hk)
theorem quiet_not {a:Addr} {o:Obj} {es:Array (Int×Value)} {ep:Nat} {t:SetTable} {us:List (List Str)} {rest:List Addr} {Q:Bool→Shared→Prop} (z:TuSet (PySem.strKind prog w) P s.heap a o es ep t us) (h0:0<es.size) (h:Q false s):wpAny (model prog w) A (setsQuiet (a::rest)) Q E s:=by
 unfold setsQuiet
 refine wpAny_bind ?_
 rw[List.forIn_cons]
 refine wpAny_bind (wpAny_bind (wpAny_setEntries_of z.get z.data z.good.fits ?_))
 obtain⟨el⟩:=es
 cases el with
 | nil=>simp at h0
 | cons e el=>
  obtain⟨ks,_,⟨p,ep',hp⟩,_⟩:=z.ent 0 e rfl
  obtain⟨eh,ev⟩:=e
  dsimp only at ep'
  subst ep'
  rw[←Array.forIn_toList]
  show wpAny _ _ (forIn ((eh,Value.ref p)::el) _ _>>=_) _ _ _
  rw[List.forIn_cons]
  refine wpAny_bind (wpAny_bind ?_)
  dsimp only
  refine wpAny_bind (wpAny_specialOf hp.typeIs F.slot_tuple_eq.lookup ?_)
  rw[if_pos (by rfl)]
  exact wpAny_pure (wpAny_pure (wpAny_pure (wpAny_pure (wpAny_pure h))))
theorem walkT {a:Addr} {o:Obj} {es:Array (Int×Value)} {ep:Nat} {t:SetTable} {us:List (List Str)} {Q:Array (Int×Value)→Shared→Prop} (z:TuSet (PySem.strKind prog w) P s.heap a o es ep t us) (hled:t.led=ledW w) (h: ∀es' d,es'.toList.Perm es.toList→Q es' {s with drawn:=d}):wpAny (model prog w) A (setWalk a) Q E s:=by
 have e0:s={s with drawn:=s.drawn}:=by cases s;rfl
 unfold setWalk setsByText
 refine wpAny_bind (z.state ?_)
 dsimp only
 refine wpAny_bind (wpAny_bind (wpAny_askSetting (wpAny_pure ?_)))
 have same:Q es s:=by
  have:=h es s.drawn (List.Perm.refl _)
  exact this
 by_cases hb:w.params.followText "set-order"=true
 ·rw[if_pos (by exact hb)]
  refine wpAny_bind (wpAny_askSetting (wpAny_pure ?_))
  have:=h (pickOrder (w.params.setOrder a ep) es) s.drawn (pickO_perm _ es)
  exact this
 ·rw[if_neg (by exact hb)]
  show wpAny _ _ (if (!t.plain&&decide (es.size>1))=true then _ else _) _ _ _
  by_cases hdr:(!t.plain&&decide (es.size>1))=true
  ·rw[if_pos hdr]
   refine wpAny_bind (draw_order es.size es.toList _ _ (by simp) fun ys d hy=>wpAny_pure ?_)
   exact h ys.toArray d (by simpa using hy)
  ·rw[if_neg hdr]
   have hl:t.led=true:=by rw[hled];unfold ledW;simp[hb]
   show wpAny _ _ ((if (!t.led&&decide (es.size>1))=true then unsupported "set:maker-not-led" else pure ())>>=fun _=>pure es) _ _ _
   rw[hl,if_neg (by simp)]
   exact wpAny_bind (wpAny_pure (wpAny_pure same))
theorem unseenT {a:Addr} {o:Obj} {es:Array (Int×Value)} {ep:Nat} {t:SetTable} {us:List (List Str)} {others:List Addr} {f:Option Addr} {Q:Array (Int×Value)→Shared→Prop} (z:TuSet (PySem.strKind prog w) P s.heap a o es ep t us) (hled:t.led=ledW w) (h: ∀es' d,es'.toList.Perm es.toList→Q es' {s with drawn:=d}):wpAny (model prog w) A (setWalkUnseen a others f) Q E s:=by
 unfold setWalkUnseen
 refine wpAny_bind (z.state ?_)
 dsimp only
 refine wpAny_bind (show wpAny _ _ setsByText _ _ _ from wpAny_bind (wpAny_askSetting (wpAny_pure ?_)))
 show wpAny _ _ (if (w.params.followText "set-order" || t.led&&t.plain || decide (es.size≤1))=true then _ else _) _ _ _
 split
 ·exact walkT z hled h
 ·rename_i hc
  have h1:0<es.size:=by
   simp at hc
   omega
  refine wpAny_bind (quiet_not z h1 ?_)
  rw[if_pos (by simp)]
  exact walkT z hled h
end
noncomputable def difT (x y:List (List Str)):List (List Str):=x.filter fun k=> !y.contains k
theorem metT_self {l:List (List Str)} (h:l.Nodup):metT l=l:=by
 have g: ∀(l σ:List (List Str)),(σ++l).Nodup→l.foldl addT σ=σ++l:=by
  intro l
  induction l with
  | nil=>intro σ _;simp
  | cons v l ih=>
   intro σ hn
   rw[List.foldl_cons]
   have hv:¬σ.contains v=true:=fun q=>by
    have hm:v∈σ:=by simpa using q
    exact (List.nodup_append.mp hn).2.2 v hm v List.mem_cons_self rfl
   have e:addT σ v=σ++ [v]:=by unfold addT;rw[if_neg hv]
   rw[e,ih (σ++ [v]) (by rw[List.append_assoc];exact hn),List.append_assoc]
   rfl
 have:=g l [] (by simpa using h)
 unfold metT
 simpa using this
section
variable {prog:Program} {w:World} {P:Value→Prop} {A:Around} {E:Value→Shared→Prop} {s:Shared}
theorem isSetT {a:Addr} {o:Obj} {Q:Bool→Shared→Prop} (ho:s.heap.get? a=some o) (hx:o.ExactSet) (q:Q true s):wpAny (model prog w) A (isInstance (.ref a) (.type "set")) Q E s:=
 wpAny_isInstance (b:=true) ⟨o,ho,hx.1⟩ sub_set_self q
theorem anySetT {a:Addr} {o:Obj} {Q:Bool→Shared→Prop} (ho:s.heap.get? a=some o) (hx:o.ExactSet) (q:Q true s):wpAny (model prog w) A (Builtin.Frozenset.isAnySet (.ref a)) Q E s:=by
 unfold Builtin.Frozenset.isAnySet
 exact wpAny_bind (isSetT ho hx (wpAny_pure q))
theorem sub_near {a b:Addr} {ts us:List (List Str)} {Q:Value→Shared→Prop} (hu:A.units<cLine) (hPL: ∀v,P v→Lies prog w s.heap v) (za:SetT (PySem.strKind prog w) P s.heap a ts) (zb:SetT (PySem.strKind prog w) P s.heap b us) (hl:ts.length<18) (h4:ts.length/4≤us.length)
  (h: ∀h' d vs,Kps s.heap h'→SetT (PySem.strKind prog w) P h' s.heap.objs.size vs→vs.Perm (difT ts us)→Q (.ref s.heap.objs.size) {s with heap:=h',drawn:=d}):
  wpAny (model prog w) A (Builtin.«frozenset.__sub__» ⟨[.ref a,.ref b],[]⟩) (fun fin s'=> ∃r,fin= .done (.ret r)∧Q r s') E s:=by
 have za0:=za
 have zb0:=zb
 obtain⟨oa,ea,epa,ta,ua,za,pa,da,fa,la,na⟩:=za
 obtain⟨ob,eb,epb,tb,ub,zb,pb,db,fb,lb,nb⟩:=zb
 have hla:=Heap.lt_size za.get
 have hlb:=Heap.lt_size zb.get
 unfold Builtin.«frozenset.__sub__»
 show wpAny _ _ (Builtin.Frozenset.slot1 "__sub__" ⟨[.ref a,.ref b],[]⟩>>=_) _ _ _
 refine wpAny_bind (show wpAny _ _ (pure (Value.ref a,Value.ref b)) _ _ _ from wpAny_pure ?_)
 dsimp only
 refine wpAny_bind (show wpAny _ _ (Builtin.Frozenset.isAnySet (.ref a)<&&>Builtin.Frozenset.isAnySet (.ref b)) _ _ _ from wpAny_bind (anySetT za.get za.ex (show wpAny _ _ (Builtin.Frozenset.isAnySet (.ref b)) _ _ _ from anySetT zb.get zb.ex ?_)))
 rw[if_neg (by decide)]
 refine wpAny_bind (show wpAny _ _ (pure a) _ _ _ from wpAny_pure ?_)
 refine wpAny_bind ?_
 show wpAny _ _ (Builtin.Frozenset.difference (toString "frozenset."++toString "__sub__") a (.ref b)) _ _ _
 unfold Builtin.Frozenset.difference
 dsimp only
 refine wpAny_bind (anySetT zb.get zb.ex ?_)
 rw[if_neg (by decide)]
 refine wpAny_bind (show wpAny _ _ (pure b) _ _ _ from wpAny_pure ?_)
 rw[if_neg (show ¬(!true&&b==sysModules)=true from by simp),if_pos rfl]
 unfold Builtin.Frozenset.sizeOf
 refine wpAny_bind (wpAny_bind (wpAny_setEntries_of zb.get zb.data zb.good.fits (wpAny_pure ?_)))
 refine wpAny_bind (wpAny_bind (wpAny_setEntries_of za.get za.data za.good.fits (wpAny_pure ?_)))
 have sza:ea.size=ts.length:=by rw[za.len,pa.length_eq]
 have szb:eb.size=us.length:=by rw[zb.len,pb.length_eq]
 rw[if_neg (by omega)]
 unfold Builtin.Frozenset.baseOf
 refine wpAny_bind (wpAny_bind (isSetT za.get za.ex (wpAny_pure ?_)))
 rw[if_pos rfl]
 refine wpAny_bind (new_set ?_)
 have zS:(s.heap.push (setO (ledW w))).get? s.heap.objs.size=some (setO (ledW w)):=Heap.get?_push_size _ rfl
 refine wpAny_bind (show wpAny _ _ (pure s.heap.objs.size) _ _ _ from wpAny_pure ?_)
 have kp:Kps s.heap (s.heap.push (setO (ledW w))):=fun b o e=>Heap.get?_push_of_some _ e
 refine wpAny_bind (wpAny_setEpoch_of (kp _ _ za.get) za.data za.good.fits ?_)
 refine wpAny_bind (wpAny_holding ?_)
 have up: ∀{h':Heap} {x:Addr} {o:Obj} {es:Array (Int×Value)} {ep:Nat} {t:SetTable} {vs:List (List Str)},Kps s.heap h'→TuSet (PySem.strKind prog w) P s.heap x o es ep t vs→TuSet (PySem.strKind prog w) P h' x o es ep t vs:=fun k z=>
  ⟨k _ _ z.get,z.ex,z.data,z.good,z.len,fun i e hi=>let ⟨ks,a1,a2,a3⟩:=z.ent i e hi;⟨ks,a1,a2.up k,a3⟩,z.nd,z.ok⟩
 refine wpAny_bind (show wpAny _ _ (setWalkUnseen a [b,s.heap.objs.size] (some s.heap.objs.size)) _ _ _ from unseenT (s:={s with heap:=s.heap.push (setO (ledW w))}) (up kp za) la fun es' d hp=> ?_)
 have pl:(ea.toList.zip ua).map Prod.fst=ea.toList:=List.map_fst_zip (by rw[Array.length_toList,za.len];exact Nat.le_refl _)
 obtain⟨pl',pp,pe⟩:=perm_map_inv hp pl
 have kvp:(pl'.map Prod.snd).Perm ua:=by
  have:=pp.map Prod.snd
  rw[List.map_snd_zip (Nat.le_of_eq (za.len.symm.trans (Array.length_toList (xs:=ea)).symm))] at this
  exact this
 have pll:pl'.length=ts.length:=by rw[←pa.length_eq,←kvp.length_eq,List.length_map]
 have hpr: ∀q∈pl',P q.1.2∧TKey (PySem.strKind prog w) s.heap q.1.2 q.2∧q.1.1=tupleKeyHash (PySem.strKind prog w) q.2:=fun q hq=>by
  have hm:=pp.mem_iff.mp hq
  obtain⟨i,hi,ei⟩:=List.mem_iff_getElem.mp hm
  rw[List.getElem_zip] at ei
  have hi2:i<ea.size:=by simp at hi;omega
  obtain⟨ks,a1,a2,a3⟩:=za.ent i ea[i] (by simp[hi2])
  have hi3:i<ua.length:=by rw[←za.len];exact hi2
  rw[List.getElem?_eq_getElem hi3] at a1
  cases a1
  rw[←ei]
  simp only[Array.getElem_toList]
  exact⟨za.ok i ea[i] (by simp[hi2]),a2,a3⟩
 have filtN:((pl'.map Prod.snd).filter fun k=> !us.contains k).Nodup:=List.Sublist.nodup List.filter_sublist (kvp.nodup_iff.mpr za.nd)
 refine wpAny_bind (wpAny_forIn_array' _ (fun rest _ s'=> ∃(p q:List ((Int×Value)×List Str)) (h3:Heap),s'={s with heap:=h3,drawn:=d}∧pl'=p++q∧rest=q.map Prod.fst∧Kps s.heap h3∧SetT (PySem.strKind prog w) P h3 s.heap.objs.size (metT ((p.map Prod.snd).filter fun k=> !us.contains k))) _ ?_ ?_ _ _ ?_)
 ·rintro e rest b' s' ⟨p,q,h3,rfl,e1,e2,k3,z3⟩
  cases q with
  | nil=>cases e2
  | cons qh q=>
   rw[List.map_cons] at e2
   injection e2 with e3 e4
   subst e3 e4
   have hq:qh∈pl':=by rw[e1];exact List.mem_append_right _ List.mem_cons_self
   obtain⟨c1,c2,c3⟩:=hpr qh hq
   obtain⟨⟨eh,ev⟩,k⟩:=qh
   dsimp only at c1 c2 c3
   subst c3
   have un: ∀(s2:Shared) (Q':Unit→Shared→Prop),Kps s.heap s2.heap→Q' () s2→wpAny (model prog w) A (Builtin.Frozenset.unchanged (toString "frozenset."++toString "__sub__") a epa) Q' E s2:=fun s2 Q' k2 q2=>unchanged_ok (s:=s2) (k2 _ _ za.get) za.data za.good.fits s2 Q' (fun _ e=>e) q2
   have step:((p++ [((tupleKeyHash (PySem.strKind prog w) k,ev),k)]).map Prod.snd).filter (fun k=> !us.contains k)=(p.map Prod.snd).filter (fun k=> !us.contains k)++(if us.contains k then [] else [k]):=by
    rw[List.map_append,List.filter_append]
    congr 1
    show [k].filter (fun k=> !us.contains k)=_
    cases hc:us.contains k with
    | true=>rw[List.filter_cons_of_neg (by rw[hc];decide),if_pos rfl];rfl
    | false=>rw[List.filter_cons_of_pos (by rw[hc];rfl),if_neg (by decide)];rfl
   dsimp only
   refine wpAny_bind (wpAny_holding ?_)
   rw[if_pos rfl]
   refine wpAny_bind (find_tup (s:={s with heap:=h3,drawn:=d}) (x:=ev) (k:=k) hu (up k3 zb) (c2.up k3) (fun i hi=>wpAny_bind (wpAny_pure ?_)) fun hk=>wpAny_bind (wpAny_pure ?_))
   ·rw[if_neg (by simp)]
    have hin:us.contains k=true:=by simpa using pb.mem_iff.mp (List.mem_of_getElem? hi)
    refine wpAny_pure (wpAny_bind (un {s with heap:=h3,drawn:=d} _ k3 (wpAny_pure ⟨p++ [((tupleKeyHash (PySem.strKind prog w) k,ev),k)],q,h3,rfl,by rw[e1,List.append_assoc];rfl,rfl,k3,?_⟩)))
    rw[step,hin,if_pos rfl,List.append_nil]
    exact z3
   ·rw[if_pos (by simp)]
    have hout:¬us.contains k=true:=fun q=>hk (pb.mem_iff.mpr (by simpa using q))
    have hlen:(metT ((p.map Prod.snd).filter fun k=> !us.contains k)).length<18:=by
     have g1:=metT_le ((p.map Prod.snd).filter fun k=> !us.contains k)
     have g2:=List.length_filter_le (fun k=> !us.contains k) (p.map Prod.snd)
     have g3:=congrArg List.length e1
     rw[List.length_append,pll] at g3
     rw[List.length_map] at g2
     omega
    refine wpAny_bind (add_tup (s:={s with heap:=h3,drawn:=d}) hu z3 (c2.up k3) c1 hlen k.isEmpty (fun Q q=>hbv_txt (s:={s with heap:=h3,drawn:=d}) (c2.up k3) q) (fun q=>by simpa using q) fun bb h4 sb4 z4=>wpAny_pure (wpAny_bind (un {s with heap:=h4,drawn:=d} _ ?_ (wpAny_pure ⟨p++ [((tupleKeyHash (PySem.strKind prog w) k,ev),k)],q,h4,rfl,by rw[e1,List.append_assoc];rfl,rfl,?_,?_⟩))))
    ·exact fun x o e=>(sb4.2 x (Nat.ne_of_lt (Heap.lt_size e))).trans (k3 x o e)
    ·exact fun x o e=>(sb4.2 x (Nat.ne_of_lt (Heap.lt_size e))).trans (k3 x o e)
    ·rw[step,if_neg hout,metT_snoc]
     exact z4
 ·rintro b' s' ⟨p,q,h3,rfl,e1,e2,k3,z3⟩
  have hq:q=[]:=List.map_eq_nil_iff.mp e2.symm
  subst hq
  rw[List.append_nil] at e1
  subst e1
  refine wpAny_pure (wpAny_pure (wpAny_pure ⟨_,rfl,h h3 d _ k3 z3 ?_⟩))
  rw[metT_self filtN]
  exact (kvp.trans pa).filter _
 ·refine⟨[],pl',s.heap.push (setO (ledW w)),rfl,rfl,pe.symm,kp,?_⟩
  exact setT_new zS
end
theorem eraseAt_list {α:Type} (xs:Array α) (p:Nat):(SetTable.eraseAt xs p).toList=xs.toList.take p++xs.toList.drop (p+1):=by
 unfold SetTable.eraseAt
 rw[Array.toList_append,Array.toList_extract,Array.toList_extract,List.extract_eq_take_drop,List.extract_eq_take_drop]
 simp only[List.drop_zero,Nat.sub_zero]
 congr 1
 exact List.take_of_length_le (by simp)
theorem aEf {α:Type} (xs:Array α) (p:Nat) (hp:p<xs.size) (i:Nat):(SetTable.eraseAt xs p)[i]? =if i<p then xs[i]? else xs[i+1]? :=by
 have hl:(xs.toList.take p).length=p:=by rw[List.length_take];simp;omega
 rw[←Array.getElem?_toList,eraseAt_list]
 by_cases h1:i<p
 ·rw[if_pos h1,List.getElem?_append_left (by omega),List.getElem?_take,if_pos h1,Array.getElem?_toList]
 ·rw[if_neg h1,List.getElem?_append_right (by omega),hl,List.getElem?_drop,Array.getElem?_toList]
  congr 1
  omega
theorem eraseAt_size {α:Type} (xs:Array α) (p:Nat) (hp:p<xs.size):(SetTable.eraseAt xs p).size+1=xs.size:=by
 rw[←Array.length_toList,eraseAt_list,List.length_append,List.length_take,List.length_drop]
 simp
 omega
theorem ups_erase {xs:Array Nat} (up:Ups xs) {p:Nat} (hp:p<xs.size):Ups (SetTable.eraseAt xs p):=by
 intro i j hij hj hi
 have gj:=aEf xs p hp j
 have gi:=aEf xs p hp i
 rw[getElem?_pos _ j hj] at gj
 rw[getElem?_pos _ i hi] at gi
 generalize (SetTable.eraseAt xs p)[j]=vj at gj
 generalize (SetTable.eraseAt xs p)[i]=vi at gi
 by_cases h1:j<p
 ·rw[if_pos h1] at gj
  rw[if_pos (by omega)] at gi
  obtain⟨h2,rfl⟩:=Array.getElem?_eq_some_iff.mp gj.symm
  obtain⟨h3,rfl⟩:=Array.getElem?_eq_some_iff.mp gi.symm
  exact up i j hij h2 h3
 ·rw[if_neg h1] at gj
  obtain⟨h2,rfl⟩:=Array.getElem?_eq_some_iff.mp gj.symm
  by_cases h4:i<p
  ·rw[if_pos h4] at gi
   obtain⟨h3,rfl⟩:=Array.getElem?_eq_some_iff.mp gi.symm
   exact up i (j+1) (by omega) h2 h3
  ·rw[if_neg h4] at gi
   obtain⟨h3,rfl⟩:=Array.getElem?_eq_some_iff.mp gi.symm
   exact up (i+1) (j+1) (by omega) h2 h3
theorem good_drop {t:SetTable} {es:Array (Int×Value)} {i:Nat} (g:GoodT t es) (dj: ∀j∈t.place.toList,j∉t.dummies.toList) (hi:i<es.size):GoodT (t.drop i) (SetTable.eraseAt es i)∧(∀j∈(t.drop i).place.toList,j∉(t.drop i).dummies.toList)∧(t.drop i).dummies.size=t.dummies.size+1∧(t.drop i).mask=t.mask:=by
 have hp:i<t.place.size:=by rw[g.size];exact hi
 obtain⟨j,hj⟩: ∃j,t.place[i]? =some j:=⟨t.place[i],by simp[hp]⟩
 have e1:t.drop i={t with place:=SetTable.eraseAt t.place i,dummies:=SetTable.insertAt t.dummies (SetTable.below t.dummies j) j}:=by
  unfold SetTable.drop
  rw[hj]
 have hjm:j∈t.place.toList:=by
  obtain⟨q,rfl⟩:=Array.getElem?_eq_some_iff.mp hj
  simp
 have hjd:=dj j hjm
 obtain⟨b1,_,_⟩:=below_ok g.ud j
 have memP: ∀j',j'∈(SetTable.eraseAt t.place i).toList↔j'∈t.place.toList∧j'≠j:=by
  intro j'
  have hl:t.place.toList=t.place.toList.take i++j::t.place.toList.drop (i+1):=by
   have hil:i<t.place.toList.length:=by simpa using hp
   have:=List.drop_eq_getElem_cons hil
   have hjj:t.place.toList[i]=j:=by
    obtain⟨q,e⟩:=Array.getElem?_eq_some_iff.mp hj
    simpa using e
   rw[hjj] at this
   rw[←this,List.take_append_drop]
  have nd:t.place.toList.Nodup:=by
   refine List.pairwise_iff_getElem.mpr fun a b ha hb hab=> ?_
   have:=g.up a b hab (by simpa using hb) (by simpa using ha)
   simp only[Array.getElem_toList]
   omega
  rw[eraseAt_list]
  rw[hl] at nd
  have n2:=List.perm_middle.nodup_iff.mp nd
  obtain⟨n3,_⟩:=List.nodup_cons.mp n2
  constructor
  ·intro hm
   refine⟨?_,fun e=> ?_⟩
   ·rw[hl]
    rcases List.mem_append.mp hm with q | q
    ·exact List.mem_append_left _ q
    ·exact List.mem_append_right _ (List.mem_cons_of_mem _ q)
   ·subst e;exact n3 hm
  ·rintro⟨hm,hne⟩
   rw[hl] at hm
   rcases List.mem_append.mp hm with q | q
   ·exact List.mem_append_left _ q
   ·rcases List.mem_cons.mp q with q | q
    ·exact absurd q hne
    ·exact List.mem_append_right _ q
 have memD: ∀j',j'∈(SetTable.insertAt t.dummies (SetTable.below t.dummies j) j).toList↔j'∈t.dummies.toList∨j'=j:=by
  intro j'
  rw[insertAt_list,List.mem_append,List.mem_cons]
  conv=>rhs;rw[←List.take_append_drop (SetTable.below t.dummies j) t.dummies.toList,List.mem_append]
  constructor
  ·rintro (q | q | q)
   ·exact .inl (.inl q)
   ·exact .inr q
   ·exact .inl (.inr q)
  ·rintro ((q | q) | q)
   ·exact .inl q
   ·exact .inr (.inr q)
   ·exact .inr (.inl q)
 have occ: ∀j',Occ t j'→Occ (t.drop i) j':=fun j' ho=>by
  rw[e1]
  by_cases hne:j'=j
  ·exact .inr ((memD j').mpr (.inr hne))
  ·rcases ho with ho | ho
   ·exact .inl ((memP j').mpr ⟨ho,hne⟩)
   ·exact .inr ((memD j').mpr (.inl ho))
 have em:(t.drop i).mask=t.mask:=by rw[e1]
 have hes:=eraseAt_size t.place i hp
 have hds:=aCn t.dummies (SetTable.below t.dummies j) j b1
 refine⟨⟨?_,?_,?_,?_,?_,fun i' j' hij=> ?_⟩,fun j' hm=> ?_,?_,em⟩
 ·rw[e1];exact ups_erase g.up hp
 ·rw[e1];exact ups_insert g.ud hjd
 ·rw[e1]
  have h2:=eraseAt_size es i hi
  have h3:=g.size
  show (SetTable.eraseAt t.place i).size=_
  omega
 ·rw[em,e1]
  have h3:=g.fill
  unfold SetTable.fill at h3⊢
  dsimp only
  omega
 ·unfold Small;rw[em];exact g.small
 ·rw[e1] at hij
  have hij2:(SetTable.eraseAt t.place i)[i']? =some j':=hij
  rw[aEf _ _ hp] at hij2
  have hg:=aEf es i hi i'
  have old: ∀i0,t.place[i0]? =some j'→hAt (SetTable.eraseAt es i) i'=hAt es i0→∃n,(stand (t.drop i) (hAt (SetTable.eraseAt es i) i') n).j=j'∧∀m,m<n→Occ (t.drop i) (stand (t.drop i) (hAt (SetTable.eraseAt es i) i') m).j:=fun i0 h0 eh=>by
   obtain⟨n,n1,n2⟩:=g.met i0 j' h0
   refine⟨n,?_,fun m hm=> ?_⟩
   ·rw[eh,aDb em];exact n1
   ·rw[eh,aDb em];exact occ _ (n2 m hm)
  by_cases h1:i'<i
  ·rw[if_pos h1] at hij2 hg
   exact old i' hij2 (by unfold hAt;rw[hg])
  ·rw[if_neg h1] at hij2 hg
   exact old (i'+1) hij2 (by unfold hAt;rw[hg])
 ·rw[e1] at hm⊢
  intro hd
  rcases (memD j').mp hd with q | q
  ·exact dj j' ((memP j').mp hm).1 q
  ·exact ((memP j').mp hm).2 q
 ·rw[e1];exact hds
section
variable {prog:Program} {w:World} {P:Value→Prop} {A:Around} {E:Value→Shared→Prop} {s:Shared}
theorem discard_ok {a:Addr} {o:Obj} {es:Array (Int×Value)} {ep:Nat} {t:SetTable} {us:List (List Str)} {x:Value} {k:List Str} {Q:Bool→Shared→Prop} (hu:A.units<cLine) (z:TuSet (PySem.strKind prog w) P s.heap a o es ep t us) (dj: ∀j∈t.place.toList,j∉t.dummies.toList) (hx:TKey (PySem.strKind prog w) s.heap x k)
  (h: ∀b h' o' es' ep' t' us',Heap.SameBut a s.heap h'→TuSet (PySem.strKind prog w) P h' a o' es' ep' t' us'→(∀j∈t'.place.toList,j∉t'.dummies.toList)→us'=us.filter (fun q=>decide (q≠k))→t'.dummies.size≤t.dummies.size+1→t'.mask=t.mask→Q b {s with heap:=h'}):
  wpAny (model prog w) A (setDiscardHashed a x (tupleKeyHash (PySem.strKind prog w) k)) Q E s:=by
 have hs:sizeLine=16777216:=sizeLine_eq
 unfold setDiscardHashed
 refine wpAny_bind (find_tup hu z hx (fun i hi=> ?_) fun hk=> ?_)
 ·dsimp only
  refine wpAny_bind (z.state ?_)
  dsimp only
  obtain⟨hil,hik⟩:=List.getElem?_eq_some_iff.mp hi
  have hie:i<es.size:=by rw[z.len];exact hil
  obtain⟨g1,g2,g3,g4⟩:=good_drop z.good dj hie
  have hez:=eraseAt_size es i hie
  have hsm:es.size≤31:=by
   have h1:=z.good.fill
   have h2:es.size≤t.fill:=by unfold SetTable.fill;rw[z.good.size];omega
   rcases z.good.small with q | q<;>rw[q] at h1<;>omega
  refine wpAny_bind (wpAny_storeSet_of z.get z.data (wpAny_bind (wpAny_point (wpAny_pure ?_))) (by omega))
  have sb:=Heap.SameBut.update s.heap a (Obj.putSet (SetTable.eraseAt es i) (t.drop i))
  have hus:us=us.take i++k::us.drop (i+1):=by
   have:=List.drop_eq_getElem_cons hil
   rw[hik] at this
   rw[←this,List.take_append_drop]
  have nd2:(k::(us.take i++us.drop (i+1))).Nodup:=by
   have:=z.nd
   rw[hus] at this
   exact List.perm_middle.nodup_iff.mp this
  obtain⟨n1,n2⟩:=List.nodup_cons.mp nd2
  have efl:us.filter (fun q=>decide (q≠k))=us.take i++us.drop (i+1):=by
   conv=>lhs;rw[hus]
   rw[List.filter_append,List.filter_cons_of_neg (by simp)]
   have f1:(us.take i).filter (fun q=>decide (q≠k))=us.take i:=List.filter_eq_self.mpr fun q hq=>by
    have:q≠k:=fun e=>n1 (List.mem_append_left _ (by rw[←e];exact hq))
    simpa using this
   have f2:(us.drop (i+1)).filter (fun q=>decide (q≠k))=us.drop (i+1):=List.filter_eq_self.mpr fun q hq=>by
    have:q≠k:=fun e=>n1 (List.mem_append_right _ (by rw[←e];exact hq))
    simpa using this
   rw[f1,f2]
  have htl:(us.take i).length=i:=by rw[List.length_take];omega
  refine h true _ _ _ _ _ (us.take i++us.drop (i+1)) sb ⟨set_data z.get z.data,z.ex,rfl,g1,?_,fun j e hj=> ?_,n2,fun j e hj=> ?_⟩ g2 efl.symm (by omega) g4
  ·have h3:=z.len
   rw[List.length_append,htl,List.length_drop]
   omega
  ·rw[aEf es i hie] at hj
   by_cases h1:j<i
   ·rw[if_pos h1] at hj
    obtain⟨ks,a1,a2,a3⟩:=z.ent j e hj
    refine⟨ks,?_,a2.kept z.get z.data sb,a3⟩
    rw[List.getElem?_append_left (by omega),List.getElem?_take,if_pos h1]
    exact a1
   ·rw[if_neg h1] at hj
    obtain⟨ks,a1,a2,a3⟩:=z.ent (j+1) e hj
    refine⟨ks,?_,a2.kept z.get z.data sb,a3⟩
    rw[List.getElem?_append_right (by omega),htl,List.getElem?_drop,show i+1+(j-i)=j+1 by omega]
    exact a1
  ·rw[aEf es i hie] at hj
   split at hj
   ·exact z.ok j e hj
   ·exact z.ok (j+1) e hj
 ·dsimp only
  refine wpAny_pure ?_
  have e:s={s with heap:=s.heap}:=by cases s;rfl
  rw[e]
  refine h false s.heap o es ep t us (Heap.SameBut.refl a s.heap) z dj ?_ (Nat.le_succ _) rfl
  exact (List.filter_eq_self.mpr fun q hq=>by
   have:q≠k:=fun e=>hk (by rw[←e];exact hq)
   simpa using this).symm
end
theorem laid_any {mask:Nat} (hm:mask=7∨mask=15∨mask=31) {es:Array (Int×Value)} (hl:es.size≤mask) (finger moves:Nat) (led plain:Bool):
  ∃(T:SetTable) (l:List Nat),SetTable.laid mask finger moves led plain (es.map (·.1))=some (T,l.toArray)∧l.Perm (List.range es.size)∧T.place.size=es.size∧T.dummies= #[]∧T.mask=mask∧T.led=led∧(l.toArray.filterMap (es[·]?)).toList=l.map fun k=>es.getD k (0,.none):=by
 let T0:SetTable:={mask,place:= #[],dummies:= #[],finger,led,moves,plain}
 obtain⟨owner,h1,o⟩:=layClean_ok (T:=T0) hm (es.map (·.1)) (by rw[Array.size_map];show es.size≤mask+1;omega)
 have hlen:((es.map (·.1)).toList).length=es.size:=by simp
 have hp:=live_perm o
 rw[hlen] at hp
 have hlt: ∀k∈(aCy T0.mask owner).map (·.2),k<es.size:=fun k hk=>List.mem_range.mp (hp.mem_iff.mp hk)
 have hsz:(aCy T0.mask owner).length=es.size:=by
  have:=hp.length_eq
  rw[List.length_map,List.length_range] at this
  exact this
 have hfm:(((aCy T0.mask owner).map (·.2)).toArray.filterMap (es[·]?)).toList=((aCy T0.mask owner).map (·.2)).map fun k=>es.getD k (0,.none):=by
  rw[←filt_map es (0,.none) _ hlt]
  simp
 refine⟨{mask,place:=((aCy T0.mask owner).map (·.1)).toArray,dummies:= #[],finger,led,moves,plain},(aCy T0.mask owner).map (·.2),?_,hp,by simp[hsz],rfl,rfl,rfl,hfm⟩
 unfold SetTable.laid
 rw[show SetTable.layClean mask (es.map (·.1))=some owner from h1]
 rfl
theorem merge_eq (s o:Addr):setMerge s o=(do
 if s==o then return
 let (eo,epoch,to)←setState o
 if eo.isEmpty then return
 setRoomFor s eo.size
 let (_,_,ts)←setState s
 match ts.road to with
 | .slotForSlot=>storeSet s eo {to with finger:=ts.finger,led:=ts.led&&to.led,moves:=ts.moves,plain:=ts.plain&&to.plain}
 | .clean=>
  let (es,t)←(do
   let some (t,order):=SetTable.laid ts.mask ts.finger ts.moves (led:=ts.led&&to.led) (plain:=ts.plain&&to.plain) (eo.map (·.1)) | unsupported "internal:set-table-without-room"
   let es':=order.filterMap (eo[·]?)
   if es'.size !=eo.size then unsupported "internal:set-table-lost-an-element"
   pure (es',t))
  storeSet s es t
 | .oneByOne=>
  for (h,x) in←setWalkUnseen o [s] (some s) do
   let _←holding [x] (setAddHashed s x h)
   pure ()
   if (←setState o).2.1 !=epoch then unsupported "set.changed-during-merge"):=rfl
theorem good_like {t t':SetTable} {es:Array (Int×Value)} (g:GoodT t es) (e1:t'.mask=t.mask) (e2:t'.place=t.place) (e3:t'.dummies=t.dummies):GoodT t' es:=by
 have occ: ∀j,Occ t j→Occ t' j:=fun j h=>by unfold Occ;rw[e2,e3];exact h
 refine⟨by rw[e2];exact g.up,by rw[e3];exact g.ud,by rw[e2];exact g.size,?_,?_,fun i j h=> ?_⟩
 ·have:=g.fill
  unfold SetTable.fill at this⊢
  rw[e1,e2,e3]
  exact this
 ·unfold Small;rw[e1];exact g.small
 ·rw[e2] at h
  obtain⟨n,n1,n2⟩:=g.met i j h
  exact⟨n,by rw[aDb e1];exact n1,fun m hm=>by rw[aDb e1];exact occ _ (n2 m hm)⟩
section
variable {prog:Program} {w:World} {P:Value→Prop} {A:Around} {E:Value→Shared→Prop} {s:Shared}
noncomputable def Bare (w:World) (h:Heap) (r:Addr) (m:Nat):Prop:= ∃o ep t,h.get? r=some o∧o.ExactSet∧o.data= .set #[] ep t∧t.place= #[]∧t.dummies= #[]∧t.mask=m∧t.led=ledW w
theorem room_bare {r:Addr} {n:Nat} {Q:Unit→Shared→Prop} (e:s.heap.get? r=some (setO (ledW w))) (h4:4≤n) (h15:n≤15)
  (h: ∀h' m,Heap.SameBut r s.heap h'→Bare w h' r m→(m=7∨m=15∨m=31)→n≤m→(8≤n→m=31)→Q () {s with heap:=h'}):wpAny (model prog w) A (setRoomFor r n) Q E s:=by
 have hs:sizeLine=16777216:=sizeLine_eq
 have hfit:(SetTable.fresh 0 0 (ledW w)).fits (#[]:Array (Int×Value)).size=true:=rfl
 unfold setRoomFor
 refine wpAny_bind (wpAny_setState_of e rfl hfit ?_)
 dsimp only
 have same:n=4→Q () s:=fun q=>by
  have:=h s.heap 7 (Heap.SameBut.refl r s.heap) ⟨_,0,_,e,⟨rfl,rfl,rfl⟩,rfl,rfl,rfl,rfl,rfl⟩ (.inl rfl) (by omega) (by omega)
  exact this
 by_cases h5:n=4
 ·subst h5
  have er:(SetTable.fresh 0 0 (ledW w)).roomFor 4=none:=rfl
  rw[er]
  exact wpAny_pure (same rfl)
 have er:(SetTable.fresh 0 0 (ledW w)).roomFor n=some ((0+n)*2):=by
  unfold SetTable.roomFor
  rw[if_pos (by show (0+n)*5≥7*3;omega)]
  rfl
 rw[er]
 dsimp only
 obtain⟨m,hm1,hm2,hm3,hm4⟩: ∃m,SetTable.sizeAbove ((0+n)*2)=m+1∧(m=7∨m=15∨m=31)∧n≤m∧(8≤n→m=31):=by
  have hn:n=5∨n=6∨n=7∨n=8∨n=9∨n=10∨n=11∨n=12∨n=13∨n=14∨n=15:=by omega
  rcases hn with rfl | rfl | rfl | rfl | rfl | rfl | rfl | rfl | rfl | rfl | rfl
  ·exact⟨15,rfl,by decide,by decide,by decide⟩
  ·exact⟨15,rfl,by decide,by decide,by decide⟩
  ·exact⟨15,rfl,by decide,by decide,by decide⟩
  ·exact⟨31,rfl,by decide,by decide,by decide⟩
  ·exact⟨31,rfl,by decide,by decide,by decide⟩
  ·exact⟨31,rfl,by decide,by decide,by decide⟩
  ·exact⟨31,rfl,by decide,by decide,by decide⟩
  ·exact⟨31,rfl,by decide,by decide,by decide⟩
  ·exact⟨31,rfl,by decide,by decide,by decide⟩
  ·exact⟨31,rfl,by decide,by decide,by decide⟩
  ·exact⟨31,rfl,by decide,by decide,by decide⟩
 rw[relay_eq]
 refine wpAny_bind (wpAny_setState_of e rfl hfit ?_)
 dsimp only
 rw[if_neg (by rw[hm1,hs];omega)]
 obtain⟨T,l,r1,r2,r3,r4,r5,r6,r7⟩:=laid_any (es:=(#[]:Array (Int×Value))) hm2 (Nat.zero_le _) (SetTable.fresh 0 0 (ledW w)).finger ((SetTable.fresh 0 0 (ledW w)).movedTo m) (SetTable.fresh 0 0 (ledW w)).led (SetTable.fresh 0 0 (ledW w)).plain
 have erl:(SetTable.fresh 0 0 (ledW w)).relaid ((#[]:Array (Int×Value)).map (·.1)) ((0+n)*2)=some (T,l.toArray):=by
  unfold SetTable.relaid
  rw[hm1,Nat.add_sub_cancel]
  exact r1
 rw[erl]
 dsimp only
 have hl0:l=[]:=List.eq_nil_of_length_eq_zero (by rw[r2.length_eq];rfl)
 subst hl0
 have hz:(([]:List Nat).toArray.filterMap ((#[]:Array (Int×Value))[·]?))= #[]:=by simp
 rw[hz,if_neg (by decide)]
 refine wpAny_bind (wpAny_pure ?_)
 dsimp only
 refine wpAny_storeSet_of e rfl ?_ (Nat.zero_le _)
 have hp0:T.place= #[]:=Array.eq_empty_of_size_eq_zero r3
 exact h _ m (Heap.SameBut.update s.heap r _) ⟨_,_,T,set_data e rfl,⟨rfl,rfl,rfl⟩,rfl,hp0,r4,r5,r6⟩ hm2 hm3 hm4
theorem copy_tup {a:Addr} {ts:List (List Str)} {Q:Value→Shared→Prop} (za:SetT (PySem.strKind prog w) P s.heap a ts) (h4:4≤ts.length) (h15:ts.length≤15)
  (h: ∀h' o es ep t,Kps s.heap h'→h'.get? s.heap.objs.size=some o→o.ExactSet→o.data= .set es ep t→t.fits es.size=true→es.size=ts.length→t.dummies= #[]→(8≤ts.length→t.mask=31∧∃us,TuSet (PySem.strKind prog w) P h' s.heap.objs.size o es ep t us∧us.Perm ts)→Q (.ref s.heap.objs.size) {s with heap:=h'}):
  wpAny (model prog w) A (Builtin.Frozenset.copyOf a) Q E s:=by
 have hs:sizeLine=16777216:=sizeLine_eq
 obtain⟨oa,ea,epa,ta,ua,za,pa,da,fa,la,na⟩:=za
 have hla:=Heap.lt_size za.get
 have sza:ea.size=ts.length:=by rw[za.len,pa.length_eq]
 unfold Builtin.Frozenset.copyOf Builtin.Frozenset.baseOf
 refine wpAny_bind (wpAny_bind (isSetT za.get za.ex (wpAny_pure ?_)))
 rw[if_pos rfl]
 refine wpAny_bind (new_set ?_)
 have zS:(s.heap.push (setO (ledW w))).get? s.heap.objs.size=some (setO (ledW w)):=Heap.get?_push_size _ rfl
 refine wpAny_bind (show wpAny _ _ (pure s.heap.objs.size) _ _ _ from wpAny_pure ?_)
 have kp:Kps s.heap (s.heap.push (setO (ledW w))):=fun b o e=>Heap.get?_push_of_some _ e
 refine wpAny_bind ?_
 rw[merge_eq]
 rw[if_neg (by rw[beq_iff_eq];exact Nat.ne_of_gt hla)]
 refine wpAny_bind (wpAny_setState_of (kp _ _ za.get) za.data za.good.fits ?_)
 dsimp only
 rw[if_neg (by rw[Array.isEmpty_iff_size_eq_zero];omega)]
 refine wpAny_bind (room_bare (s:={s with heap:=s.heap.push (setO (ledW w))}) (n:=ea.size) zS (by omega) (by omega) fun h1 m sb1 hb hm hnm h8=> ?_)
 obtain⟨o1,ep1,t1,b1,b2,b3,b4,b5,b6,b7⟩:=hb
 have fit1:t1.fits (#[]:Array (Int×Value)).size=true:=by unfold SetTable.fits SetTable.fill;rw[b4,b5];simp
 refine wpAny_bind (wpAny_setState_of b1 b3 fit1 ?_)
 dsimp only
 have k1:Kps s.heap h1:=fun x o e=>(sb1.2 x (Nat.ne_of_lt (Heap.lt_size e))).trans (kp x o e)
 have fill1:t1.fill=0:=by unfold SetTable.fill;rw[b4,b5];rfl
 by_cases hmm:m=ta.mask
 ·have er:t1.road ta= .slotForSlot:=by
   unfold SetTable.road
   rw[fill1,b6,hmm,da]
   simp
  rw[er]
  dsimp only
  refine wpAny_storeSet_of b1 b3 ?_ (by omega)
  have gg:GoodT {ta with finger:=t1.finger,led:=t1.led&&ta.led,moves:=t1.moves,plain:=t1.plain&&ta.plain} ea:=good_like za.good rfl rfl rfl
  have sb2:=Heap.SameBut.update h1 s.heap.objs.size (Obj.putSet ea {ta with finger:=t1.finger,led:=t1.led&&ta.led,moves:=t1.moves,plain:=t1.plain&&ta.plain})
  have k2:Kps s.heap (h1.update s.heap.objs.size (Obj.putSet ea {ta with finger:=t1.finger,led:=t1.led&&ta.led,moves:=t1.moves,plain:=t1.plain&&ta.plain})):=fun x o e=>(sb2.2 x (Nat.ne_of_lt (Heap.lt_size e))).trans (k1 x o e)
  refine wpAny_pure (h _ _ _ _ _ k2 (set_data b1 b3) b2 rfl gg.fits sza da fun q=>⟨by rw[←hmm];exact h8 (by omega),ua,⟨set_data b1 b3,b2,rfl,gg,za.len,fun i e hi=> ?_,za.nd,za.ok⟩,pa⟩)
  obtain⟨ks,a1,a2,a3⟩:=za.ent i e hi
  exact⟨ks,a1,a2.up k2,a3⟩
 ·have er:t1.road ta= .clean:=by
   unfold SetTable.road
   rw[fill1,b6]
   have:(m==ta.mask)=false:=by simpa using hmm
   rw[this]
   simp
  rw[er]
  dsimp only
  obtain⟨T,l,r1,r2,r3,r4,r5,r6,r7⟩:=laid_any (es:=ea) hm hnm t1.finger t1.moves (t1.led&&ta.led) (t1.plain&&ta.plain)
  rw[b6,r1]
  dsimp only
  have hsz:(l.toArray.filterMap (ea[·]?)).size=ea.size:=by rw[←Array.length_toList,r7,List.length_map,r2.length_eq,List.length_range]
  rw[if_neg (by rw[hsz];simp)]
  refine wpAny_bind (wpAny_pure ?_)
  dsimp only
  refine wpAny_storeSet_of b1 b3 ?_ (by rw[hsz];omega)
  have sb2:=Heap.SameBut.update h1 s.heap.objs.size (Obj.putSet (l.toArray.filterMap (ea[·]?)) T)
  have k2:Kps s.heap (h1.update s.heap.objs.size (Obj.putSet (l.toArray.filterMap (ea[·]?)) T)):=fun x o e=>(sb2.2 x (Nat.ne_of_lt (Heap.lt_size e))).trans (k1 x o e)
  refine wpAny_pure (h _ _ _ _ _ k2 (set_data b1 b3) b2 rfl ?_ (by rw[hsz];exact sza) r4 fun q=> ?_)
  ·unfold SetTable.fits SetTable.fill
   rw[r3,r4,r5,hsz]
   simp
   exact hnm
  ·exfalso
   have h31:=h8 (by omega)
   have hf:=za.good.fill
   have hf2:ea.size≤ta.fill:=by unfold SetTable.fill;rw[za.good.size];omega
   rcases za.good.small with q2 | q2
   ·rw[q2] at hf;omega
   ·exact hmm (by rw[h31,q2])
end
section
variable {prog:Program} {w:World} {P:Value→Prop} {A:Around} {E:Value→Shared→Prop} {s:Shared}
noncomputable def LeftT (prog:Program) (w:World) (P:Value→Prop) (h:Heap) (r:Addr) (ts p:List (List Str)):Prop:= ∃o es ep t,h.get? r=some o∧o.ExactSet∧o.data= .set es ep t∧t.fits es.size=true∧es.size=(ts.filter fun k=> !p.contains k).length∧t.dummies.size≤p.length∧
 (8≤ts.length→t.mask=31∧(∀j∈t.place.toList,j∉t.dummies.toList)∧∃us,TuSet (PySem.strKind prog w) P h r o es ep t us∧us.Perm (ts.filter fun k=> !p.contains k))
theorem filt_snoc (ts p:List (List Str)) (k:List Str):(ts.filter fun q=> !(p++ [k]).contains q)=(ts.filter fun q=> !p.contains q).filter fun q=>decide (q≠k):=by
 rw[List.filter_filter]
 congr 1
 funext q
 by_cases h:q=k
 ·subst h;simp
 ·simp[h,List.contains_iff_mem]
theorem diff_upd {r b:Addr} {ts us:List (List Str)} {id:String} {Q:Unit→Shared→Prop} (hu:A.units<cLine) (hrb:b≠r) {h0:Heap} (hr0:h0.get? r=none) (k0:Kps h0 s.heap) (hPL: ∀v,P v→Lies prog w h0 v) (zb:SetT (PySem.strKind prog w) P h0 b us) (hl:LeftT prog w P s.heap r ts []) (h15:ts.length≤15) (h4:us.length<ts.length/4)
  (h: ∀h' d,Kps h0 h'→LeftT prog w P h' r ts us→Q () {s with heap:=h',drawn:=d}):wpAny (model prog w) A (Builtin.Frozenset.differenceUpdate id r (.ref b)) Q E s:=by
 have zb1:SetT (PySem.strKind prog w) P s.heap b us:=zb.moved hPL (fun _ _ e=>e) k0 fun o e=>k0 _ _ e
 obtain⟨ob,eb,epb,tb,ub,zb,pb,db,fb,lb,nb⟩:=zb
 have up: ∀{h':Heap} {x:Addr} {o:Obj} {es:Array (Int×Value)} {ep:Nat} {t:SetTable} {vs:List (List Str)},Kps h0 h'→TuSet (PySem.strKind prog w) P h0 x o es ep t vs→TuSet (PySem.strKind prog w) P h' x o es ep t vs:=fun k z=>
  ⟨k _ _ z.get,z.ex,z.data,z.good,z.len,fun i e hi=>let ⟨ks,a1,a2,a3⟩:=z.ent i e hi;⟨ks,a1,a2.up k,a3⟩,z.nd,z.ok⟩
 have zs:=up k0 zb
 have szb:eb.size=us.length:=by rw[zb.len,pb.length_eq]
 have hl0:=hl
 obtain⟨o1,e1,ep1,t1,c1,c2,c3,c4,c5,c6,c7⟩:=hl
 have fnil:(ts.filter fun k=> !([]:List (List Str)).contains k)=ts:=List.filter_eq_self.mpr fun k _=>by simp
 rw[fnil] at c5
 unfold Builtin.Frozenset.differenceUpdate
 rw[if_neg (by simpa using hrb)]
 refine wpAny_bind (anySetT zs.get zs.ex ?_)
 rw[if_pos rfl]
 refine wpAny_bind (show wpAny _ _ (pure b) _ _ _ from wpAny_pure ?_)
 unfold Builtin.Frozenset.sizeOf
 refine wpAny_bind (wpAny_bind (wpAny_setEntries_of zs.get zs.data zs.good.fits (wpAny_pure ?_)))
 refine wpAny_bind (wpAny_bind (wpAny_setEntries_of c1 c3 c4 (wpAny_pure ?_)))
 rw[if_neg (by omega)]
 refine wpAny_bind (wpAny_setEpoch_of zs.get zs.data zs.good.fits ?_)
 refine wpAny_bind (wpAny_holding ?_)
 refine wpAny_bind (unseenT zs lb fun es' d hp=> ?_)
 have pl:(eb.toList.zip ub).map Prod.fst=eb.toList:=List.map_fst_zip (by rw[Array.length_toList,zb.len];exact Nat.le_refl _)
 obtain⟨pl',pp,pe⟩:=perm_map_inv hp pl
 have kvp:(pl'.map Prod.snd).Perm ub:=by
  have:=pp.map Prod.snd
  rw[List.map_snd_zip (Nat.le_of_eq (zb.len.symm.trans (Array.length_toList (xs:=eb)).symm))] at this
  exact this
 have pll:pl'.length=us.length:=by rw[←pb.length_eq,←kvp.length_eq,List.length_map]
 have hpr: ∀q∈pl',TKey (PySem.strKind prog w) h0 q.1.2 q.2∧q.1.1=tupleKeyHash (PySem.strKind prog w) q.2:=fun q hq=>by
  have hm:=pp.mem_iff.mp hq
  obtain⟨i,hi,ei⟩:=List.mem_iff_getElem.mp hm
  rw[List.getElem_zip] at ei
  have hi2:i<eb.size:=by simp at hi;omega
  obtain⟨ks,a1,a2,a3⟩:=zb.ent i eb[i] (by simp[hi2])
  have hi3:i<ub.length:=by rw[←zb.len];exact hi2
  rw[List.getElem?_eq_getElem hi3] at a1
  cases a1
  rw[←ei]
  simp only[Array.getElem_toList]
  exact⟨a2,a3⟩
 refine wpAny_bind (wpAny_forIn_array' _ (fun rest _ s'=> ∃(p q:List ((Int×Value)×List Str)) (h3:Heap),s'={s with heap:=h3,drawn:=d}∧pl'=p++q∧rest=q.map Prod.fst∧Kps h0 h3∧LeftT prog w P h3 r ts (p.map Prod.snd)) _ ?_ ?_ _ _ ?_)
 ·rintro e rest b' s' ⟨p,q,h3,rfl,f1,f2,k3,z3⟩
  cases q with
  | nil=>cases f2
  | cons qh q=>
   rw[List.map_cons] at f2
   injection f2 with f3 f4
   subst f3 f4
   have hq:qh∈pl':=by rw[f1];exact List.mem_append_right _ List.mem_cons_self
   obtain⟨g2,g3⟩:=hpr qh hq
   obtain⟨⟨eh,ev⟩,k⟩:=qh
   dsimp only at g2 g3
   subst g3
   have h8:8≤ts.length:=by
    have:=List.length_pos_of_mem hq
    omega
   obtain⟨o3,es3,ep3,t3,d1,d2,d3,d4,d5,d6,d7⟩:=z3
   obtain⟨d8,d9,u3,d10,d11⟩:=d7 h8
   dsimp only
   refine wpAny_bind (wpAny_holding (discard_ok (s:={s with heap:=h3,drawn:=d}) hu d10 d9 (g2.up k3) fun bb h4 o4 es4 ep4 t4 u4 sb4 z4 j4 e4 n4 m4=> ?_))
   have k4:Kps h0 h4:=fun x o e=>(sb4.2 x (fun q=>by rw[q,hr0] at e;cases e)).trans (k3 x o e)
   refine wpAny_bind (unchanged_ok (s:={s with heap:=h4,drawn:=d}) (k4 _ _ zb.get) zb.data zb.good.fits {s with heap:=h4,drawn:=d} _ (fun _ e=>e) (wpAny_pure ⟨p++ [((tupleKeyHash (PySem.strKind prog w) k,ev),k)],q,h4,rfl,by rw[f1,List.append_assoc];rfl,rfl,k4,?_⟩))
   have ek:(p++ [((tupleKeyHash (PySem.strKind prog w) k,ev),k)]).map Prod.snd=p.map Prod.snd++ [k]:=by rw[List.map_append];rfl
   have pu:u4.Perm (ts.filter fun q=> !(p.map Prod.snd++ [k]).contains q):=by
    rw[e4,filt_snoc]
    exact d11.filter _
   rw[ek]
   refine⟨o4,es4,ep4,t4,z4.get,z4.ex,z4.data,z4.good.fits,by rw[z4.len,pu.length_eq],?_,fun _=>⟨by rw[m4];exact d8,j4,u4,z4,pu⟩⟩
   rw[List.length_append,List.length_singleton]
   omega
 ·rintro b' s' ⟨p,q,h3,rfl,f1,f2,k3,z3⟩
  have hq:q=[]:=List.map_eq_nil_iff.mp f2.symm
  subst hq
  rw[List.append_nil] at f1
  subst f1
  have ecn:(ts.filter fun k=> !(pl'.map Prod.snd).contains k)=ts.filter fun k=> !us.contains k:=by
   refine List.filter_congr fun k _=> ?_
   congr 1
   rw[Bool.eq_iff_iff,List.contains_iff_mem,List.contains_iff_mem]
   exact (kvp.trans pb).mem_iff
  have z4:LeftT prog w P h3 r ts us:=by
   obtain⟨o3,es3,ep3,t3,d1,d2,d3,d4,d5,d6,d7⟩:=z3
   rw[ecn] at d5 d7
   exact⟨o3,es3,ep3,t3,d1,d2,d3,d4,d5,by rw[List.length_map,pll] at d6;exact d6,d7⟩
  have z5:=z4
  obtain⟨o3,es3,ep3,t3,d1,d2,d3,d4,d5,d6,d7⟩:=z4
  refine wpAny_pure ?_
  unfold setTidy
  refine wpAny_bind (wpAny_setState_of d1 d3 d4 ?_)
  dsimp only
  have htm:t3.tooManyDummies=false:=by
   unfold SetTable.tooManyDummies
   rw[decide_eq_false_iff_not]
   by_cases h8:8≤ts.length
   ·rw[(d7 h8).1]
    omega
   ·have:us.length=0:=by omega
    omega
  rw[htm,if_neg (by simp)]
  exact wpAny_pure (h h3 d k3 z5)
 ·exact⟨[],pl',s.heap,rfl,rfl,pe.symm,k0,hl0⟩
end
section
variable {prog:Program} {w:World} {P:Value→Prop} {A:Around} {E:Value→Shared→Prop} {s:Shared}
theorem sub_far {a b:Addr} {ts us:List (List Str)} {Q:Value→Shared→Prop} (hu:A.units<cLine) (hPL: ∀v,P v→Lies prog w s.heap v) (za:SetT (PySem.strKind prog w) P s.heap a ts) (zb:SetT (PySem.strKind prog w) P s.heap b us) (h15:ts.length≤15) (h4:us.length<ts.length/4)
  (h: ∀h' d o es ep t,Kps s.heap h'→h'.get? s.heap.objs.size=some o→o.ExactSet→o.data= .set es ep t→t.fits es.size=true→es.size=(difT ts us).length→Q (.ref s.heap.objs.size) {s with heap:=h',drawn:=d}):
  wpAny (model prog w) A (Builtin.«frozenset.__sub__» ⟨[.ref a,.ref b],[]⟩) (fun fin s'=> ∃r,fin= .done (.ret r)∧Q r s') E s:=by
 have za0:=za
 have zb0:=zb
 obtain⟨oa,ea,epa,ta,ua,za,pa,da,fa,la,na⟩:=za
 obtain⟨ob,eb,epb,tb,ub,zb,pb,db,fb,lb,nb⟩:=zb
 have hla:=Heap.lt_size za.get
 have hlb:=Heap.lt_size zb.get
 unfold Builtin.«frozenset.__sub__»
 show wpAny _ _ (Builtin.Frozenset.slot1 "__sub__" ⟨[.ref a,.ref b],[]⟩>>=_) _ _ _
 refine wpAny_bind (show wpAny _ _ (pure (Value.ref a,Value.ref b)) _ _ _ from wpAny_pure ?_)
 dsimp only
 refine wpAny_bind (show wpAny _ _ (Builtin.Frozenset.isAnySet (.ref a)<&&>Builtin.Frozenset.isAnySet (.ref b)) _ _ _ from wpAny_bind (anySetT za.get za.ex (show wpAny _ _ (Builtin.Frozenset.isAnySet (.ref b)) _ _ _ from anySetT zb.get zb.ex ?_)))
 rw[if_neg (by decide)]
 refine wpAny_bind (show wpAny _ _ (pure a) _ _ _ from wpAny_pure ?_)
 refine wpAny_bind ?_
 show wpAny _ _ (Builtin.Frozenset.difference (toString "frozenset."++toString "__sub__") a (.ref b)) _ _ _
 unfold Builtin.Frozenset.difference
 dsimp only
 refine wpAny_bind (anySetT zb.get zb.ex ?_)
 rw[if_neg (by decide)]
 refine wpAny_bind (show wpAny _ _ (pure b) _ _ _ from wpAny_pure ?_)
 rw[if_neg (show ¬(!true&&b==sysModules)=true from by simp),if_pos rfl]
 unfold Builtin.Frozenset.sizeOf
 refine wpAny_bind (wpAny_bind (wpAny_setEntries_of zb.get zb.data zb.good.fits (wpAny_pure ?_)))
 refine wpAny_bind (wpAny_bind (wpAny_setEntries_of za.get za.data za.good.fits (wpAny_pure ?_)))
 have sza:ea.size=ts.length:=by rw[za.len,pa.length_eq]
 have szb:eb.size=us.length:=by rw[zb.len,pb.length_eq]
 rw[if_pos (by omega)]
 refine wpAny_bind (wpAny_rule ?_)
 refine wpAny_bind (copy_tup za0 (by omega) h15 fun h1 o1 es1 ep1 t1 k1 c1 c2 c3 c4 c5 c6 c7=> ?_)
 refine wpAny_bind (show wpAny _ _ (pure s.heap.objs.size) _ _ _ from wpAny_pure ?_)
 refine wpAny_bind (wpAny_holding ?_)
 have fnil:(ts.filter fun k=> !([]:List (List Str)).contains k)=ts:=List.filter_eq_self.mpr fun k _=>by simp
 have hl:LeftT prog w P h1 s.heap.objs.size ts []:=by
  refine⟨o1,es1,ep1,t1,c1,c2,c3,c4,by rw[fnil];exact c5,by rw[c6];exact Nat.le_refl _,fun h8=> ?_⟩
  obtain⟨m1,u1,z1,p1⟩:=c7 h8
  exact⟨m1,fun j _ q=>by rw[c6] at q;simp at q,u1,z1,by rw[fnil];exact p1⟩
 refine diff_upd (s:={s with heap:=h1}) (h0:=s.heap) hu (Nat.ne_of_lt hlb) (Heap.get?_none_of_le (Nat.le_refl _)) k1 hPL zb0 hl h15 h4 fun h2 d k2 ⟨o2,es2,ep2,t2,e1,e2,e3,e4,e5,_⟩=> ?_
 exact wpAny_pure (wpAny_pure ⟨_,rfl,h h2 d o2 es2 ep2 t2 k2 e1 e2 e3 e4 e5⟩)
theorem sub_tup {a b:Addr} {ts us:List (List Str)} {Q:Value→Shared→Prop} (hu:A.units<cLine) (hPL: ∀v,P v→Lies prog w s.heap v) (za:SetT (PySem.strKind prog w) P s.heap a ts) (zb:SetT (PySem.strKind prog w) P s.heap b us) (h15:ts.length≤15)
  (h: ∀h' d o es ep t,Kps s.heap h'→h'.get? s.heap.objs.size=some o→o.ExactSet→o.data= .set es ep t→t.fits es.size=true→es.size=(difT ts us).length→Q (.ref s.heap.objs.size) {s with heap:=h',drawn:=d}):
  wpAny (model prog w) A (Builtin.«frozenset.__sub__» ⟨[.ref a,.ref b],[]⟩) (fun fin s'=> ∃r,fin= .done (.ret r)∧Q r s') E s:=by
 by_cases h4:ts.length/4≤us.length
 ·refine sub_near hu hPL za zb (by omega) h4 fun h' d vs k z pv=> ?_
  obtain⟨o,es,ep,t,us',z,pu,_⟩:=z
  exact h h' d o es ep t k z.get z.ex z.data z.good.fits (by rw[z.len,pu.length_eq,pv.length_eq])
 ·exact sub_far hu hPL za zb h15 (by omega) h
end
theorem cmpL_one {α:Type} {k:Nat} {fe:Rho→M D} {ρ:Rho} {e:α→D} {g:α→D}: ∀(l:List α),(∀x∈l,fe (ρ.set k (some (.sh (e x))))=ok (g x)∧(g x).imm=true)→cmpL [k] h1 (fun _=>ok true) fe (l.map e) ρ=ok (l.map g)
 | [],_=>rfl
 | x::l,h=>by
  obtain⟨e1,e2⟩:=h x List.mem_cons_self
  have ih:=cmpL_one (g:=g) l fun p hp=>h p (List.mem_cons_of_mem _ hp)
  rw[List.map_cons,List.map_cons]
  unfold cmpL
  show (match fe (ρ.set k (some (.sh (e x)))) with
    | some (.ok r)=>if r.imm=true then bnd (cmpL [k] h1 (fun _=>ok true) fe (l.map e) ρ) fun rs=>ok (r::rs) else none
    | _=>none)=_
  rw[e1,ih]
  show (if (g x).imm=true then bnd (ok (l.map g)) fun rs=>ok (g x::rs) else none)=_
  rw[if_pos e2]
  rfl
theorem cmp_one {α:Type} {m k:Nat} {it:Rho→M (List D)} {fe:Rho→M D} {ρ:Rho} {l:List α} {e:α→D} {g:α→D} (hi:it ρ=ok (l.map e)) (hl:l.length≤1000)
  (h: ∀x∈l,fe ((ext m (free ρ)).set k (some (.sh (e x))))=ok (g x)∧(g x).imm=true):cmp m it [k] h1 (fun _=>ok true) fe ρ=ok (.lst (l.map g)):=by
 unfold cmp
 rw[hi,aDh,if_pos (by rw[List.length_map];omega),cmpL_one l h,aDh]
structure MarkS (l:Sm):Prop where
 ks:(kys l).Pairwise fun x y=>lexS x y=true
 fa: ∀p∈l,p.1.Pairwise fun x y=>leS x y=true
 po: ∀p∈l,1≤p.2
theorem MarkS.nd {l:Sm} (h:MarkS l):(kys l).Nodup:=h.ks.imp fun hxy e=>by rw[e,lex_ir] at hxy;cases hxy
noncomputable def r4:List Nat:=[0,1,2,3]
noncomputable def L35:List (List Nat):=[[]]++(r4.map fun a=> [a])++(r4.flatMap fun a=>(r4.filter fun b=>decide (a≤b)).map fun b=> [a,b])++(r4.flatMap fun a=>(r4.filter fun b=>decide (a≤b)).flatMap fun b=>(r4.filter fun c=>decide (b≤c)).map fun c=> [a,b,c])
theorem w1: ∀a:Fin 4,(L35.any fun l=>l.isPerm [a.1])=true:=by decide
theorem w2: ∀a b:Fin 4,(L35.any fun l=>l.isPerm [a.1,b.1])=true:=by decide
theorem w3: ∀a b c:Fin 4,(L35.any fun l=>l.isPerm [a.1,b.1,c.1])=true:=by decide
theorem items_txt {prog:Program} {w:World}: ∀{ks:List Str} {its:List Value},Vals (ks.map V.str) its→ItemsAre (PySem.strKind prog w) ks its
 | [],_,r=>by cases r;exact .nil
 | k::ks,_,r=>by
  cases r with
  | cons r1 r2=>
   obtain⟨t,rfl⟩:=r1
   exact .cons (by simp[PySem.strKind,Value.isStrOf]) (items_txt r2)
theorem txt_key {P:Program} {w:World} {H:Hp} {h:Heap} {a:Addr} {ks:List Str} (ok:HOk P w H h) (e:H a=some (.tup (ks.map V.str))):IsTupleKey (PySem.strKind P w) h ks a:=by
 obtain⟨_,its,r,o,h1,h2,⟨n,h3⟩,_⟩:=(show aDs P w H h a (.tup (ks.map V.str)) from ok a _ e)
 exact⟨o,its.toArray,n,h1,h2,h3,by simpa using items_txt r⟩
noncomputable def TupV (H:Hp) (v:Value):Prop:= ∃p ks,v= .ref p∧H p=some (.tup ((ks:List Str).map V.str))
noncomputable def fT (a:Addr) (es:Array (Int×Value)) (ep:Nat) (t:SetTable):Heap→Prop:=fun h=> ∃o,h.get? a=some o∧o.ExactSet∧o.data= .set es ep t
structure SeenT (P:Program) (w:World) (H:Hp) (es:Array (Int×Value)) (t:SetTable) (ts:List (List Str)):Prop where
 good:GoodT t es
 us: ∃us:List (List Str),us.Perm ts∧us.Nodup∧es.size=us.length∧(t.plain=true→∀k∈us,k=[])∧∀(i:Nat) (e:Int×Value),es[i]? =some e→∃p ks,us[i]? =some ks∧e.2= .ref p∧H p=some (.tup (ks.map V.str))∧e.1=tupleKeyHash (PySem.strKind P w) ks
 dum:t.dummies= #[]
 full:t.fill*5<t.mask*3
 led:t.led=ledW w
theorem SeenT.mono {P:Program} {w:World} {H H':Hp} {es:Array (Int×Value)} {t:SetTable} {ts:List (List Str)} (z:SeenT P w H es t ts) (s:Same H H'):SeenT P w H' es t ts:=by
 obtain⟨us,u1,u2,u3,u4,u5⟩:=z.us
 exact⟨z.good,⟨us,u1,u2,u3,u4,fun i e hi=>let ⟨p,ks,a1,a2,a3,a4⟩:=u5 i e hi;⟨p,ks,a1,a2,s _ _ a3,a4⟩⟩,z.dum,z.full,z.led⟩
theorem SeenT.setT {P:Program} {w:World} {H:Hp} {h:Heap} {a:Addr} {es:Array (Int×Value)} {ep:Nat} {t:SetTable} {ts:List (List Str)} (z:SeenT P w H es t ts) (ok:HOk P w H h) (f:fT a es ep t h):SetT (PySem.strKind P w) (TupV H) h a ts:=by
 obtain⟨us,u1,u2,u3,u4,u5⟩:=z.us
 obtain⟨o,f1,f2,f3⟩:=f
 refine⟨o,es,ep,t,us,⟨f1,f2,f3,z.good,u3,fun i e hi=> ?_,u2,fun i e hi=> ?_⟩,u1,z.dum,z.full,z.led,u4⟩
 ·obtain⟨p,ks,a1,a2,a3,a4⟩:=u5 i e hi
  exact⟨ks,a1,⟨p,a2,txt_key ok a3⟩,a4⟩
 ·obtain⟨p,ks,a1,a2,a3,a4⟩:=u5 i e hi
  exact⟨p,ks,a2,a3⟩
theorem str_inj: ∀{a b:List Str},a.map V.str=b.map V.str→a=b
 | [],[],_=>rfl
 | [],_::_,h=>by simp at h
 | _::_,[],h=>by simp at h
 | x::a,y::b,h=>by
  rw[List.map_cons,List.map_cons] at h
  injection h with h1 h2
  injection h1 with h1
  rw[h1,str_inj h2]
theorem seen_of {P:Program} {w:World} {H:Hp} {h h0:Heap} {a:Addr} {ts:List (List Str)} (z:SetT (PySem.strKind P w) (TupV H) h a ts) (ok:HOk P w H h0) (k:Kps h0 h): ∃es ep t,fT a es ep t h∧SeenT P w H es t ts:=by
 obtain⟨o,es,ep,t,us,z,u1,d,f,l,pn⟩:=z
 refine⟨es,ep,t,⟨o,z.get,z.ex,z.data⟩,⟨z.good,⟨us,u1,z.nd,z.len,pn,fun i e hi=> ?_⟩,d,f,l⟩⟩
 obtain⟨ks,a1,a2,a3⟩:=z.ent i e hi
 obtain⟨p,ks',b1,b2⟩:=z.ok i e hi
 have q:TKey (PySem.strKind P w) h0 e.2 ks':=⟨p,b1,txt_key ok b2⟩
 have:=TKey.inj q a2 k
 subst this
 exact⟨p,ks',a1,b1,b2,a3⟩
theorem fT_ext {P:Program} {w:World} {H:Hp} {h:Heap} {a:Addr} {es:Array (Int×Value)} {ep:Nat} {t:SetTable} (f:fT a es ep t h):aDs P w H h a (.ext (fT a es ep t)):=by
 refine⟨f,let ⟨o,e,_⟩:=f;⟨o,e⟩,fun h1 h2 ⟨o,e,r⟩ k=>⟨o,k o e,r⟩⟩
noncomputable abbrev TupL (H:Hp):List V→List (List Str)→Prop:=Paired fun v ks=> ∃p,v= .ref p∧H p=some (.tup ((ks:List Str).map V.str))
section
variable {X:Cx} {B:Hp} {e a b:Expr} {fa fb:Rho→M D} {pos p p2 pos2:Pos}
noncomputable def rSetT (X:Cx):List V→Hp→VK→Prop:=fun vs H Q=> ∃p ys ts,vs=[.ref p]∧(SqL X.K H p ys∨SqT X.K H p ys)∧TupL H ys ts∧ts.length<18∧∀l es ep t,H l=none→SeenT X.prog X.w H es t (metT ts)→Q (.ref l) (upd H l (.ext (fT l es ep t)))
theorem call_setR {k:Nat} (hr:Room k X.A):CallR X (.type "set") (rSetT X):=by
 intro pins s σ H vs us Q I r h
 obtain⟨p,ys,ts,rfl,hq,tl,hz,q⟩:=h
 obtain⟨u,rfl,rx⟩:=vals1 r
 cases rx
 have hlen:ys.length=ts.length:=Paired.len tl
 have fin: ∀(its:List Value),Vals ys its→∀(o:Obj) (n:Nat) (T:String),(T="list"∨T="tuple")→s.heap.get? p=some o→o.cls= .type T→o.data= .seq its.toArray n→wpAny (model X.prog X.w) X.A (call (.type "set") [.ref p]) (EP X pins σ Q) X.xe s:=by
  intro its r' o n T hT ho hcl hd
  have hl2:its.length=ys.length:=(Paired.len r').symm
  refine call_setT (P:=TupV H) (vs:=ts) hT hr.hd ?_ ho hcl hd (fun v ⟨p,ks,h1,h2⟩=>⟨ks,p,h1,txt_key I.hok h2⟩) (fun i v hv=> ?_) (by rw[List.size_toArray];omega) (by rw[List.size_toArray];omega) fun h' tk z kp=> ?_
  ·show X.A.units+1+1+1<cLine
   have:=hr.un
   omega
  ·have hv':its[i]? =some v:=by simpa using hv
   obtain⟨hi,rfl⟩:=List.getElem?_eq_some_iff.mp hv'
   have hy:i<ys.length:=by omega
   obtain⟨v',g1,g2⟩:=Paired.at r' (List.getElem?_eq_getElem hy)
   obtain⟨ks,g3,pp,g4,g5⟩:=Paired.at tl (List.getElem?_eq_getElem hy)
   rw[hv'] at g1
   cases g1
   rw[g4] at g2
   have e2:its[i]= .ref pp:=g2
   exact⟨⟨pp,ks,e2,g5⟩,ks,g3,pp,e2,txt_key I.hok g5⟩
  ·obtain⟨es,ep,t,f1,f2⟩:=seen_of z I.hok kp
   exact⟨.ref s.heap.objs.size,_,I.laid (t':=tk) kp (Nat.le_refl _) (fT_ext f1),rfl,q _ es ep t (I.hok.fresh (Nat.le_refl _)) f2⟩
 rcases hq with hq | hq
 ·obtain⟨its,r',⟨o,n,ho,hcl,_,hd⟩,_⟩:=I.list hq
  exact fin its r' o n "list" (.inl rfl) ho hcl hd
 ·obtain⟨its,r',⟨o,ho,hcl,n,hd⟩,_⟩:=I.tuple hq
  exact fin its r' o n "tuple" (.inr rfl) ho hcl hd
theorem call_lenT:CallR X (.builtin "len") (fun xs H Q=> ∃l es ep t ts,xs=[.ref l]∧H l=some (.ext (fT l es ep t))∧SeenT X.prog X.w H es t ts∧Q (.int ts.length) H):=by
 intro pins s σ H xs us Q I r h
 obtain⟨l,es,ep,t,ts,rfl,hl,z,q⟩:=h
 obtain⟨u,rfl,rx⟩:=vals1 r
 cases rx
 obtain⟨⟨o,ho,hex,hd⟩,_⟩:=(show aDs X.prog X.w H s.heap l (.ext _) from I.hok l _ hl)
 obtain⟨us,u1,_,u3,_⟩:=z.us
 have hf:=z.good.fill
 have hsz:es.size≤31:=by
  have h1:es.size≤t.fill:=by unfold SetTable.fill;rw[z.good.size];omega
  rcases z.good.small with q | q<;>rw[q] at hf<;>omega
 refine call_len_set ho hex hd z.good.fits (by omega) ⟨.int ts.length,H,I.tok _,⟨_,by rw[u3,u1.length_eq]⟩,q⟩
noncomputable def tupsL:List D→Option (List (List Str))
 | []=>some []
 | .tup ds::r=>match strL ds,tupsL r with | some x,some l=>some (x::l) | _,_=>none
 | _::_=>none
theorem tupsL_eq (ds:List D) {l:List (List Str)} (h:tupsL ds=some l):ds=l.map fun x=>D.tup (x.map D.str):=by
 induction ds generalizing l with
 | nil=>cases h;rfl
 | cons d ds ih=>
  unfold tupsL at h
  split at h
  ·cases‹_::_=[]›
  ·rename_i e
   cases e
   split at h
   ·rename_i x l' hx hl
    cases h
    rw[ih hl,aDi _ hx];rfl
   ·cases h
  ·cases h
theorem aD1 {K:PySem.W.Frag} {H:Hp} {xs:List Str} {vs:List V} (h:IsL K H (xs.map D.str) vs):vs=xs.map V.str:=by
 induction xs generalizing vs with
 | nil=>cases h;rfl
 | cons x xs ih=>
  cases h with
  | cons h1 h2=>cases h1;rw[ih h2];rfl
theorem isl_tups {K:PySem.W.Frag} {H:Hp} {l:List (List Str)} {vs:List V} (h:IsL K H (l.map fun x=>D.tup (x.map D.str)) vs):TupL H vs l:=by
 induction l generalizing vs with
 | nil=>cases h;exact .nil
 | cons x l ih=>
  cases h with
  | cons h1 h2=>
   refine .cons ?_ (ih h2)
   cases h1 with
   | tup hh rr=>rw[aD1 rr] at hh;exact⟨_,rfl,hh⟩
noncomputable def lenST:D→M D
 | .lst ds=>match tupsL ds with | some l=>if l.length<18 then ok (.int (metT l).length) else none | none=>none
 | .tup ds=>match tupsL ds with | some l=>if l.length<18 then ok (.int (metT l).length) else none | none=>none
 | _=>none
end
theorem addT_mem {σ:List (List Str)} {v k:List Str}:k∈addT σ v↔k∈σ∨k=v:=by
 unfold addT
 split
 ·rename_i h
  have hm:v∈σ:=by simpa using h
  constructor
  ·exact .inl
  ·rintro (q | rfl)
   ·exact q
   ·exact hm
 ·rw[List.mem_append,List.mem_singleton]
theorem metT_mem (l:List (List Str)) (k:List Str):k∈metT l↔k∈l:=by
 have g: ∀(l σ:List (List Str)),k∈l.foldl addT σ↔k∈σ∨k∈l:=by
  intro l
  induction l with
  | nil=>intro σ;simp
  | cons v l ih=>
   intro σ
   rw[List.foldl_cons,ih,addT_mem,List.mem_cons,or_assoc]
 have:=g l []
 unfold metT
 simpa using this
section
variable {X:Cx} {B:Hp} {e a b e2:Expr} {fa fb:Rho→M D} {pos p p2 pos2 p3 pos3:Pos}
theorem out_vals {P:Program} {w:World} {H:Hp} {h:Heap} (ok:HOk P w H h): ∀{out:List Value} {ts:List (List Str)},Paired (fun v ks=>TupV H v∧TKey (PySem.strKind P w) h v ks) out ts→∃vs,Vals vs out∧TupL H vs ts
 | _,_,.nil=>⟨[],.nil,.nil⟩
 | _,_,.cons ⟨⟨p,ks',e1,e2⟩,q⟩ r=>by
  obtain⟨vs,h1,h2⟩:=out_vals ok r
  subst e1
  have q':TKey (PySem.strKind P w) h (.ref p) ks':=⟨p,rfl,txt_key ok e2⟩
  have:=TKey.inj q' q (fun _ _ e=>e)
  subst this
  exact⟨.ref p::vs,.cons rfl h1,.cons ⟨p,rfl,e2⟩ h2⟩
theorem call_sortedST (hc:X.calm=true):CallR X (.builtin "sorted") (fun xs H Q=> ∃l es ep t ts,xs=[.ref l]∧H l=some (.ext (fT l es ep t))∧SeenT X.prog X.w H es t ts∧(∀k∈ts,k≠[])∧ts.length<18∧∀r vs,H r=none→TupL H vs (srtT ts)→Q (.ref r) (upd H r (.lst vs))):=by
 intro pins s σ H xs us Q I r h
 obtain⟨l,es,ep,t,ts,rfl,hl,z,hne,hlen,q⟩:=h
 obtain⟨u,rfl,rx⟩:=vals1 r
 cases rx
 obtain⟨ff,_⟩:=(show aDs X.prog X.w H s.heap l (.ext _) from I.hok l _ hl)
 have zs:=z.setT I.hok ff
 have hs:sizeLine=16777216:=sizeLine_eq
 refine sorted_setT (I.ok.hd hc) zs hne hlen fun out r h' tk d m hp hr ho' kp=> ?_
 obtain⟨vs,v1,v2⟩:=out_vals I.hok hp
 have hvl:vs.length=ts.length:=by rw[Paired.len v2,(srtT_perm ts).length_eq]
 exact⟨.ref r,_,(inv_drew I d).laid (t':=tk) kp hr (show aDs X.prog X.w _ h' _ (.lst _) from⟨by omega,out,m,v1,ho'⟩),rfl,q _ vs (I.hok.fresh hr) v2⟩
theorem tups_isl {K:PySem.W.Frag} {H:Hp}: ∀{vs:List V} {l:List (List Str)},TupL H vs l→IsL K H (l.map fun x=>D.tup (x.map D.str)) vs
 | _,_,.nil=> .nil
 | _,_,.cons ⟨p,e1,e2⟩ r=>by
  subst e1
  exact .cons (.tup e2 (isl_str _)) (tups_isl r)
noncomputable def srtST:D→M D
 | .lst ds=>match tupsL ds with | some l=>if l.length<18∧∀k∈l,k≠[] then ok (.lst ((srtT (metT l)).map fun x=>D.tup (x.map D.str))) else none | none=>none
 | _=>none
theorem pd_sortedST {k:Nat} (hr:Room k X.A) (hc:X.calm=true) (hg:Gl X "sorted") (hm:X.mg "sorted"=none) (hg2:Gl X "set") (hm2:X.mg "set"=none) (ha:PD X B e fa) (hs:aD0 e=true:=by rfl):PD X B (.Call (.Name "sorted" p) [.Call (.Name "set" p2) [e] [] pos2] [] pos) (f1 srtST fa):=by
 refine PE.of (pe_callB (call_sortedST hc) hg hm boot_sorted (aCh (pe_callTy (call_setR hr) hg2 hm2 boot_set (aCh ha aD9 (aBg hs)) (he:=aBg hs) (hpl:=by rfl)) aD9 (by rfl)) (he:=by rfl) (hpl:=by rfl)) fun σ H Q h=> ?_
 obtain⟨ρ,r1,h⟩:=h
 refine⟨ρ,r1,(Res.bind h).imp fun d q1 v H1 e1 i1=> ?_⟩
 cases i1 with
 | lst hh rr=>
  dsimp only[srtST] at q1
  split at q1
  ·rename_i l hx
   have ed:=tupsL_eq _ hx
   subst ed
   split at q1
   ·rename_i hz
    refine⟨_,_,l,rfl,.inl hh,isl_tups rr,hz.1,fun b es ep t hb z=>⟨b,es,ep,t,metT l,rfl,aA6,z.mono (aAw hb _),fun k hk=>hz.2 k ((metT_mem l k).mp hk),Nat.lt_of_le_of_lt (metT_le l) hz.1,fun r vs hr' tv=> ?_⟩⟩
    have sm:=(e1.trans (aAw hb (.ext (fT b es ep t)))).trans (aAw hr' (.lst vs))
    refine q1 _ _ sm (.lst (SqL.of aA6) ?_)
    refine tups_isl (Paired.mapP tv fun v ks ⟨p,a1,a2⟩=>⟨p,a1,aAw hr' (.lst vs) _ _ a2⟩)
   ·exact False.elim q1
  ·exact False.elim q1
 | _=>exact False.elim q1
structure SizeT (es:Array (Int×Value)) (t:SetTable) (n:Nat):Prop where
 fits:t.fits es.size=true
 size:es.size=n
 few:n≤31
theorem call_lenN:CallR X (.builtin "len") (fun xs H Q=> ∃l es ep t n,xs=[.ref l]∧H l=some (.ext (fT l es ep t))∧SizeT es t n∧Q (.int n) H):=by
 intro pins s σ H xs us Q I r h
 obtain⟨l,es,ep,t,n,rfl,hl,z,q⟩:=h
 obtain⟨u,rfl,rx⟩:=vals1 r
 cases rx
 obtain⟨⟨o,ho,hex,hd⟩,_⟩:=(show aDs X.prog X.w H s.heap l (.ext _) from I.hok l _ hl)
 have hf:=z.few
 have hn:=z.size
 refine call_len_set ho hex hd z.fits (by omega) ⟨.int n,H,I.tok _,⟨_,by rw[hn]⟩,q⟩
noncomputable def rSubT (X:Cx):R2:=fun x y H Q=> ∃a b ea epa ta eb epb tb ts us,x= .ref a∧y= .ref b∧H a=some (.ext (fT a ea epa ta))∧H b=some (.ext (fT b eb epb tb))∧SeenT X.prog X.w H ea ta ts∧SeenT X.prog X.w H eb tb us∧ts.length≤15∧∀l es ep t,H l=none→SizeT es t (difT ts us).length→Q (.ref l) (upd H l (.ext (fT l es ep t)))
theorem op_subT {k:Nat} (hr:Room k X.A):OpR X (binaryOp .Sub) (rSubT X):=by
 intro pins s σ H x y v u Q I rx ry h
 obtain⟨a,b,ea,epa,ta,eb,epb,tb,ts,us,rfl,rfl,ha,hb,za,zb,hl,q⟩:=h
 cases rx
 cases ry
 obtain⟨fa',_⟩:=(show aDs X.prog X.w H s.heap a (.ext _) from I.hok a _ ha)
 obtain⟨fb',_⟩:=(show aDs X.prog X.w H s.heap b (.ext _) from I.hok b _ hb)
 have sa:=za.setT I.hok fa'
 have sb:=zb.setT I.hok fb'
 have ya:s.TypeIs (.ref a) "set":=by obtain⟨o,ho,hex,_⟩:=fa';exact⟨o,ho,hex.1⟩
 have yb:s.TypeIs (.ref b) "set":=by obtain⟨o,ho,hex,_⟩:=fb';exact⟨o,ho,hex.1⟩
 refine wpAny_binaryOp_same (op:= .Sub) ya yb F.fills_set_sub F.slot_set_sub (wpAny_call_entry F.slot_set_sub ya entry_set_sub (sub_tup (P:=TupV H) ?_ (fun v ⟨p,ks,h1,h2⟩=>⟨ks,p,h1,txt_key I.hok h2⟩) sa sb hl fun h' d o es ep t kp o1 o2 o3 o4 o5=> ?_) (F.args_set_sub_2 _ _))
 ·show X.A.units+1<cLine
  have:=hr.un
  omega
 ·have hle:(difT ts us).length≤31:=by
   have:=List.length_filter_le (fun k=> !us.contains k) ts
   unfold difT
   omega
  exact And.intro (fun z=>nomatch z) ⟨.ref _,_,(inv_drew I d).laid (t':=s.toks) kp (Nat.le_refl _) (fT_ext (a:=s.heap.objs.size) (es:=es) (ep:=ep) (t:=t) ⟨o,o1,o2,o3⟩),rfl,q _ es ep t (I.hok.fresh (Nat.le_refl _)) ⟨o4,o5,hle⟩⟩
noncomputable def tupsOf:D→Option (List (List Str))
 | .lst ds=>tupsL ds
 | .tup ds=>tupsL ds
 | _=>none
theorem tupsOf_row {K:PySem.W.Frag} {H:Hp} {d:D} {v:V} {l:List (List Str)} (h:tupsOf d=some l) (i:Is K H d v): ∃p ys,v= .ref p∧(SqL K H p ys∨SqT K H p ys)∧TupL H ys l:=by
 cases i with
 | lst hh rr=>
  have e:=tupsL_eq _ (show tupsL _=some l from h)
  subst e
  exact⟨_,_,rfl,.inl hh,isl_tups rr⟩
 | tup hh rr=>
  have e:=tupsL_eq _ (show tupsL _=some l from h)
  subst e
  exact⟨_,_,rfl,.inr hh.sq,isl_tups rr⟩
 | _=>cases h
noncomputable def subLen (fa fb:Rho→M D):Rho→M D:=fun ρ=>bnd (fa ρ) fun d=>match tupsOf d with
 | some l=>if l.length≤15 then bnd (fb ρ) fun d2=>(match tupsOf d2 with
  | some l2=>if l2.length<18 then ok (.int (difT (metT l) (metT l2)).length) else none
  | none=>none) else none
 | none=>none
theorem pd_lenSub {k:Nat} {pos4:Pos} (hr:Room k X.A) (hg:Gl X "len") (hm:X.mg "len"=none) (hg2:Gl X "set") (hm2:X.mg "set"=none) (ha:PD X B e fa) (hb:PD X B e2 fb) (hs:aD0 e=true:=by rfl) (hs2:aD0 e2=true:=by rfl):
  PD X B (.Call (.Name "len" p) [.BinOp (.Call (.Name "set" p2) [e] [] pos2) .Sub (.Call (.Name "set" p3) [e2] [] pos3) pos4] [] pos) (subLen fa fb):=by
 refine PE.of (pe_callB call_lenN hg hm PySem.boot_len (aCh (pe_op (op_subT hr) (pe_callTy (call_setR hr) hg2 hm2 boot_set (aCh ha aD9 (aBg hs)) (he:=aBg hs) (hpl:=by rfl)) (pe_callTy (call_setR hr) hg2 hm2 boot_set (aCh hb aD9 (aBg hs2)) (he:=aBg hs2) (hpl:=by rfl))) aD9 (by rfl)) (he:=by rfl) (hpl:=by rfl)) fun σ H Q h=> ?_
 obtain⟨ρ,r1,h⟩:=h
 refine⟨ρ,r1,(Res.bind h).imp fun d h1 v H1 e1 i1=> ?_⟩
 split at h1
 ·rename_i l hx
  split at h1
  ·rename_i hz
   obtain⟨pp,ys,rfl,hq,tl⟩:=tupsOf_row hx i1
   refine⟨pp,ys,l,rfl,hq,tl,by omega,fun b es ep t hb' z=> ?_⟩
   have s1:=aAw hb' (.ext (fT b es ep t))
   refine⟨ρ,r1.mono (e1.trans s1),(Res.bind h1).mono (e1.trans s1) fun d2 h2 v2 H2 e2' i2=> ?_⟩
   split at h2
   ·rename_i l2 hx2
    split at h2
    ·rename_i hz2
     obtain⟨pp2,ys2,rfl,hq2,tl2⟩:=tupsOf_row hx2 i2
     refine⟨pp2,ys2,l2,rfl,hq2,tl2,hz2,fun b2 es2 ep2 t2 hb2 z2=> ?_⟩
     have s2:=aAw hb2 (.ext (fT b2 es2 ep2 t2))
     have hl15:(metT l).length≤15:=Nat.le_trans (metT_le l) hz
     refine⟨b,b2,es,ep,t,es2,ep2,t2,metT l,metT l2,rfl,rfl,s2 _ _ (e2' _ _ aA6),aA6,(z.mono s1).mono (e2'.trans s2),z2.mono s2,hl15,fun b3 es3 ep3 t3 hb3 z3=> ?_⟩
     have s3:=aAw hb3 (.ext (fT b3 es3 ep3 t3))
     exact⟨b3,es3,ep3,t3,_,rfl,aA6,z3,h2 _ _ (((e1.trans s1).trans e2').trans (s2.trans s3)) (.int _)⟩
    ·exact False.elim h2
   ·exact False.elim h2
  ·exact False.elim h1
 ·exact False.elim h1
end
theorem txt_key2 {P:Program} {w:World} {prog:Program} {w':World} {H:Hp} {h:Heap} {a:Addr} {ks:List Str} (ok:HOk P w H h) (e:H a=some (.tup (ks.map V.str))):IsTupleKey (PySem.strKind prog w') h ks a:=by
 obtain⟨_,its,r,o,h1,h2,⟨n,h3⟩,_⟩:=(show aDs P w H h a (.tup (ks.map V.str)) from ok a _ e)
 exact⟨o,its.toArray,n,h1,h2,h3,by simpa using items_txt r⟩
noncomputable def eqK (H:Hp) (k:List Str):Value→Bool
 | .ref p=>match H p with | some (.tup vs)=>decide (vs=k.map V.str) | _=>false
 | _=>false
theorem eqK_at {H:Hp} {k ks:List Str} {p:Addr} (e:H p=some (.tup (ks.map V.str))):eqK H k (.ref p)=decide (ks=k):=by
 have e1:eqK H k (.ref p)=(match H p with | some (.tup vs)=>decide (vs=k.map V.str) | _=>false):=rfl
 rw[e1,e]
 show decide (ks.map V.str=k.map V.str)=_
 by_cases h:ks=k
 ·subst h;rw[decide_eq_true rfl,decide_eq_true rfl]
 ·rw[decide_eq_false h,decide_eq_false fun q=>h (str_inj q)]
section
variable {X:Cx} {B:Hp} {a b:Expr} {fa fb:Rho→M D} {pos:Pos}
theorem any_eqK {H:Hp} {k:List Str}: ∀{ys:List V} {l:List (List Str)} {its:List Value},TupL H ys l→Vals ys its→its.any (eqK H k)=l.contains k
 | _,_,_,.nil,r=>by cases r;rfl
 | _,_,_,.cons ⟨p,e1,e2⟩ t,r=>by
  subst e1
  cases r with
  | cons r1 r2=>
   have e3:_=Value.ref p:=r1
   subst e3
   rw[List.any_cons,any_eqK t r2,eqK_at e2,List.contains_cons]
   congr 1
   rw[Bool.eq_iff_iff,decide_eq_true_eq,beq_iff_eq]
   exact⟨fun h=>h.symm,fun h=>h.symm⟩
theorem eqK_all {A:Around} {s:Shared} {P:Program} {w:World} {H:Hp} {k:List Str} {q:Addr} (hu:A.units<cLine) (ok:HOk P w H s.heap) (hq:H q=some (.tup (k.map V.str))): ∀{ys:List V} {l:List (List Str)} {its:List Value},TupL H ys l→Vals ys its→∀v∈its,SeqAt.EqAt A s v (.ref q) (eqK H k v)
 | _,_,_,.nil,r=>by cases r;exact fun v hv=>by cases hv
 | _,_,_,.cons ⟨p,e1,e2⟩ t,r=>by
  subst e1
  cases r with
  | cons r1 r2=>
   have e3:_=Value.ref p:=r1
   subst e3
   intro v hv
   rcases List.mem_cons.mp hv with rfl | hv
   ·rw[eqK_at e2]
    intro prog w' E Q h
    exact wpAny_eqBool_tuple (knd:=PySem.strKind prog w') hu (txt_key2 ok e2) (txt_key2 ok hq) h
   ·exact eqK_all hu ok hq t r2 v hv
noncomputable def rInT (X:Cx) (neg:Bool):R2:=fun x y H Q=> ∃q k p ys l,x= .ref q∧H q=some (.tup ((k:List Str).map V.str))∧y= .ref p∧(SqL X.K H p ys∨SqT X.K H p ys)∧TupL H ys l∧Q (.bl (if neg then !l.contains k else l.contains k)) H
theorem op_inT {k:Nat} (hr:Room k X.A):OpR X (compareOp .In) (rInT X false):=by
 intro pins s σ H x y v u Q I rx ry h
 obtain⟨q,k,p,ys,l,rfl,hq,rfl,hs,tl,qq⟩:=h
 cases rx
 cases ry
 have hu:X.A.in1.units<cLine:=by
  show X.A.units+1<cLine
  have:=hr.un
  omega
 rcases hs with hs | hs
 ·obtain⟨its,r,pl,hz⟩:=I.list hs
  refine SeqAt.in_listAt (eqK H k) pl.isList (fun w hw=>eqK_all hu I.hok hq tl r w (by simpa using hw)) ⟨.bl _,H,I,rfl,?_⟩
  rw[show its.toArray.any (eqK H k)=its.any (eqK H k) by simp,any_eqK tl r]
  exact qq
 ·obtain⟨its,r,pl,hz⟩:=I.tuple hs
  refine SeqAt.in_tupleAt (eqK H k) pl (fun w hw=>eqK_all hu I.hok hq tl r w (by simpa using hw)) ⟨.bl _,H,I,rfl,?_⟩
  rw[show its.toArray.any (eqK H k)=its.any (eqK H k) by simp,any_eqK tl r]
  exact qq
theorem op_notInT {k:Nat} (hr:Room k X.A):OpR X (compareOp .NotIn) (rInT X true):=by
 intro pins s σ H x y v u Q I rx ry h
 obtain⟨q,k,p,ys,l,rfl,hq,rfl,hs,tl,qq⟩:=h
 cases rx
 cases ry
 have hu:X.A.in1.units<cLine:=by
  show X.A.units+1<cLine
  have:=hr.un
  omega
 rcases hs with hs | hs
 ·obtain⟨its,r,pl,hz⟩:=I.list hs
  refine SeqAt.notIn_listAt (eqK H k) pl.isList (fun w hw=>eqK_all hu I.hok hq tl r w (by simpa using hw)) ⟨.bl _,H,I,rfl,?_⟩
  rw[show its.toArray.any (eqK H k)=its.any (eqK H k) by simp,any_eqK tl r]
  exact qq
 ·obtain⟨its,r,pl,hz⟩:=I.tuple hs
  refine SeqAt.notIn_tupleAt (eqK H k) pl (fun w hw=>eqK_all hu I.hok hq tl r w (by simpa using hw)) ⟨.bl _,H,I,rfl,?_⟩
  rw[show its.toArray.any (eqK H k)=its.any (eqK H k) by simp,any_eqK tl r]
  exact qq
noncomputable def gInT (neg:Bool) (x y:D):M D:=match x,tupsOf y with
 | .tup ds,some l=>(match strL ds with
  | some k=>ok (.bl (if neg then !l.contains k else l.contains k))
  | none=>none)
 | _,_=>none
theorem inT_noerr (neg:Bool):NoErr (gInT neg):=by
 intro x y c h
 unfold gInT at h
 (repeat' split at h)<;>cases h
theorem r_inT (neg:Bool):R2ok X (rInT X neg) (gInT neg):=by
 intro H x y dx dy d Q ix iy e q
 unfold gInT at e
 split at e
 ·rename_i ds l hl
  split at e
  ·rename_i k hk
   cases e
   obtain⟨p,ys,rfl,hs,tl⟩:=tupsOf_row hl iy
   have ed:=aDi _ hk
   subst ed
   cases ix with
   | tup hh rr=>
    rw[aD1 rr] at hh
    exact⟨_,k,p,ys,l,rfl,hh,rfl,hs,tl,q _ H (Same.refl H) (.bl _)⟩
  ·cases e
 ·cases e
theorem pdt_inT {k:Nat} (hr:Room k X.A) (ha:PD X B a fa) (hb:PD X B b fb) (hm:behindInMarks .In b=false:=by rfl):PDT X B (.Compare a [.In] [b] pos) (aAt (b2 (gInT false) fa fb)):=aEc (op_inT hr) (r_inT false) (inT_noerr false) ha hb hm
theorem pdt_notinT {k:Nat} (hr:Room k X.A) (ha:PD X B a fa) (hb:PD X B b fb) (hm:behindInMarks .NotIn b=false:=by rfl):PDT X B (.Compare a [.NotIn] [b] pos) (aAt (b2 (gInT true) fa fb)):=aEc (op_notInT hr) (r_inT true) (inT_noerr true) ha hb hm
end
theorem eqS_at {A:Around} {s:Shared} {x y:Str} {t u:Tok}:SeqAt.EqAt A s (.str x t) (.str y u) (decide (x=y)):=fun prog w E Q h=>
 (PySem.strKind prog w).eqBool (by simp[PySem.strKind,Value.isStrOf]) (by simp[PySem.strKind,Value.isStrOf]) h
theorem all_range {xs ys:List Str} (h:xs.length=ys.length):(List.range xs.length).all (fun j=>decide (xs.getD j Str.empty=ys.getD j Str.empty))=decide (xs=ys):=by
 rw[Bool.eq_iff_iff,List.all_eq_true,decide_eq_true_eq]
 constructor
 ·intro q
  apply List.ext_getElem h
  intro i h1 h2
  have:=q i (List.mem_range.mpr h1)
  simpa[h1,h2] using this
 ·rintro rfl i _
  simp
section
variable {X:Cx} {B:Hp} {a b:Expr} {fa fb:Rho→M D} {pos:Pos}
theorem strs_get {xs:List Str} {its:List Value} (r:Vals (xs.map V.str) its) {j:Nat} (h1:j<its.toArray.size): ∃t,its.toArray[j]=Value.str (xs.getD j Str.empty) t:=by
 have hl:its.length=xs.length:=by rw[←Paired.len r,List.length_map]
 have h2:j<its.length:=by simpa using h1
 obtain⟨v,g1,g2⟩:=Paired.at r (show (xs.map V.str)[j]? =some (V.str (xs.getD j Str.empty)) from by rw[List.getElem?_map,List.getElem?_eq_getElem (by omega),List.getD_eq_getElem?_getD,List.getElem?_eq_getElem (by omega)];rfl)
 obtain⟨t,e⟩:=g2
 rw[List.getElem?_eq_getElem h2] at g1
 cases g1
 exact⟨t,by simpa using e⟩
noncomputable def rEqS (K:PySem.W.Frag):R2:=fun x y H Q=> ∃a b xs ys,x= .ref a∧y= .ref b∧((SqL K H a ((xs:List Str).map V.str)∧SqL K H b ((ys:List Str).map V.str))∨(SqT K H a (xs.map V.str)∧SqT K H b (ys.map V.str)))∧Q (.bl (decide (xs=ys))) H
theorem op_eqS (hu:X.A.units<cLine):OpR X (compareOp .Eq) (rEqS X.K):=by
 intro pins s σ H x y v u Q I rx ry h
 obtain⟨a,b,xs,ys,rfl,rfl,hh,q⟩:=h
 cases rx
 cases ry
 rcases hh with⟨ha,hb⟩ |⟨ha,hb⟩
 ·obtain⟨its,r1,p1,_⟩:=I.list ha
  obtain⟨jts,r2,p2,_⟩:=I.list hb
  have l1:its.length=xs.length:=by rw[←Paired.len r1,List.length_map]
  have l2:jts.length=ys.length:=by rw[←Paired.len r2,List.length_map]
  by_cases hl:xs.length=ys.length
  ·refine PySem.SeqAt.eq_listAt (e:=fun j=>decide (xs.getD j Str.empty=ys.getD j Str.empty)) p1.isList p2.isList (by simp;omega) hu (fun j h1 h2=> ?_) ⟨.bl _,H,I,rfl,?_⟩
   ·obtain⟨t,e1⟩:=strs_get r1 h1
    obtain⟨t2,e2⟩:=strs_get r2 h2
    rw[e1,e2]
    exact eqS_at
   ·rw[List.size_toArray,l1,all_range hl]
    exact q
  ·refine PySem.SeqAt.eq_list_lengthsAt p1.isList p2.isList (by simp;omega) hu ⟨.bl _,H,I,rfl,?_⟩
   rw[decide_eq_false (fun e=>hl (by rw[e]))] at q
   exact q
 ·obtain⟨its,r1,p1,_⟩:=I.tuple ha
  obtain⟨jts,r2,p2,_⟩:=I.tuple hb
  have l1:its.length=xs.length:=by rw[←Paired.len r1,List.length_map]
  have l2:jts.length=ys.length:=by rw[←Paired.len r2,List.length_map]
  refine PySem.SeqAt.eq_tupleAt (e:=fun j=>decide (xs.getD j Str.empty=ys.getD j Str.empty)) p1 p2 hu (fun j h1 h2=> ?_) ⟨.bl (decide (xs=ys)),H,I,?_,q⟩
  ·obtain⟨t,e1⟩:=strs_get r1 h1
   obtain⟨t2,e2⟩:=strs_get r2 h2
   rw[e1,e2]
   exact eqS_at
  ·show Value.bool _=Value.bool _
   congr 1
   rw[List.size_toArray,List.size_toArray,l1,l2]
   by_cases hl:xs.length=ys.length
   ·rw[←hl,Nat.min_self,all_range hl];simp
   ·have:(xs.length==ys.length)=false:=by simpa using hl
    rw[this,Bool.and_false,decide_eq_false (fun e=>hl (by rw[e]))]
noncomputable def gEqS:D→D→M D
 | .lst xs,.lst ys=>match strL xs,strL ys with | some x,some y=>ok (.bl (decide (x=y))) | _,_=>none
 | .tup xs,.tup ys=>match strL xs,strL ys with | some x,some y=>ok (.bl (decide (x=y))) | _,_=>none
 | _,_=>none
theorem n_eqS:NoErr gEqS:=by
 intro x y c h
 unfold gEqS at h
 (repeat' split at h)<;>cases h
theorem r_eqS:R2ok X (rEqS X.K) gEqS:=by
 intro H x y dx dy d Q ix iy e q
 unfold gEqS at e
 split at e
 ·split at e
  ·rename_i x' y' h1 h2
   cases e
   cases ix with
   | lst g1 r1=>
    cases iy with
    | lst g2 r2=>
     have e1:=aDi _ h1
     have e2:=aDi _ h2
     subst e1 e2
     rw[aD1 r1] at g1
     rw[aD1 r2] at g2
     exact⟨_,_,x',y',rfl,rfl,.inl ⟨g1,g2⟩,q _ H (Same.refl H) (.bl _)⟩
  ·cases e
 ·split at e
  ·rename_i x' y' h1 h2
   cases e
   cases ix with
   | tup g1 r1=>
    cases iy with
    | tup g2 r2=>
     have e1:=aDi _ h1
     have e2:=aDi _ h2
     subst e1 e2
     rw[aD1 r1] at g1
     rw[aD1 r2] at g2
     exact⟨_,_,x',y',rfl,rfl,.inr ⟨TQ.sq g1,TQ.sq g2⟩,q _ H (Same.refl H) (.bl _)⟩
  ·cases e
 ·cases e
theorem pd_eqS {k:Nat} (hr:Room k X.A) (ha:PD X B a fa) (hb:PD X B b fb):PD X B (.Compare a [.Eq] [b] pos) (b2 gEqS fa fb):=pd_cmp (op_eqS hr.units0) r_eqS n_eqS ha hb (nomark _)
theorem pdt_eqS {k:Nat} (hr:Room k X.A) (ha:PD X B a fa) (hb:PD X B b fb):PDT X B (.Compare a [.Eq] [b] pos) (aAt (b2 gEqS fa fb)):=aEc (op_eqS hr.units0) r_eqS n_eqS ha hb (nomark _)
end
theorem eqv_strs: ∀xs ys:List Str,PySem.Spec.sameAll (xs.map PyData.str) (ys.map PyData.str)=decide (xs=ys)
 | [],[]=>by simp[PySem.Spec.sameAll]
 | [],_::_=>by simp[PySem.Spec.sameAll]
 | _::_,[]=>by simp[PySem.Spec.sameAll]
 | a::r,b::t=>by
  simp only[List.map_cons,PySem.Spec.sameAll,PySem.Spec.same,eqv_strs r t]
  by_cases h:a=b<;>by_cases h':r=t<;>simp[h,h']
theorem lay_strs: ∀xs:List Str,xs.all PyData.strOk=true→PyData.canLayAll0 (xs.map PyData.str)=true
 | [],_=>rfl
 | x::r,h=>by
  rw[List.all_cons,Bool.and_eq_true] at h
  simp[PyData.canLayAll0,PyData.canLay0,lay_strs r h.2,h.1]
theorem depth_strs: ∀xs:List Str,PyData.depthAll (xs.map PyData.str)=0
 | []=>rfl
 | _::r=>by simp[PyData.depthAll,PyData.depth,depth_strs r]
theorem shaped_tS {xs:List Str} (h:xs.all PyData.strOk=true):SeqAt.shaped (.tuple (xs.map PyData.str))=true:=by
 simp[SeqAt.shaped,PyData.canLay0,PyData.depth,lay_strs xs h,depth_strs]
theorem shaped_lS {xs:List Str} (h:xs.all PyData.strOk=true):SeqAt.shaped (.list (xs.map PyData.str))=true:=by
 simp[SeqAt.shaped,PyData.canLay0,PyData.depth,lay_strs xs h,depth_strs]
theorem reads_strs {h:Heap}: ∀{xs:List Str} {its:List Value},Vals (xs.map V.str) its→ReadsAll h its (xs.map PyData.str) []
 | [],_,r=>by cases r;exact .nil
 | x::xs,_,r=>by
  cases r with
  | cons r1 r2=>
   obtain⟨t,rfl⟩:=r1
   exact readsAll_cons_val (.str _ _) (reads_strs r2)
section
variable {X:Cx} {B:Hp} {a b:Expr} {fa fb:Rho→M D} {pos:Pos}
noncomputable def rNeS (K:PySem.W.Frag):R2:=fun x y H Q=> ∃a b xs ys,x= .ref a∧y= .ref b∧((SqL K H a ((xs:List Str).map V.str)∧SqL K H b ((ys:List Str).map V.str))∨(SqT K H a (xs.map V.str)∧SqT K H b (ys.map V.str)))∧xs.all PyData.strOk=true∧ys.all PyData.strOk=true∧Q (.bl (!decide (xs=ys))) H
theorem op_neS {k:Nat} (hr:Room k X.A):OpR X (compareOp .NotEq) (rNeS X.K):=by
 intro pins s σ H x y v u Q I rx ry h
 obtain⟨a,b,xs,ys,rfl,rfl,hh,o1,o2,q⟩:=h
 cases rx
 cases ry
 have hu:X.A.units+64<cLine:=by have:=hr.un;omega
 rcases hh with⟨ha,hb⟩ |⟨ha,hb⟩
 ·obtain⟨its,r1,⟨_,n1,g1,g2,_,g3⟩,_⟩:=I.list ha
  obtain⟨jts,r2,⟨_,n2,g4,g5,_,g6⟩,_⟩:=I.list hb
  refine ne_dataH_same (reads_list_at g1 g2 g3 (reads_strs r1)) (reads_list_at g4 g5 g6 (reads_strs r2)) (shaped_lS o1) (shaped_lS o2) hu (SeqAt.noMix_of_shape (.list .str) rfl _ _ (list_map_has fun _=>rfl) (list_map_has fun _=>rfl)) ⟨.bl _,H,I,rfl,?_⟩
  rw[show PySem.Spec.same (.list (xs.map PyData.str)) (.list (ys.map PyData.str))=decide (xs=ys) by simp only[PySem.Spec.same];exact eqv_strs xs ys]
  exact q
 ·obtain⟨its,r1,⟨_,g1,g2,n1,g3⟩,_⟩:=I.tuple ha
  obtain⟨jts,r2,⟨_,g4,g5,n2,g6⟩,_⟩:=I.tuple hb
  refine ne_dataH_same (reads_tuple_at g1 g2 g3 (reads_strs r1)) (reads_tuple_at g4 g5 g6 (reads_strs r2)) (shaped_tS o1) (shaped_tS o2) hu ?_ ⟨.bl _,H,I,rfl,?_⟩
  ·exact SeqAt.noMix_of_shape (.tuples .str) rfl _ _ (tuples_map_has fun _=>rfl) (tuples_map_has fun _=>rfl)
  ·rw[show PySem.Spec.same (.tuple (xs.map PyData.str)) (.tuple (ys.map PyData.str))=decide (xs=ys) by simp only[PySem.Spec.same];exact eqv_strs xs ys]
   exact q
noncomputable def gNeS:D→D→M D
 | .lst xs,.lst ys=>match strL xs,strL ys with | some x,some y=>if x.all PyData.strOk=true∧y.all PyData.strOk=true then ok (.bl (!decide (x=y))) else none | _,_=>none
 | .tup xs,.tup ys=>match strL xs,strL ys with | some x,some y=>if x.all PyData.strOk=true∧y.all PyData.strOk=true then ok (.bl (!decide (x=y))) else none | _,_=>none
 | _,_=>none
theorem n_neS:NoErr gNeS:=by
 intro x y c h
 unfold gNeS at h
 (repeat' split at h)<;>cases h
theorem r_neS:R2ok X (rNeS X.K) gNeS:=by
 intro H x y dx dy d Q ix iy e q
 unfold gNeS at e
 split at e
 ·split at e
  ·rename_i x' y' h1 h2
   split at e
   ·rename_i ho
    cases e
    cases ix with
    | lst g1 r1=>
     cases iy with
     | lst g2 r2=>
      have e1:=aDi _ h1
      have e2:=aDi _ h2
      subst e1 e2
      rw[aD1 r1] at g1
      rw[aD1 r2] at g2
      exact⟨_,_,x',y',rfl,rfl,.inl ⟨g1,g2⟩,ho.1,ho.2,q _ H (Same.refl H) (.bl _)⟩
   ·cases e
  ·cases e
 ·split at e
  ·rename_i x' y' h1 h2
   split at e
   ·rename_i ho
    cases e
    cases ix with
    | tup g1 r1=>
     cases iy with
     | tup g2 r2=>
      have e1:=aDi _ h1
      have e2:=aDi _ h2
      subst e1 e2
      rw[aD1 r1] at g1
      rw[aD1 r2] at g2
      exact⟨_,_,x',y',rfl,rfl,.inr ⟨TQ.sq g1,TQ.sq g2⟩,ho.1,ho.2,q _ H (Same.refl H) (.bl _)⟩
   ·cases e
  ·cases e
 ·cases e
theorem pdt_neS {k:Nat} (hr:Room k X.A) (ha:PD X B a fa) (hb:PD X B b fb):PDT X B (.Compare a [.NotEq] [b] pos) (aAt (b2 gNeS fa fb)):=aEc (op_neS hr) r_neS n_neS ha hb (nomark _)
end
section
variable {X:Cx} {B:Hp} {a b:Expr} {fa fb:Rho→M D} {pos:Pos}
noncomputable def gEqNilL:D→D→M D
 | .lst ds,.lst []=>ok (.bl ds.isEmpty)
 | _,_=>none
theorem n_eqnilL:NoErr gEqNilL:=by
 intro x y c h
 unfold gEqNilL at h
 split at h<;>cases h
noncomputable def rEqNilL (K:PySem.W.Frag):R2:=fun x y H Q=> ∃a b xs,x= .ref a∧y= .ref b∧SqL K H a xs∧SqL K H b []∧Q (.bl xs.isEmpty) H
theorem op_eqnilL (hu:X.A.units<cLine):OpR X (compareOp .Eq) (rEqNilL X.K):=by
 intro pins s σ H x y v u Q I rx ry h
 obtain⟨a,b,xs,rfl,rfl,ha,hb,q⟩:=h
 cases rx
 cases ry
 obtain⟨its,r1,p1,_⟩:=I.list ha
 obtain⟨its2,r2,p2,_⟩:=I.list hb
 have e2:its2=[]:=r2.nil_iff.mpr rfl
 subst e2
 cases xs with
 | nil=>
  cases r1
  exact PySem.SeqAt.eq_listAt (e:=fun _=>true) p1.isList p2.isList rfl hu (fun j h1 h2=>by simp at h2) ⟨.bl true,H,I,rfl,q⟩
 | cons x xs=>
  have hl:=Paired.len r1
  refine PySem.SeqAt.eq_list_lengthsAt p1.isList p2.isList ?_ hu ⟨.bl false,H,I,rfl,q⟩
  cases r1
  simp
theorem r_eqnilL:R2ok X (rEqNilL X.K) gEqNilL:=by
 intro H x y dx dy d Q ix iy e q
 unfold gEqNilL at e
 split at e
 ·rename_i ds
  cases e
  cases ix with
  | lst h1 r1=>
   cases iy with
   | lst h2 r2=>
    cases r2
    exact⟨_,_,_,rfl,rfl,h1,h2,by rw[isEmpty_isL r1];exact q _ H (Same.refl H) (.bl _)⟩
 ·cases e
theorem pdt_eqnilL {k:Nat} (hr:Room k X.A) (ha:PD X B a fa) (hb:PD X B b fb):PDT X B (.Compare a [.Eq] [b] pos) (aAt (b2 gEqNilL fa fb)):=aEc (op_eqnilL hr.units0) r_eqnilL n_eqnilL ha hb (nomark _)
noncomputable def gNeNil:D→D→M D
 | .tup ds,.tup []=>ok (.bl (!ds.isEmpty))
 | _,_=>none
theorem n_nenil:NoErr gNeNil:=by
 intro x y c h
 unfold gNeNil at h
 split at h<;>cases h
noncomputable def rNeNil (K:PySem.W.Frag):R2:=fun x y H Q=> ∃a b xs,x= .ref a∧y= .ref b∧SqT K H a xs∧SqT K H b []∧Q (.bl (!xs.isEmpty)) H
theorem op_nenil (hu:X.A.units<cLine):OpR X (compareOp .NotEq) (rNeNil X.K):=by
 intro pins s σ H x y v u Q I rx ry h
 obtain⟨a,b,xs,rfl,rfl,ha,hb,q⟩:=h
 cases rx
 cases ry
 obtain⟨its,r1,p1,_⟩:=I.tuple ha
 obtain⟨its2,r2,p2,_⟩:=I.tuple hb
 have e2:its2=[]:=r2.nil_iff.mpr rfl
 subst e2
 refine ne_tup_nil p1 p2 hu ⟨.bl (!xs.isEmpty),H,I,?_,q⟩
 cases xs with
 | nil=>cases r1;rfl
 | cons x xs=>cases r1;rfl
theorem r_nenil:R2ok X (rNeNil X.K) gNeNil:=by
 intro H x y dx dy d Q ix iy e q
 unfold gNeNil at e
 split at e
 ·rename_i ds
  cases e
  cases ix with
  | tup h1 r1=>
   cases iy with
   | tup h2 r2=>
    cases r2
    exact⟨_,_,_,rfl,rfl,h1.sq,h2.sq,by rw[isEmpty_isL r1];exact q _ H (Same.refl H) (.bl _)⟩
 ·cases e
theorem pdt_nenil {k:Nat} (hr:Room k X.A) (ha:PD X B a fa) (hb:PD X B b fb):PDT X B (.Compare a [.NotEq] [b] pos) (aAt (b2 gNeNil fa fb)):=aEc (op_nenil hr.units0) r_nenil n_nenil ha hb (nomark _)
end
section
variable {X:Cx} {B:Hp} {e:Expr} {fa:Rho→M D} {pos p p2 pos2:Pos}
noncomputable def lenSU:D→M D
 | .lst ds=>match strL ds with | some xs=>if xs.length≤2000 then ok (.int (metS xs).length) else none | none=>lenST (.lst ds)
 | .tup ds=>match strL ds with | some xs=>if xs.length≤2000 then ok (.int (metS xs).length) else none | none=>lenST (.tup ds)
 | _=>none
theorem pd_lenSU {k:Nat} (hr:Room k X.A) (hc:X.calm=true) (hg:Gl X "len") (hm:X.mg "len"=none) (hg2:Gl X "set") (hm2:X.mg "set"=none) (ha:PD X B e fa) (hs:aD0 e=true:=by rfl):PD X B (.Call (.Name "len" p) [.Call (.Name "set" p2) [e] [] pos2] [] pos) (f1 lenSU fa):=by
 refine PE.of (pe_callB (CallR.or call_lenS call_lenT) hg hm PySem.boot_len (aCh (pe_callTy (CallR.or (call_setS hc) (call_setR hr)) hg2 hm2 boot_set (aCh ha aD9 (aBg hs)) (he:=aBg hs) (hpl:=by rfl)) aD9 (by rfl)) (he:=by rfl) (hpl:=by rfl)) fun σ H Q h=> ?_
 obtain⟨ρ,r1,h⟩:=h
 refine⟨ρ,r1,(Res.bind h).imp fun d q1 v H1 e1 i1=> ?_⟩
 cases i1 with
 | lst hh rr=>
  dsimp only[lenSU] at q1
  split at q1
  ·rename_i xs hx
   have ed:=aDi _ hx
   subst ed
   split at q1
   ·rename_i hz
    exact .inl ⟨_,_,xs,rfl,.inl hh,rr,hz,fun l hl=> .inl ⟨l,_,_,rfl,aA6,q1 _ _ (e1.trans (aAw hl _)) (.int _)⟩⟩
   ·exact False.elim q1
  ·dsimp only[lenST] at q1
   split at q1
   ·rename_i l hx
    have ed:=tupsL_eq _ hx
    subst ed
    split at q1
    ·rename_i hz
     exact .inr ⟨_,_,l,rfl,.inl hh,isl_tups rr,hz,fun b es ep t hb z=> .inr ⟨b,es,ep,t,metT l,rfl,aA6,z.mono (aAw hb _),q1 _ _ (e1.trans (aAw hb _)) (.int _)⟩⟩
    ·exact False.elim q1
   ·exact False.elim q1
 | tup hh rr=>
  dsimp only[lenSU] at q1
  split at q1
  ·rename_i xs hx
   have ed:=aDi _ hx
   subst ed
   split at q1
   ·rename_i hz
    exact .inl ⟨_,_,xs,rfl,.inr hh.sq,rr,hz,fun l hl=> .inl ⟨l,_,_,rfl,aA6,q1 _ _ (e1.trans (aAw hl _)) (.int _)⟩⟩
   ·exact False.elim q1
  ·dsimp only[lenST] at q1
   split at q1
   ·rename_i l hx
    have ed:=tupsL_eq _ hx
    subst ed
    split at q1
    ·rename_i hz
     exact .inr ⟨_,_,l,rfl,.inr hh.sq,isl_tups rr,hz,fun b es ep t hb z=> .inr ⟨b,es,ep,t,metT l,rfl,aA6,z.mono (aAw hb _),q1 _ _ (e1.trans (aAw hb _)) (.int _)⟩⟩
    ·exact False.elim q1
   ·exact False.elim q1
 | _=>exact False.elim q1
end
noncomputable def shOnly:Option SV→Bool
 | none=>true
 | some (.sh _)=>true
 | some (.tk _)=>true
 | _=>false
noncomputable def noOwn (i:Nat) (ρ:Rho):Bool:=(List.range ρ.length).all fun j=>j==i || shOnly ((ρ[j]?).getD none)
theorem noOwn_at {i:Nat} {ρ:Rho} (h:noOwn i ρ=true) {j:Nat} {sv:SV} (e:ρ[j]? =some (some sv)) (n:j≠i):(∃d,sv= .sh d)∨∃ks,sv= .tk ks:=by
 unfold noOwn at h
 rw[List.all_eq_true] at h
 have hj:j<ρ.length:=(List.getElem?_eq_some_iff.mp e).1
 have:=h j (List.mem_range.mpr hj)
 rw[e,Bool.or_eq_true] at this
 rcases this with q | q
 ·exact absurd (by simpa using q) n
 ·cases sv with
  | sh d=>exact .inl ⟨d,rfl⟩
  | tk ks=>exact .inr ⟨ks,rfl⟩
  | _=>cases q
noncomputable def noTxt:List D→Bool
 | []=>true
 | .lst _::_=>true
 | _=>false
noncomputable def sOwnL (i:Nat) (g:Rho→M (List D)):Rho→Option Out:=fun ρ=>match ρ[i]? with
 | some (some (.own ds))=>if noOwn i ρ=true∧noTxt ds=true∧ds.length<100000 then lft (g ρ) ρ fun d=>(match d with
  | [.lst es]=>(match strL es with
   | some (x::xs)=>some (.nx (ρ.set i (some (.own (ds++ [.lst ((x::xs).map D.str)])))))
   | _=>none)
  | _=>none) else none
 | _=>none
section
variable {X:Cx} {B:Hp} {e:Expr} {fa:Rho→M D} {pos p apos cpos:Pos} {x:Str} {i:Nat}
theorem pds_appendL (hN:X.N[i]? =some x) (hv:Vis X.env.scope x) (ha:PD X B e fa) (hs:aD0 e=true:=by rfl) (hline:(apos.endLine==cpos.line)=true:=by rfl)
  (hsw:swapsWith (.Call (.Attribute (.Name x p) "append" apos) [e] [] cpos) none pos.line X.env=pure false:=by rfl)
  (hd:(x==("__debug__":Str))=false:=by decide) (hcd:(x==("__classdict__":Str))=false:=by decide):
  PDS X B (.Expr (.Call (.Attribute (.Name x p) "append" apos) [e] [] cpos) pos) (sOwnL i (aAe fa aAs)):=by
 refine PS.of (ps_expr (pe_bm PySem.F.plainAttrs_list PySem.F.slot_list_append PySem.F.type_list_append mt_append (pe_var hN hv hd hcd) (aAb ha aAh (aBg hs)) (hbase:=rfl) (hfew:=by rw[star1 hs];rfl) (hline:=hline) (hs:=aBg hs) (hplain:=rfl)) hsw) fun E σ H h=> ?_
 obtain⟨ρ,r1,h⟩:=h
 unfold sOwnL at h
 split at h
 ·rename_i ds q
  split at h
  ·rename_i hc
   obtain⟨O,h1,ho,h2,hl,h3⟩:=(show Rel X.K B ρ σ H from r1)
   obtain⟨a,vs,z1,z2,z3,z4⟩:=h3 i _ q
   have r0:=r1
   refine⟨.ref a,z2,.inl ⟨rfl,_,SqL.of z3⟩,ρ,r1,(lft_red r1 h).imp fun as k1 us H1 e1 i1=> ?_⟩
   split at k1
   ·rename_i es
    split at k1
    ·rename_i x0 xs hx
     have ed:=aDi _ hx
     subst ed
     obtain⟨O',hO'⟩: ∃O':Nat→Option Addr,O'=fun j=>if j=i then O i else none:=⟨_,rfl⟩
     have oi:O' i=some a:=by rw[hO'];simp[z1]
     have oj: ∀j b,O' j=some b→j=i∧b=a:=fun j b q=>by
      rw[hO'] at q
      dsimp only at q
      by_cases hj:j=i
      ·subst hj;rw[if_pos rfl,z1] at q;cases q;exact⟨rfl,rfl⟩
      ·rw[if_neg hj] at q;cases q
     have sm: ∀(G:Hp),Same (Off G O) (Off G O'):=fun G b u q=>by
      have hn:=Off.not q
      refine Off.of ?_ fun j z=> ?_
      ·unfold Off at q
       split at q
       ·cases q
       ·exact q
      ·obtain⟨rfl,rfl⟩:=oj j b z
       exact hn j z1
     have z3':=e1 _ _ z3
     have z4':IsL X.K (Off H1 O') ds vs:=(z4.mono (Off.mono e1)).mono (sm H1)
     cases i1 with
     | cons iv rest=>
      cases rest
      cases iv with
      | lst hh rr=>
       rename_i l ws
       have ews:=aD1 rr
       subst ews
       have hla: ∀u,H1 l=some (.lst u)→u=(x0::xs).map V.str→l≠a:=fun u hu ue e=>by
        subst e
        rw[z3'] at hu
        cases hu
        subst ue
        have nt:=hc.2.1
        cases z4' with
        | cons i0 _=>
         cases i0<;>cases nt
       have sq:SqL X.K (Off H1 O') l ((x0::xs).map V.str):=by
        rcases hh with (hh |⟨ob,hh⟩) | hh
        ·refine .inl (.inl (Off.of hh fun j z=> ?_))
         obtain⟨_,rfl⟩:=oj j l z
         exact hla _ hh rfl rfl
        ·refine .inl (.inr ⟨ob,Off.of hh fun j z=> ?_⟩)
         obtain⟨_,rfl⟩:=oj j l z
         rw[z3'] at hh
         cases hh
        ·exact .inr hh
       have iv':IsL X.K (Off H1 O') (ds++ [.lst ((x0::xs).map D.str)]) (vs++ [.ref l]):=z4'.append (.cons (.lst sq (isl_str _)) .nil)
       have ho':OwnK H1 O':=fun j b q=>by
        obtain⟨rfl,rfl⟩:=oj j b q
        exact⟨_,z3',rfl⟩
       refine⟨a,vs,.ref l,rfl,rfl,z3',by rw[←z4.length];exact Nat.lt_of_lt_of_le hc.2.2 (by decide),?_⟩
       refine k1 _ _ (Rel.own_put O' (fun i1 j1 b q1 q2=>by rw[(oj i1 b q1).1,(oj j1 b q2).1]) ho' ((h2.trans (Off.mono e1)).trans (sm H1)) hl (fun j sv qj=> ?_) q oi z2 iv')
       by_cases hj:j=i
       ·subst hj
        rw[q] at qj
        cases qj
        exact⟨a,vs,oi,z2,z3',z4'⟩
       ·have sl:=(h3 j sv qj).mono e1
        rcases noOwn_at hc.1 qj hj with⟨d,rfl⟩ |⟨ks,rfl⟩
        ·obtain⟨v,w1,w2⟩:=sl
         exact⟨v,w1,w2.mono (sm H1)⟩
        ·obtain⟨b,w1,w2⟩:=sl
         exact⟨b,w1,sm H1 _ _ w2⟩
    ·exact False.elim k1
   ·exact False.elim k1
  ·exact False.elim h
 ·exact False.elim h
end
noncomputable def ownAt (ρ:Rho) (j:Nat):Bool:=match ρ[j]? with
 | some (some (.own _))=>true
 | some (some (.oin _ _ _ _))=>true
 | some (some (.ow _))=>true
 | _=>false
theorem Rel.tight {K:PySem.W.Frag} {H₀ H:Hp} {ρ:Rho} {σ:St} (r:Rel K H₀ ρ σ H): ∃O:Nat→Option Addr,(∀i j a,O i=some a→O j=some a→i=j)∧OwnK H O∧Same H₀ (Off H O)∧ρ.length=σ.length∧(∀i sv,ρ[i]? =some (some sv)→Slot K H O σ i sv)∧∀j a,O j=some a→ownAt ρ j=true:=by
 obtain⟨O,h1,ho,h2,hl,h3⟩:=r
 obtain⟨O',hO'⟩: ∃O':Nat→Option Addr,O'=fun j=>if ownAt ρ j=true then O j else none:=⟨_,rfl⟩
 have oj: ∀j a,O' j=some a→ownAt ρ j=true∧O j=some a:=fun j a q=>by
  rw[hO'] at q
  dsimp only at q
  by_cases hj:ownAt ρ j=true
  ·rw[if_pos hj] at q;exact⟨hj,q⟩
  ·rw[if_neg hj] at q;cases q
 have sm:Same (Off H O) (Off H O'):=Off.less fun j a q=>⟨j,(oj j a q).2⟩
 have oi: ∀j,ownAt ρ j=true→O' j=O j:=fun j hj=>by rw[hO'];exact if_pos hj
 refine⟨O',fun i j a p q=>h1 i j a (oj i a p).2 (oj j a q).2,fun i a q=>ho i a (oj i a q).2,h2.trans sm,hl,fun i sv q=> ?_,fun j a q=>(oj j a q).1⟩
 have z:=h3 i sv q
 cases sv with
 | sh d=>obtain⟨v,e1,e2⟩:=z;exact⟨v,e1,e2.mono sm⟩
 | own ds=>obtain⟨a,vs,e1,e2,e3,e4⟩:=z;exact⟨a,vs,(oi i (by unfold ownAt;rw[q])).trans e1,e2,e3,e4.mono sm⟩
 | oin a C dx fs=>obtain⟨e1,e2,e3,vs,e4,e5⟩:=z;exact⟨(oi i (by unfold ownAt;rw[q])).trans e1,e2,e3,vs,e4,e5.mono sm⟩
 | ow o=>obtain⟨a,w,e1,e2,e3,e4⟩:=z;exact⟨a,w,(oi i (by unfold ownAt;rw[q])).trans e1,e2,e3,e4.mono sm⟩
 | tk ks=>obtain⟨a,e1,e2⟩:=z;exact⟨a,e1,sm _ _ e2⟩
noncomputable def hdNe:List D→List D→Bool
 | .int _::_,.lst _::_=>true
 | _,_=>false
noncomputable def apL (ds:List D):Option SV→Bool
 | some (.own es)=>decide (ds.length≠es.length) || hdNe ds es
 | some (.oin _ _ _ _)=>false
 | some (.ow _)=>false
 | _=>true
noncomputable def ap:D→Rho→Bool
 | .lst ds,ρ=>immL ds&&ρ.all (apL ds)
 | _,_=>false
theorem Rel.apart {K:PySem.W.Frag} {H₀ H:Hp} {ρ:Rho} {σ:St} {d:D} {v:V} (r:Rel K H₀ ρ σ H) (iv:Is K H d v) (h:ap d ρ=true):
  ∃O:Nat→Option Addr,(∀i j a,O i=some a→O j=some a→i=j)∧OwnK H O∧Same H₀ (Off H O)∧ρ.length=σ.length∧(∀i sv,ρ[i]? =some (some sv)→Slot K H O σ i sv)∧Is K (Off H O) d v:=by
 obtain⟨O,h1,ho,h2,hl,h3,h4⟩:=r.tight
 refine⟨O,h1,ho,h2,hl,h3,?_⟩
 cases iv with
 | lst hh rr=>
  rename_i a ds vs
  rw[ap,Bool.and_eq_true,List.all_eq_true] at h
  have no: ∀u,H a=some u→(∀ws,u= .lst ws→ws=vs)→∀j,O j≠some a:=fun u hu hw j q=>by
   have hj:=h4 j a q
   unfold ownAt at hj
   split at hj
   ·rename_i es e
    obtain⟨b,ws,z1,z2,z3,z4⟩:=h3 j _ e
    rw[q] at z1
    cases z1
    rw[z3] at hu
    cases hu
    have:=hw _ rfl
    subst this
    have ha:=h.2 _ (List.mem_of_getElem? e)
    rw[apL,Bool.or_eq_true] at ha
    rcases ha with ha | ha
    ·have:=of_decide_eq_true ha
     rw[rr.length,z4.length] at this
     exact this rfl
    ·cases rr with
     | nil=>cases ha
     | cons i1 _=>
      cases z4 with
      | cons i2 _=>
       cases i1<;>first |(cases ha;done) | skip
       cases i2<;>cases ha
   ·rename_i e
    have ha:=h.2 _ (List.mem_of_getElem? e)
    cases ha
   ·rename_i e
    have ha:=h.2 _ (List.mem_of_getElem? e)
    cases ha
   ·cases hj
  refine .lst ?_ (offL_imm ho h.1 rr)
  rcases hh with (hh |⟨ob,hh⟩) | hh
  ·exact .inl (.inl (Off.of hh (no _ hh fun ws e=>by cases e;rfl)))
  ·exact .inl (.inr ⟨ob,Off.of hh (no _ hh fun ws e=>by cases e)⟩)
  ·exact .inr hh
 | _=>cases h
noncomputable def sSetX (i:Nat) (f:Rho→M D):Rho→Option Out:=fun ρ=>lft (f ρ) ρ fun d=>if ap d ρ=true then some (.nx (ρ.set i (some (.sh d)))) else none
noncomputable def sForX (f:Rho→M D) (G:D→Rho→Option Rho) (F:Rho→Option Out):Rho→Option Out:=fun ρ=>lft (f ρ) ρ fun d=>match itD d with
 | some (.ok ds)=>if ap d ρ=true then loop G F ds ρ else none
 | _=>none
noncomputable def sSetK (i:Nat) (f:Rho→M D):Rho→Option Out:=fun ρ=>lft (f ρ) ρ fun d=>some (.nx (ρ.set i (some (.sh d))))
section
variable {X:Cx} {B:Hp} {e:Expr} {fa:Rho→M D} {pos pos':Pos} {i:Nat} {x:Str}
theorem pds_setX (hN:X.N.Nodup) (hi:X.N[i]? =some x) (hx:Loc X.env.scope x) (he:PD X B e fa) (hs:swapsWith e (some (.Name x pos')) pos.line X.env=pure false:=by rfl) (hf:X.fn x=true∨X.env.scope.names.lookup x=some .local:=by first | exact .inl rfl | exact .inr rfl | assumption):
  PDS X B (.Assign [.Name x pos'] e pos) (sSetX i fa):=by
 refine PS.of (ps_set hN hi hx he hs hf) fun E σ H h=> ?_
 obtain⟨ρ,r,h⟩:=h
 refine⟨ρ,r,(lft_red r h).imp fun d h1 v H1 e1 i1=> ?_⟩
 split at h1
 ·rename_i hq
  obtain⟨O,o1,o2,o3,o4,o5,o6⟩:=(r.mono e1).apart i1 hq
  exact h1 _ _ (Rel.set_sh O o1 o2 o3 o4 (fun j sv q _=>o5 j sv q) o6)
 ·exact False.elim h1
variable {tg iter elt:Expr} {G:D→Rho→Option Rho} {F:Rho→Option Out} {body:List Stmt}
theorem pds_forX (hp:PassesOwn (model X.prog X.w) X.A X.env X.xe) (hc:X.calm=true) (he:PD X B iter fa) (hg: ∀B,PDG X B tg G) (hb: ∀B,PDB X B body F) (hs: ∀y,foldedSetIterable iter X.env y=pure y:=by intro _;rfl):PDS X B (.For tg iter body [] pos) (sForX fa G F):=by
 refine pds_forG hp hc (pi_D he) hg hb (fun E σ H R h k=> ?_) hs
 obtain⟨ρ,r,h⟩:=h
 refine⟨ρ,r,(lft_red r h).imp fun d h1 v H1 e1 i1=> ?_⟩
 split at h1
 ·rename_i ds hds
  split at h1
  ·rename_i hq
   obtain⟨O,o1,o2,o3,o4,o5,o6⟩:=(r.mono e1).apart i1 hq
   obtain⟨a,vs,rfl,il,hz⟩:=iter_of o6 hds
   have k1:Rel X.K (Off H1 O) ρ σ H1:=⟨O,o1,o2,Same.refl _,o4,o5⟩
   rcases hz with k4 | k4
   ·exact .inl ⟨a,rfl,⟨_,k1.kept.seq k4⟩,k _ H1 ds _ ⟨_,itd_list k4 il,k1,o3⟩ h1⟩
   ·exact .inr ⟨a,rfl,⟨_,SqT.mono k1.kept k4⟩,k _ H1 ds _ ⟨_,itd_tup k4 il,k1,o3⟩ h1⟩
  ·exact False.elim h1
 ·exact False.elim h1
theorem Rel.set_new {K:PySem.W.Frag} {H₀ H H':Hp} {ρ:Rho} {σ:St} {ds:List D} {a:Addr} (r:Rel K H₀ ρ σ H) (sm:Same H H') (hn:H a=none) (im:immL ds=true) (iv:Is K H' (.lst ds) (.ref a)):Rel K H₀ (ρ.set i (some (.sh (.lst ds)))) (σ.set i (some (.ref a))) H':=by
 obtain⟨O,o1,o2,o3,o4,o5⟩:=id r
 have no: ∀j,O j≠some a:=fun j q=>by
  obtain⟨w,w1,_⟩:=o2 j a q
  rw[hn] at w1
  cases w1
 refine Rel.set_sh O o1 (o2.mono sm) (o3.trans (Off.mono sm)) o4 (fun j sv q _=>(o5 j sv q).mono sm) ?_
 cases iv with
 | lst hh rr=>
  refine .lst ?_ (offL_imm (o2.mono sm) im rr)
  rcases hh with (hh |⟨ob,hh⟩) | hh
  ·exact .inl (.inl (Off.of hh no))
  ·exact .inl (.inr ⟨ob,Off.of hh no⟩)
  ·exact .inr hh
variable {scope:Scope} {cl:List (Str×Addr)} {N':List Str} {m:Nat} {ifs:List Expr} {ks:List Nat} {Gc:D→Option (List D)} {ft:Rho→M Bool} {fe:Rho→M D} {it:Rho→M (List D)}
theorem pds_compK {spos:Pos} (hN:X.N.Nodup) (hi0:X.N[i]? =some x) (hx:Loc X.env.scope x) (hclos:closureFor scope X.env=pure cl) (hcell:scope.names.all (fun y=>y.2 != .cell)=true) (hkind:scope.kind= .function) (hnames:scope.names.all (fun y=>y.2 != .local || scope.names.lookup y.1==some .local)=true) (hcl:lkAll cl X.env=true)
  (hnm:nmAll X.N N' (relabel scope X.env)=true) (hf:frAll cl (relabel scope X.env)=true) (hl:N'.length=X.N.length+m) (hks:ks.all (fun k=>decide (X.N.length≤k))=true) (hcm:X.calm=true) (hi:PIt X B tg iter it)
  (hg: ∀C s₀ H₀ ex,PDH (cxC X scope cl N' C s₀ H₀ ex) tg ks Gc) (ht: ∀C s₀ H₀ ex B,PIf (cxC X scope cl N' C s₀ H₀ ex) B ifs ft) (he: ∀C s₀ H₀ ex B,PD (cxC X scope cl N' C s₀ H₀ ex) B elt fe)
  (hsw:swapsWith (.ListComp elt [⟨tg,iter,ifs,0⟩] scope pos) (some (.Name x pos')) spos.line X.env=pure true:=by rfl) (hs: ∀x,foldedSetIterable iter X.env x=pure x:=by intro _;rfl)
  (hfn:X.fn x=true∨X.env.scope.names.lookup x=some .local:=by first | exact .inl rfl | exact .inr rfl | assumption):
  PDS X B (.Assign [.Name x pos'] (.ListComp elt [⟨tg,iter,ifs,0⟩] scope pos) spos) (sSetK i (cmp m it ks Gc ft fe)):=by
 intro pins s σ H E I h
 obtain⟨ρ,r,h⟩:=h
 rw[exec_Assign_Name_used _ _ _ _ hsw]
 refine wpAny_bind (wpAny_standAt (wpAny_bind (wpAny_bind (comp_core (use:=some _) (Kp:=fun rs=>GoodO X B E (some (.nx (ρ.set i (some (.sh (.lst rs))))))) hclos (fun y hy=>by have:=List.all_eq_true.mp hcell y hy;simpa using this) hkind
  (fun y hy z=>by have:=List.all_eq_true.mp hnames y hy;rw[z] at this;simpa using this) hcl hnm hf hl
  (fun k hk=>of_decide_eq_true (List.all_eq_true.mp hks k hk)) hcm hi hg ht he hs I r ?_ ?_))))
 ·exact (lft_red r h).imp fun d q rs e=>by subst e;exact q
 ·intro Dd Cc s3 Hj rs IX ⟨mm,hmm⟩ oc nC sm hn im is hQ
  have I3:Inv X pins σ Hj s3:=IX s3.heap (Heap.SameBut.refl Cc s3.heap)
  refine wpAny_assign_Name (store_ok2 I3 hN hi0 hx (v:= .ref Dd) rfl (fun s4 I4 ⟨a,sb,ha⟩=>⟨mm,hmm.sameBut sb ?_,fun h' hsb=> ?_⟩) hfn)
  ·rcases ha with ha | ha
   ·rw[ha];exact oc.2.1
   ·exact Ne.symm (oc.2.2.1 x a ha)
  ·exact wpAny_pure (wpAny_pure ⟨_,Hj,Inv.offC I4 oc nC hsb,hQ _ Hj (r.set_new sm hn im is)⟩)
end
end L2.PU
namespace K71
open PySem PySem.Spec PyProof.Rows L2 L2.PU
noncomputable abbrev St:=L2.St
noncomputable def top (i:Nat):Stmt:=PySem.Challenge.pw_whence_k71_shows.main.body.getD i (.Pass ⟨0,0,0,0⟩)
noncomputable abbrev s_shows:Stmt:=top 1
noncomputable abbrev s_are_apart:Stmt:=top 2
noncomputable abbrev aC1:Stmt:=top 3
noncomputable abbrev s_all_show:Stmt:=top 4
noncomputable abbrev s_free_names:Stmt:=top 5
noncomputable abbrev s_without:Stmt:=top 6
noncomputable abbrev aDx:Stmt:=top 8
noncomputable abbrev s_law_stream:Stmt:=top 9
noncomputable abbrev s_law_words:Stmt:=top 10
noncomputable abbrev s_law_least:Stmt:=top 11
noncomputable abbrev s_law_loose:Stmt:=top 12
noncomputable abbrev s_law_left:Stmt:=top 13
noncomputable abbrev aC0:Stmt:=top 14
noncomputable abbrev s_law_shown:Stmt:=top 15
noncomputable abbrev aDw:Stmt:=top 16
noncomputable abbrev s_law_fast:Stmt:=top 17
noncomputable abbrev s_law_greedy:Stmt:=top 18
noncomputable abbrev s_law_build:Stmt:=top 19
noncomputable abbrev aCg:Stmt:=top 20
noncomputable abbrev aDv:Stmt:=top 21
noncomputable abbrev s_law:Stmt:=top 22
set_option genInjectivity false in
structure Adr where
 f_shows:Addr
 f_are_apart:Addr
 aC5:Addr
 f_all_show:Addr
 f_free_names:Addr
 f_without:Addr
 aD4:Addr
 f_law_stream:Addr
 f_law_words:Addr
 f_law_least:Addr
 f_law_loose:Addr
 f_law_left:Addr
 aC4:Addr
 f_law_shown:Addr
 aD3:Addr
 f_law_fast:Addr
 f_law_greedy:Addr
 f_law_build:Addr
 aCi:Addr
 aD2:Addr
 f_law:Addr
noncomputable def cs (t:Adr) (C:Addr):Bool:=false
structure Txt (K:PySem.W.Frag) (mg:Str→Option Value) (t:Adr):Prop where
 aB9: ∃fd,Fun K "shows" "shows" s_shows t.f_shows fd∧Binds K fd ["tree","reasons","budget","kept"] []
 g_shows:mg "shows"=some (.ref t.f_shows)
 aCc: ∃fd,Fun K "are_apart" "are_apart" s_are_apart t.f_are_apart fd∧Binds K fd ["some","reasons","kept"] []
 g_are_apart:mg "are_apart"=some (.ref t.f_are_apart)
 aA9: ∃fd,Fun K "has_each_once" "has_each_once" aC1 t.aC5 fd∧Binds K fd ["things"] []
 g_has_each_once:mg "has_each_once"=some (.ref t.aC5)
 aCk: ∃fd,Fun K "all_show" "all_show" s_all_show t.f_all_show fd∧Binds K fd ["cases","names","reasons","budget","kept"] []
 g_all_show:mg "all_show"=some (.ref t.f_all_show)
 aA0: ∃fd,Fun K "free_names" "free_names" s_free_names t.f_free_names fd∧Binds K fd ["reason","kept"] []
 g_free_names:mg "free_names"=some (.ref t.f_free_names)
 aDk: ∃fd,Fun K "without" "without" s_without t.f_without fd∧Binds K fd ["name","reasons"] []
 g_without:mg "without"=some (.ref t.f_without)
 aBb: ∃fd,Fun K "_law_cell_at" "_law_cell_at" aDx t.aD4 fd∧Binds K fd ["_law_script","_law_k"] []
 g_law_cell_at:mg "_law_cell_at"=some (.ref t.aD4)
 aAk: ∃fd,Fun K "_law_stream" "_law_stream" s_law_stream t.f_law_stream fd∧Binds K fd ["_law_cell","_law_many"] []
 g_law_stream:mg "_law_stream"=some (.ref t.f_law_stream)
 aCa: ∃fd,Fun K "_law_words" "_law_words" s_law_words t.f_law_words fd∧Binds K fd ["_law_cell","_law_many"] []
 g_law_words:mg "_law_words"=some (.ref t.f_law_words)
 aCb: ∃fd,Fun K "_law_least" "_law_least" s_law_least t.f_law_least fd∧Binds K fd ["_law_some"] []
 g_law_least:mg "_law_least"=some (.ref t.f_law_least)
 aAq: ∃fd,Fun K "_law_loose" "_law_loose" s_law_loose t.f_law_loose fd∧Binds K fd ["_law_reason","_law_fast_here"] []
 g_law_loose:mg "_law_loose"=some (.ref t.f_law_loose)
 aBf: ∃fd,Fun K "_law_left" "_law_left" s_law_left t.f_law_left fd∧Binds K fd ["_law_reasons_here","_law_name"] []
 g_law_left:mg "_law_left"=some (.ref t.f_law_left)
 aAo: ∃fd,Fun K "_law_are_apart" "_law_are_apart" aC0 t.aC4 fd∧Binds K fd ["_law_some","_law_reasons_here","_law_fast_here"] []
 g_law_are_apart:mg "_law_are_apart"=some (.ref t.aC4)
 aAy: ∃fd,Fun K "_law_shown" "_law_shown" s_law_shown t.f_law_shown fd∧Binds K fd ["_law_tree","_law_reasons_here","_law_budget","_law_fast_here"] []
 g_law_shown:mg "_law_shown"=some (.ref t.f_law_shown)
 aBp: ∃fd,Fun K "_law_reasons" "_law_reasons" aDw t.aD3 fd∧Binds K fd ["_law_cells","_law_names","_law_most"] []
 g_law_reasons:mg "_law_reasons"=some (.ref t.aD3)
 aCw: ∃fd,Fun K "_law_fast" "_law_fast" s_law_fast t.f_law_fast fd∧Binds K fd ["_law_cell","_law_names"] []
 g_law_fast:mg "_law_fast"=some (.ref t.f_law_fast)
 aB2: ∃fd,Fun K "_law_greedy" "_law_greedy" s_law_greedy t.f_law_greedy fd∧Binds K fd ["_law_reasons_here","_law_fast_here","_law_number"] []
 g_law_greedy:mg "_law_greedy"=some (.ref t.f_law_greedy)
 aA5: ∃fd,Fun K "_law_build" "_law_build" s_law_build t.f_law_build fd∧Binds K fd ["_law_reasons_here","_law_budget","_law_fast_here","_law_number"] []
 g_law_build:mg "_law_build"=some (.ref t.f_law_build)
 aA7: ∃fd,Fun K "_law_other_apart" "_law_other_apart" aCg t.aCi fd∧Binds K fd ["_law_some","_law_reasons_here","_law_number"] []
 g_law_other_apart:mg "_law_other_apart"=some (.ref t.aCi)
 aAu: ∃fd,Fun K "_law_spoiled" "_law_spoiled" aDv t.aD2 fd∧Binds K fd ["_law_tree","_law_reasons_here","_law_number"] []
 g_law_spoiled:mg "_law_spoiled"=some (.ref t.aD2)
 F_law: ∃fd,Fun K "law" "law" s_law t.f_law fd∧Binds K fd ["_law_script"] []
 g_law:mg "law"=some (.ref t.f_law)
 b_all:mg "all"=none
 b_bool:mg "bool"=none
 b_isinstance:mg "isinstance"=none
 b_len:mg "len"=none
 b_list:mg "list"=none
 b_min:mg "min"=none
 b_range:mg "range"=none
 b_set:mg "set"=none
 b_sorted:mg "sorted"=none
 b_tuple:mg "tuple"=none
 b_zip:mg "zip"=none
section
variable {P:Program} {w:World} {K:PySem.W.Frag} {mg:Str→Option Value} {base:Heap} {t:Adr}
noncomputable def N_shows:List Str:=["tree","reasons","budget","kept","form","reason","free"]
theorem sc_shows:aBx N_shows ["tree","reasons","budget","kept"] (aAi s_shows):=⟨rfl,rfl,rfl,by decide+kernel,rfl,by decide+kernel,by decide+kernel⟩
noncomputable def aC6 (t:Adr) (aCk:List D→M D) (aCc:List D→M D) (aA0:List D→M D):Rho→Option Out:=
  (aAm (aDl 4 (b2 gIx (look 0) (con (.int 0))))
  (aAm (sIf (aAt (b2 gEq (look 4) (con (.str "apart")))) (aAm (aD8 (andV (b2 gGt (f1 aEa (b2 gIx (look 0) (con (.int 1)))) (look 2)) (app aCc (aAe (b2 gIx (look 0) (con (.int 1))) (aAe (look 1) (aAe (look 3) aAs))))))
  aBd) aBd)
  (aAm (aDl 5 (b2 gIx (look 0) (con (.int 1))))
  (aAm (sIf (aAt (b2 (gInT true) (look 5) (look 1))) (aAm (aD8 (con (.bl false)))
  aBd) aBd)
  (aAm (aDl 6 (app aA0 (aAe (look 5) (aAe (look 3) aAs))))
  (aAm (sIf (aAt (b2 gEq (look 4) (con (.str "fast")))) (aAm (aD8 (b2 gEq (f1 aEa (look 6)) (con (.int 0))))
  aBd) aBd)
  (aAm (aD8 (andV (b2 gEq (f1 aEa (b2 gIx (look 0) (con (.int 2)))) (f1 aEa (look 6))) (app aCk (aAe (b2 gIx (look 0) (con (.int 2))) (aAe (look 6) (aAe (look 1) (aAe (look 2) (aAe (look 3) aAs))))))))
  aBd)))))))
theorem tm_shows (T:Txt K mg t) {k:Nat} {aCk:List D→M D} (G_all_show:Def P w K mg base k "all_show" aCk) {aCc:List D→M D} (G_are_apart:Def P w K mg base k "are_apart" aCc) {aA0:List D→M D} (aDa:Def P w K mg base k "free_names" aA0) {cdv:Value} {A:Around} {outer:List Env} {s:Shared} {H:Hp} {E:XK} (hr:Room k (A.deeper (envOfC "shows" (aAi s_shows) s.heap.objs.size t.f_shows cdv))) (B:Hp):
  PDB (cxN P w K mg base N_shows "shows" (aAi s_shows) t.f_shows cdv A outer s H E) B (aBi s_shows) (aC6 t aCk aCc aA0):=
 by
 refine aAd ?_ ?_;(refine aA2 (i:=4) (sc_shows).nd rfl (Or.inl rfl) ?_;(refine aBa ?_ ?_ (fun _ _=>rfl);(exact aAa 0);(exact aAg)));(refine aAd ?_ ?_;(refine aB8 ?_ ?_ ?_;(refine pdt_eq ?_ ?_;(exact aAa 4);(exact aCt));(refine aAd ?_ ?_;(refine aAx ?_;(refine pd_and ?_ ?_;(refine pd_gt ?_ ?_;(refine aC2 rfl T.b_len ?_;(refine aBa ?_ ?_ (fun _ _=>rfl);(exact aAa 0);(exact aAg)));(exact aAa 2));(refine pd_one ?_;(refine aA1 G_are_apart hr rfl ?_;(refine aAb ?_ ?_;(refine aBa ?_ ?_ (fun _ _=>rfl);(exact aAa 0);(exact aAg));(refine aAb ?_ ?_;(exact aAa 1);(refine aAb ?_ ?_;(exact aAa 3);(exact aAh))))))));(exact aAj));(exact aAj));(refine aAd ?_ ?_;(refine aA2 (i:=5) (sc_shows).nd rfl (Or.inl rfl) ?_;(refine aBa ?_ ?_ (fun _ _=>rfl);(exact aAa 0);(exact aAg)));(refine aAd ?_ ?_;(refine aB8 ?_ ?_ ?_;(refine pdt_notinT hr ?_ ?_;(exact aAa 5);(exact aAa 1));(refine aAd ?_ ?_;(refine aAx ?_;(exact pd_bl));(exact aAj));(exact aAj));(refine aAd ?_ ?_;(refine aA2 (i:=6) (sc_shows).nd rfl (Or.inl rfl) ?_;(refine aA1 aDa hr rfl ?_;(refine aAb ?_ ?_;(exact aAa 5);(refine aAb ?_ ?_;(exact aAa 3);(exact aAh)))));(refine aAd ?_ ?_;(refine aB8 ?_ ?_ ?_;(refine pdt_eq ?_ ?_;(exact aAa 4);(exact aCt));(refine aAd ?_ ?_;(refine aAx ?_;(refine pd_eq ?_ ?_;(refine aC2 rfl T.b_len ?_;(exact aAa 6));(exact aAg)));(exact aAj));(exact aAj));(refine aAd ?_ ?_;(refine aAx ?_;(refine pd_and ?_ ?_;(refine pd_eq ?_ ?_;(refine aC2 rfl T.b_len ?_;(refine aBa ?_ ?_ (fun _ _=>rfl);(exact aAa 0);(exact aAg)));(refine aC2 rfl T.b_len ?_;(exact aAa 6)));(refine pd_one ?_;(refine aA1 G_all_show hr rfl ?_;(refine aAb ?_ ?_;(refine aBa ?_ ?_ (fun _ _=>rfl);(exact aAa 0);(exact aAg));(refine aAb ?_ ?_;(exact aAa 6);(refine aAb ?_ ?_;(exact aAa 1);(refine aAb ?_ ?_;(exact aAa 2);(refine aAb ?_ ?_;(exact aAa 3);(exact aAh))))))))));(exact aAj)))))))
theorem ok_shows (T:Txt K mg t) {k:Nat} {aCk:List D→M D} (G_all_show:Def P w K mg base k "all_show" aCk) {aCc:List D→M D} (G_are_apart:Def P w K mg base k "are_apart" aCc) {aA0:List D→M D} (aDa:Def P w K mg base k "free_names" aA0) {F:List D→M D} (hL: ∀ds r,F ds=some r→ds.length=4) (hq: ∀ds r,F ds=some r→∃d,r= .ok d∧aAr (aC6 t aCk aCc aA0 (aB7 N_shows ds))=ok d):Def P w K mg base (k+1) "shows" F:=by
 obtain⟨fd,Fu,bi⟩:=T.aB9
 exact⟨_,_,_,T.g_shows,Fu.kp,bi,hL,fn_D Fu sc_shows hL fun cdv A outer s H E hr=>⟨_,fun B=>tm_shows T G_all_show G_are_apart aDa hr B,hq⟩⟩
noncomputable def N_are_apart:List Str:=["some","reasons","kept","names","reason"]
theorem sc_are_apart:aBx N_are_apart ["some","reasons","kept"] (aAi s_are_apart):=⟨rfl,rfl,rfl,by decide+kernel,rfl,by decide+kernel,by decide+kernel⟩
noncomputable def den_are_apart (t:Adr) (aA0:List D→M D) (aA9:List D→M D):Rho→Option Out:=
  (aAm (sNew 3 aAs)
  (aAm (sForN 0 (gN 4) (aAm (sExt2 3 (aAe (app aA0 (aAe (look 4) (aAe (look 2) aAs))) aAs))
  aBd))
  (aAm (aD8 (andV (b2 gEq (subLen (look 0) (look 1)) (con (.int 0))) (andV (app aA9 (aAe (look 0) aAs)) (app aA9 (aAe (look 3) aAs)))))
  aBd)))
theorem tm_are_apart (T:Txt K mg t) {k:Nat} {aA0:List D→M D} (aDa:Def P w K mg base k "free_names" aA0) {aA9:List D→M D} (aD7:Def P w K mg base k "has_each_once" aA9) {cdv:Value} {A:Around} {outer:List Env} {s:Shared} {H:Hp} {E:XK} (hr:Room k (A.deeper (envOfC "are_apart" (aAi s_are_apart) s.heap.objs.size t.f_are_apart cdv))) (B:Hp):
  PDB (cxN P w K mg base N_are_apart "are_apart" (aAi s_are_apart) t.f_are_apart cdv A outer s H E) B (aBi s_are_apart) (den_are_apart t aA0 aA9):=
 by
 refine aAd ?_ ?_;(refine pds_new (i:=3) (sc_are_apart).nd rfl (Or.inl rfl) ?_;(exact aAh));(refine aAd ?_ ?_;(refine pds_forN 0 rfl (Or.inl rfl) PassesOwn.never rfl (fun B=> ?_) (fun B=> ?_);(exact aDy (i:=4) (sc_are_apart).nd rfl (Or.inl rfl));(refine aAd ?_ ?_;(refine pds_extend2 (i:=3) rfl (Or.inl rfl) ?_;(refine aA1 aDa hr rfl ?_;(refine aAb ?_ ?_;(exact aAa 4);(refine aAb ?_ ?_;(exact aAa 2);(exact aAh)))));(exact aAj)));(refine aAd ?_ ?_;(refine aAx ?_;(refine pd_and ?_ ?_;(refine pd_eq ?_ ?_;(refine pd_lenSub hr rfl T.b_len rfl T.b_set ?_ ?_;(exact aAa 0);(exact aAa 1));(exact aAg));(refine pd_and ?_ ?_;(refine aA1 aD7 hr rfl ?_;(refine aAb ?_ ?_;(exact aAa 0);(exact aAh)));(refine pd_one ?_;(refine aA1 aD7 hr rfl ?_;(refine aAb ?_ ?_;(exact aAa 3);(exact aAh)))))));(exact aAj)))
theorem ok_are_apart (T:Txt K mg t) {k:Nat} {aA0:List D→M D} (aDa:Def P w K mg base k "free_names" aA0) {aA9:List D→M D} (aD7:Def P w K mg base k "has_each_once" aA9) {F:List D→M D} (hL: ∀ds r,F ds=some r→ds.length=3) (hq: ∀ds r,F ds=some r→∃d,r= .ok d∧aAr (den_are_apart t aA0 aA9 (aB7 N_are_apart ds))=ok d):Def P w K mg base (k+1) "are_apart" F:=by
 obtain⟨fd,Fu,bi⟩:=T.aCc
 exact⟨_,_,_,T.g_are_apart,Fu.kp,bi,hL,fn_D Fu sc_are_apart hL fun cdv A outer s H E hr=>⟨_,fun B=>tm_are_apart T aDa aD7 hr B,hq⟩⟩
noncomputable def aC9:List Str:=["things"]
theorem sc_has_each_once:aBx aC9 ["things"] (aAi aC1):=⟨rfl,rfl,rfl,by decide+kernel,rfl,by decide+kernel,by decide+kernel⟩
noncomputable def aDe (t:Adr):Rho→Option Out:=
  (aAm (aD8 (b2 gEq (f1 lenSU (look 0)) (f1 aEa (look 0))))
  aBd)
theorem tm_has_each_once (T:Txt K mg t) {k:Nat} {cdv:Value} {A:Around} {outer:List Env} {s:Shared} {H:Hp} {E:XK} (hr:Room k (A.deeper (envOfC "has_each_once" (aAi aC1) s.heap.objs.size t.aC5 cdv))) (B:Hp):
  PDB (cxN P w K mg base aC9 "has_each_once" (aAi aC1) t.aC5 cdv A outer s H E) B (aBi aC1) (aDe t):=
 by
 refine aAd ?_ ?_;(refine aAx ?_;(refine pd_eq ?_ ?_;(refine pd_lenSU hr rfl rfl T.b_len rfl T.b_set ?_;(exact aAa 0));(refine aC2 rfl T.b_len ?_;(exact aAa 0))));(exact aAj)
theorem ok_has_each_once (T:Txt K mg t) {k:Nat} {F:List D→M D} (hL: ∀ds r,F ds=some r→ds.length=1) (hq: ∀ds r,F ds=some r→∃d,r= .ok d∧aAr (aDe t (aB7 aC9 ds))=ok d):Def P w K mg base (k+1) "has_each_once" F:=by
 obtain⟨fd,Fu,bi⟩:=T.aA9
 exact⟨_,_,_,T.g_has_each_once,Fu.kp,bi,hL,fn_D Fu sc_has_each_once hL fun cdv A outer s H E hr=>⟨_,fun B=>tm_has_each_once T hr B,hq⟩⟩
noncomputable def aDq:List Str:=["cases","names","reasons","budget","kept","shown"]
noncomputable def Nc_all_show_0:List Str:=["?0","?1","reasons","budget","kept","?5","case","name"]
theorem nd_all_show_0:Nc_all_show_0.Nodup:=by decide+kernel
theorem sc_all_show:aBx aDq ["cases","names","reasons","budget","kept"] (aAi s_all_show):=⟨rfl,rfl,rfl,by decide+kernel,rfl,by decide+kernel,by decide+kernel⟩
noncomputable def aC7 (t:Adr) (aB9:List D→M D) (aDk:List D→M D):Rho→Option Out:=
  (aAm (sSetK 5 (cmp 2 (itZ (look 0) (look 1)) [6,7] h2 (fun _=>ok true) (app aB9 (aAe (look 6) (aAe (app aDk (aAe (look 7) (aAe (look 2) aAs))) (aAe (b2 gSub (look 3) (con (.int 1))) (aAe (look 4) aAs)))))))
  (aAm (aD8 (f1 allD (look 5)))
  aBd))
theorem tm_all_show (T:Txt K mg t) {k:Nat} {aB9:List D→M D} (G_shows:Def P w K mg base k "shows" aB9) {aDk:List D→M D} (G_without:Def P w K mg base k "without" aDk) {cdv:Value} {A:Around} {outer:List Env} {s:Shared} {H:Hp} {E:XK} (hr:Room k (A.deeper (envOfC "all_show" (aAi s_all_show) s.heap.objs.size t.f_all_show cdv))) (B:Hp):
  PDB (cxN P w K mg base aDq "all_show" (aAi s_all_show) t.f_all_show cdv A outer s H E) B (aBi s_all_show) (aC7 t aB9 aDk):=
 by
 refine aAd ?_ ?_;(refine pds_compK (i:=5) (sc_all_show).nd rfl (Or.inl rfl) (N':=Nc_all_show_0) (m:=2) (ks:=[6,7]) rfl rfl rfl rfl (by repeat (first | exact lk_nil | refine lk_cons rfl (by first | exact Or.inl rfl | exact Or.inr rfl) ?_)) rfl rfl rfl rfl rfl ?_ (fun C s₀ H₀ ex=> ?_) (fun C s₀ H₀ ex B=> ?_) (fun C s₀ H₀ ex B=> ?_);(refine pit_zip rfl T.b_zip ?_ ?_;(exact aAa 0);(exact aAa 1));(exact pdn_2 rfl nd_all_show_0 rfl (Or.inl rfl) rfl (Or.inl rfl));(exact pif_none);(refine aA1 G_shows hr rfl ?_;(refine aAb ?_ ?_;(exact aAa 6);(refine aAb ?_ ?_;(refine aA1 G_without hr rfl ?_;(refine aAb ?_ ?_;(exact aAa 7);(refine aAb ?_ ?_;(exact aAa 2);(exact aAh))));(refine aAb ?_ ?_;(refine pd_sub ?_ ?_;(exact aAa 3);(exact aAg));(refine aAb ?_ ?_;(exact aAa 4);(exact aAh)))))));(refine aAd ?_ ?_;(refine aAx ?_;(refine pd_all rfl rfl T.b_all ?_;(exact aAa 5)));(exact aAj))
theorem ok_all_show (T:Txt K mg t) {k:Nat} {aB9:List D→M D} (G_shows:Def P w K mg base k "shows" aB9) {aDk:List D→M D} (G_without:Def P w K mg base k "without" aDk) {F:List D→M D} (hL: ∀ds r,F ds=some r→ds.length=5) (hq: ∀ds r,F ds=some r→∃d,r= .ok d∧aAr (aC7 t aB9 aDk (aB7 aDq ds))=ok d):Def P w K mg base (k+1) "all_show" F:=by
 obtain⟨fd,Fu,bi⟩:=T.aCk
 exact⟨_,_,_,T.g_all_show,Fu.kp,bi,hL,fn_D Fu sc_all_show hL fun cdv A outer s H E hr=>⟨_,fun B=>tm_all_show T G_shows G_without hr B,hq⟩⟩
noncomputable def N_free_names:List Str:=["reason","kept"]
noncomputable def Nc_free_names_0:List Str:=["?0","kept","name"]
theorem nd_free_names_0:Nc_free_names_0.Nodup:=by decide+kernel
theorem sc_free_names:aBx N_free_names ["reason","kept"] (aAi s_free_names):=⟨rfl,rfl,rfl,by decide+kernel,rfl,by decide+kernel,by decide+kernel⟩
noncomputable def den_free_names (t:Adr):Rho→Option Out:=
  (aAm (aD8 (cmp 1 (itE (look 0)) [2] h1 (aAt (b2 (gIn true) (look 2) (look 1))) (look 2)))
  aBd)
theorem tm_free_names (T:Txt K mg t) {k:Nat} {cdv:Value} {A:Around} {outer:List Env} {s:Shared} {H:Hp} {E:XK} (hr:Room k (A.deeper (envOfC "free_names" (aAi s_free_names) s.heap.objs.size t.f_free_names cdv))) (B:Hp):
  PDB (cxN P w K mg base N_free_names "free_names" (aAi s_free_names) t.f_free_names cdv A outer s H E) B (aBi s_free_names) (den_free_names t):=
 by
 refine aAd ?_ ?_;(refine aAx ?_;(refine pd_comp1 (N':=Nc_free_names_0) (m:=1) (ks:=[2]) rfl rfl rfl rfl (by repeat (first | exact lk_nil | refine lk_cons rfl (by first | exact Or.inl rfl | exact Or.inr rfl) ?_)) rfl rfl rfl rfl rfl ?_ (fun C s₀ H₀ ex=> ?_) (fun C s₀ H₀ ex B=> ?_) (fun C s₀ H₀ ex B=> ?_);(refine pit_D ?_;(exact aAa 0));(exact pdn_1 nd_free_names_0 rfl (Or.inl rfl));(refine pif_some ?_;(refine pdt_notin ?_ ?_;(exact aAa 2);(exact aAa 1)));(exact aAa 2)));(exact aAj)
theorem ok_free_names (T:Txt K mg t) {k:Nat} {F:List D→M D} (hL: ∀ds r,F ds=some r→ds.length=2) (hq: ∀ds r,F ds=some r→∃d,r= .ok d∧aAr (den_free_names t (aB7 N_free_names ds))=ok d):Def P w K mg base (k+1) "free_names" F:=by
 obtain⟨fd,Fu,bi⟩:=T.aA0
 exact⟨_,_,_,T.g_free_names,Fu.kp,bi,hL,fn_D Fu sc_free_names hL fun cdv A outer s H E hr=>⟨_,fun B=>tm_free_names T hr B,hq⟩⟩
noncomputable def N_without:List Str:=["name","reasons"]
noncomputable def Nc_without_0:List Str:=["name","?1","reason"]
theorem nd_without_0:Nc_without_0.Nodup:=by decide+kernel
theorem sc_without:aBx N_without ["name","reasons"] (aAi s_without):=⟨rfl,rfl,rfl,by decide+kernel,rfl,by decide+kernel,by decide+kernel⟩
noncomputable def den_without (t:Adr):Rho→Option Out:=
  (aAm (aD8 (f1 toT (cmp 1 (itE (look 1)) [2] h1 (aAt (b2 (gIn true) (look 0) (look 2))) (look 2))))
  aBd)
theorem tm_without (T:Txt K mg t) {k:Nat} {cdv:Value} {A:Around} {outer:List Env} {s:Shared} {H:Hp} {E:XK} (hr:Room k (A.deeper (envOfC "without" (aAi s_without) s.heap.objs.size t.f_without cdv))) (B:Hp):
  PDB (cxN P w K mg base N_without "without" (aAi s_without) t.f_without cdv A outer s H E) B (aBi s_without) (den_without t):=
 by
 refine aAd ?_ ?_;(refine aAx ?_;(refine pd_tuple rfl T.b_tuple ?_;(refine pd_comp1 (N':=Nc_without_0) (m:=1) (ks:=[2]) rfl rfl rfl rfl (by repeat (first | exact lk_nil | refine lk_cons rfl (by first | exact Or.inl rfl | exact Or.inr rfl) ?_)) rfl rfl rfl rfl rfl ?_ (fun C s₀ H₀ ex=> ?_) (fun C s₀ H₀ ex B=> ?_) (fun C s₀ H₀ ex B=> ?_);(refine pit_D ?_;(exact aAa 1));(exact pdn_1 nd_without_0 rfl (Or.inl rfl));(refine pif_some ?_;(refine pdt_notin ?_ ?_;(exact aAa 0);(exact aAa 2)));(exact aAa 2))));(exact aAj)
theorem ok_without (T:Txt K mg t) {k:Nat} {F:List D→M D} (hL: ∀ds r,F ds=some r→ds.length=2) (hq: ∀ds r,F ds=some r→∃d,r= .ok d∧aAr (den_without t (aB7 N_without ds))=ok d):Def P w K mg base (k+1) "without" F:=by
 obtain⟨fd,Fu,bi⟩:=T.aDk
 exact⟨_,_,_,T.g_without,Fu.kp,bi,hL,fn_D Fu sc_without hL fun cdv A outer s H E hr=>⟨_,fun B=>tm_without T hr B,hq⟩⟩
noncomputable def N_law_cell_at:List Str:=["_law_script","_law_k"]
theorem sc_law_cell_at:aBx N_law_cell_at ["_law_script","_law_k"] (aAi aDx):=⟨rfl,rfl,rfl,by decide+kernel,rfl,by decide+kernel,by decide+kernel⟩
noncomputable def den_law_cell_at (t:Adr):Rho→Option Out:=
  (aAm (sIf (aAt (b2 gLt (look 1) (f1 aEa (look 0)))) (aAm (aD8 (b2 gIx (look 0) (look 1)))
  aBd) aBd)
  (aAm (aD8 (con (.int 0)))
  aBd))
theorem tm_law_cell_at (T:Txt K mg t) {k:Nat} {cdv:Value} {A:Around} {outer:List Env} {s:Shared} {H:Hp} {E:XK} (hr:Room k (A.deeper (envOfC "_law_cell_at" (aAi aDx) s.heap.objs.size t.aD4 cdv))) (B:Hp):
  PDB (cxN P w K mg base N_law_cell_at "_law_cell_at" (aAi aDx) t.aD4 cdv A outer s H E) B (aBi aDx) (den_law_cell_at t):=
 by
 refine aAd ?_ ?_;(refine aB8 ?_ ?_ ?_;(refine pdt_lt ?_ ?_;(exact aAa 1);(refine aC2 rfl T.b_len ?_;(exact aAa 0)));(refine aAd ?_ ?_;(refine aAx ?_;(refine aBa ?_ ?_ (fun _ _=>rfl);(exact aAa 0);(exact aAa 1)));(exact aAj));(exact aAj));(refine aAd ?_ ?_;(refine aAx ?_;(exact aAg));(exact aAj))
theorem ok_law_cell_at (T:Txt K mg t) {k:Nat} {F:List D→M D} (hL: ∀ds r,F ds=some r→ds.length=2) (hq: ∀ds r,F ds=some r→∃d,r= .ok d∧aAr (den_law_cell_at t (aB7 N_law_cell_at ds))=ok d):Def P w K mg base (k+1) "_law_cell_at" F:=by
 obtain⟨fd,Fu,bi⟩:=T.aBb
 exact⟨_,_,_,T.g_law_cell_at,Fu.kp,bi,hL,fn_D Fu sc_law_cell_at hL fun cdv A outer s H E hr=>⟨_,fun B=>tm_law_cell_at T hr B,hq⟩⟩
noncomputable def N_law_stream:List Str:=["_law_cell","_law_many","_law_found","_law_number","_law_k"]
theorem aDu:aBx N_law_stream ["_law_cell","_law_many"] (aAi s_law_stream):=⟨rfl,rfl,rfl,by decide+kernel,rfl,by decide+kernel,by decide+kernel⟩
noncomputable def den_law_stream (t:Adr):Rho→Option Out:=
  (aAm (sNew 2 aAs)
  (aAm (aDl 3 (b2 aAv (b2 aCf (look 0) (con (.int 2147483647))) (con (.int 48271))))
  (aAm (sForR1 (b2 aAv (look 1) (con (.int 1))) (gN 4) (aAm (aDl 3 (b2 aCf (b2 aAv (b2 aAv (b2 aCu (look 3) (look 3)) (b2 aCu (con (.int 48271)) (look 3))) (look 4)) (con (.int 2147483647))))
  (aAm (sOwn lApp 2 (aAe (look 3) aAs))
  aBd)))
  (aAm (aD8 (aEg (look 2) (aBk (con (.int 1))) aBu))
  aBd))))
theorem tm_law_stream (T:Txt K mg t) {k:Nat} {cdv:Value} {A:Around} {outer:List Env} {s:Shared} {H:Hp} {E:XK} (hr:Room k (A.deeper (envOfC "_law_stream" (aAi s_law_stream) s.heap.objs.size t.f_law_stream cdv))) (B:Hp):
  PDB (cxN P w K mg base N_law_stream "_law_stream" (aAi s_law_stream) t.f_law_stream cdv A outer s H E) B (aBi s_law_stream) (den_law_stream t):=
 by
 refine aAd ?_ ?_;(refine pds_new (i:=2) (aDu).nd rfl (Or.inl rfl) ?_;(exact aAh));(refine aAd ?_ ?_;(refine aA2 (i:=3) (aDu).nd rfl (Or.inl rfl) ?_;(refine aA4 ?_ ?_;(refine aBq ?_ ?_;(exact aAa 0);(exact aAg));(exact aAg)));(refine aAd ?_ ?_;(refine pds_forR1 rfl T.b_range PassesOwn.never rfl ?_ (fun B=> ?_) (fun B=> ?_);(refine aA4 ?_ ?_;(exact aAa 1);(exact aAg));(exact aDy (i:=4) (aDu).nd rfl (Or.inl rfl));(refine aAd ?_ ?_;(refine aA2 (i:=3) (aDu).nd rfl (Or.inl rfl) ?_;(refine aBq ?_ ?_;(refine aA4 ?_ ?_;(refine aA4 ?_ ?_;(refine pd_times ?_ ?_;(exact aAa 3);(exact aAa 3));(refine pd_times ?_ ?_;(exact aAg);(exact aAa 3)));(exact aAa 4));(exact aAg)));(refine aAd ?_ ?_;(refine aCv (i:=2) rfl (Or.inl rfl) ?_;(exact aAa 3));(exact aAj))));(refine aAd ?_ ?_;(refine aAx ?_;(refine aBh ?_ ?_ ?_;(exact aAa 2);(refine aBe ?_;(exact aAg));(exact aBo)));(exact aAj))))
theorem ok_law_stream (T:Txt K mg t) {k:Nat} {F:List D→M D} (hL: ∀ds r,F ds=some r→ds.length=2) (hq: ∀ds r,F ds=some r→∃d,r= .ok d∧aAr (den_law_stream t (aB7 N_law_stream ds))=ok d):Def P w K mg base (k+1) "_law_stream" F:=by
 obtain⟨fd,Fu,bi⟩:=T.aAk
 exact⟨_,_,_,T.g_law_stream,Fu.kp,bi,hL,fn_D Fu aDu hL fun cdv A outer s H E hr=>⟨_,fun B=>tm_law_stream T hr B,hq⟩⟩
noncomputable def N_law_words:List Str:=["_law_cell","_law_many","_law_some","_law_xs","_law_ahead","_law_behind","_law_words_here","_law_k"]
theorem aCl:aBx N_law_words ["_law_cell","_law_many"] (aAi s_law_words):=⟨rfl,rfl,rfl,by decide+kernel,rfl,by decide+kernel,by decide+kernel⟩
noncomputable def den_law_words (t:Adr) (aAk:List D→M D):Rho→Option Out:=
  (aAm (aDl 2 (con (.str " !\"#$&'()*+,-./0123456789:;<=>?@ABCDEFGHIJKLMNOPQRSTUVWXYZ[\\]^_`")))
  (aAm (aDl 2 (b2 aAv (look 2) (con (.str "abcdefghijklmnopqrstuvwxyz{|}~"))))
  (aAm (aDl 3 (app aAk (aAe (look 0) (aAe (con (.int 5)) aAs))))
  (aAm (aDl 4 (b2 aCu (b2 gIx (look 2) (b2 aCf (b2 gIx (look 3) (con (.int 0))) (con (.int 94)))) (b2 aCf (b2 gIx (look 3) (con (.int 1))) (con (.int 3)))))
  (aAm (aDl 5 (b2 aCu (b2 gIx (look 2) (b2 aCf (b2 gIx (look 3) (con (.int 2))) (con (.int 94)))) (b2 aCf (b2 gIx (look 3) (con (.int 3))) (con (.int 3)))))
  (aAm (sNew 6 aAs)
  (aAm (sForR1 (look 1) (gN 7) (aAm (sIf (aAt (b2 gEq (b2 aCf (b2 gIx (look 3) (con (.int 4))) (con (.int 4))) (con (.int 0)))) (aAm (sOwn lApp 6 (aAe (b2 aAv (look 4) (b2 aCu (b2 gIx (look 2) (b2 aCf (b2 gIx (look 3) (con (.int 2))) (con (.int 94)))) (look 7))) aAs))
  aBd) (aAm (sOwn lApp 6 (aAe (b2 aAv (b2 aAv (look 4) (b2 gIx (look 2) (b2 aCf (b2 aAv (b2 aCo (b2 gIx (look 3) (con (.int 4))) (con (.int 4))) (look 7)) (con (.int 94))))) (look 5)) aAs))
  aBd))
  aBd))
  (aAm (aD8 (look 6))
  aBd))))))))
theorem tm_law_words (T:Txt K mg t) {k:Nat} {aAk:List D→M D} (aA8:Def P w K mg base k "_law_stream" aAk) {cdv:Value} {A:Around} {outer:List Env} {s:Shared} {H:Hp} {E:XK} (hr:Room k (A.deeper (envOfC "_law_words" (aAi s_law_words) s.heap.objs.size t.f_law_words cdv))) (B:Hp):
  PDB (cxN P w K mg base N_law_words "_law_words" (aAi s_law_words) t.f_law_words cdv A outer s H E) B (aBi s_law_words) (den_law_words t aAk):=
 by
 refine aAd ?_ ?_;(refine aA2 (i:=2) (aCl).nd rfl (Or.inl rfl) ?_;(exact aCt));(refine aAd ?_ ?_;(refine aA2 (i:=2) (aCl).nd rfl (Or.inl rfl) ?_;(refine aA4 ?_ ?_;(exact aAa 2);(exact aCt)));(refine aAd ?_ ?_;(refine aA2 (i:=3) (aCl).nd rfl (Or.inl rfl) ?_;(refine aA1 aA8 hr rfl ?_;(refine aAb ?_ ?_;(exact aAa 0);(refine aAb ?_ ?_;(exact aAg);(exact aAh)))));(refine aAd ?_ ?_;(refine aA2 (i:=4) (aCl).nd rfl (Or.inl rfl) ?_;(refine pd_times ?_ ?_;(refine aBa ?_ ?_ (fun _ _=>rfl);(exact aAa 2);(refine aBq ?_ ?_;(refine aBa ?_ ?_ (fun _ _=>rfl);(exact aAa 3);(exact aAg));(exact aAg)));(refine aBq ?_ ?_;(refine aBa ?_ ?_ (fun _ _=>rfl);(exact aAa 3);(exact aAg));(exact aAg))));(refine aAd ?_ ?_;(refine aA2 (i:=5) (aCl).nd rfl (Or.inl rfl) ?_;(refine pd_times ?_ ?_;(refine aBa ?_ ?_ (fun _ _=>rfl);(exact aAa 2);(refine aBq ?_ ?_;(refine aBa ?_ ?_ (fun _ _=>rfl);(exact aAa 3);(exact aAg));(exact aAg)));(refine aBq ?_ ?_;(refine aBa ?_ ?_ (fun _ _=>rfl);(exact aAa 3);(exact aAg));(exact aAg))));(refine aAd ?_ ?_;(refine pds_new (i:=6) (aCl).nd rfl (Or.inl rfl) ?_;(exact aAh));(refine aAd ?_ ?_;(refine pds_forR1 rfl T.b_range PassesOwn.never rfl ?_ (fun B=> ?_) (fun B=> ?_);(exact aAa 1);(exact aDy (i:=7) (aCl).nd rfl (Or.inl rfl));(refine aAd ?_ ?_;(refine aB8 ?_ ?_ ?_;(refine pdt_eq ?_ ?_;(refine aBq ?_ ?_;(refine aBa ?_ ?_ (fun _ _=>rfl);(exact aAa 3);(exact aAg));(exact aAg));(exact aAg));(refine aAd ?_ ?_;(refine aCv (i:=6) rfl (Or.inl rfl) ?_;(refine aA4 ?_ ?_;(exact aAa 4);(refine pd_times ?_ ?_;(refine aBa ?_ ?_ (fun _ _=>rfl);(exact aAa 2);(refine aBq ?_ ?_;(refine aBa ?_ ?_ (fun _ _=>rfl);(exact aAa 3);(exact aAg));(exact aAg)));(exact aAa 7))));(exact aAj));(refine aAd ?_ ?_;(refine aCv (i:=6) rfl (Or.inl rfl) ?_;(refine aA4 ?_ ?_;(refine aA4 ?_ ?_;(exact aAa 4);(refine aBa ?_ ?_ (fun _ _=>rfl);(exact aAa 2);(refine aBq ?_ ?_;(refine aA4 ?_ ?_;(refine aDz ?_ ?_;(refine aBa ?_ ?_ (fun _ _=>rfl);(exact aAa 3);(exact aAg));(exact aAg));(exact aAa 7));(exact aAg))));(exact aAa 5)));(exact aAj)));(exact aAj)));(refine aAd ?_ ?_;(refine aAx ?_;(exact aAa 6));(exact aAj))))))))
theorem ok_law_words (T:Txt K mg t) {k:Nat} {aAk:List D→M D} (aA8:Def P w K mg base k "_law_stream" aAk) {F:List D→M D} (hL: ∀ds r,F ds=some r→ds.length=2) (hq: ∀ds r,F ds=some r→∃d,r= .ok d∧aAr (den_law_words t aAk (aB7 N_law_words ds))=ok d):Def P w K mg base (k+1) "_law_words" F:=by
 obtain⟨fd,Fu,bi⟩:=T.aCa
 exact⟨_,_,_,T.g_law_words,Fu.kp,bi,hL,fn_D Fu aCl hL fun cdv A outer s H E hr=>⟨_,fun B=>tm_law_words T aA8 hr B,hq⟩⟩
noncomputable def N_law_least:List Str:=["_law_some","_law_sets","_law_found","_law_one","_law_within"]
noncomputable def Nc_law_least_0:List Str:=["?0","?1","?2","_law_one","?4","_law_other"]
theorem nd_law_least_0:Nc_law_least_0.Nodup:=by decide+kernel
noncomputable def Nc_law_least_1:List Str:=["?0","?1","?2","_law_one","?4","?5","_law_name"]
theorem nd_law_least_1:Nc_law_least_1.Nodup:=by decide+kernel
noncomputable def Nc_law_least_2:List Str:=["?0","?1","?2","?3","?4","_law_names"]
theorem nd_law_least_2:Nc_law_least_2.Nodup:=by decide+kernel
theorem sc_law_least:aBx N_law_least ["_law_some"] (aAi s_law_least):=⟨rfl,rfl,rfl,by decide+kernel,rfl,by decide+kernel,by decide+kernel⟩
noncomputable def den_law_least (t:Adr):Rho→Option Out:=
  (aAm (aDl 1 (f1 srtST (cmp 1 (itE (look 0)) [5] h1 (fun _=>ok true) (f1 toT (f1 srtD (f1 toS (look 5)))))))
  (aAm (sNew 2 aAs)
  (aAm (sForN 1 (gN 3) (aAm (sSetK 4 (cmp 1 (itE (look 1)) [5] h1 (andB (aAt (b2 gNeS (look 5) (look 3))) (aAt (b2 gEqS (cmp 1 (itE (look 5)) [6] h1 (aAt (b2 (gIn true) (look 6) (look 3))) (look 6)) (mkL aAs)))) (look 5)))
  (aAm (sIf (aAt (b2 gEqNilL (look 4) (mkL aAs))) (aAm (sOwn lApp 2 (aAe (look 3) aAs))
  aBd) aBd)
  aBd)))
  (aAm (aD8 (f1 toT (look 2)))
  aBd))))
theorem tm_law_least (T:Txt K mg t) {k:Nat} {cdv:Value} {A:Around} {outer:List Env} {s:Shared} {H:Hp} {E:XK} (hr:Room k (A.deeper (envOfC "_law_least" (aAi s_law_least) s.heap.objs.size t.f_law_least cdv))) (B:Hp):
  PDB (cxN P w K mg base N_law_least "_law_least" (aAi s_law_least) t.f_law_least cdv A outer s H E) B (aBi s_law_least) (den_law_least t):=
 by
 refine aAd ?_ ?_;(refine aA2 (i:=1) (sc_law_least).nd rfl (Or.inl rfl) ?_;(refine pd_sortedST hr rfl rfl T.b_sorted rfl T.b_set ?_;(refine pd_comp1 (N':=Nc_law_least_2) (m:=1) (ks:=[5]) rfl rfl rfl rfl (by repeat (first | exact lk_nil | refine lk_cons rfl (by first | exact Or.inl rfl | exact Or.inr rfl) ?_)) rfl rfl rfl rfl rfl ?_ (fun C s₀ H₀ ex=> ?_) (fun C s₀ H₀ ex B=> ?_) (fun C s₀ H₀ ex B=> ?_);(refine pit_D ?_;(exact aAa 0));(exact pdn_1 nd_law_least_2 rfl (Or.inl rfl));(exact pif_none);(refine pd_tuple rfl T.b_tuple ?_;(refine pd_sorted rfl rfl T.b_sorted ?_;(refine pd_set rfl rfl T.b_set ?_;(exact aAa 5)))))));(refine aAd ?_ ?_;(refine pds_new (i:=2) (sc_law_least).nd rfl (Or.inl rfl) ?_;(exact aAh));(refine aAd ?_ ?_;(refine pds_forN 1 rfl (Or.inl rfl) PassesOwn.never rfl (fun B=> ?_) (fun B=> ?_);(exact aDy (i:=3) (sc_law_least).nd rfl (Or.inr rfl));(refine aAd ?_ ?_;(refine pds_compK (i:=4) (sc_law_least).nd rfl (Or.inl rfl) (N':=Nc_law_least_0) (m:=1) (ks:=[5]) rfl rfl rfl rfl (by repeat (first | exact lk_nil | refine lk_cons rfl (by first | exact Or.inl rfl | exact Or.inr rfl) ?_)) rfl rfl rfl rfl rfl ?_ (fun C s₀ H₀ ex=> ?_) (fun C s₀ H₀ ex B=> ?_) (fun C s₀ H₀ ex B=> ?_);(refine pit_D ?_;(exact aAa 1));(exact pdn_1 nd_law_least_0 rfl (Or.inl rfl));(refine pif_some ?_;(refine PDW.pdt ?_;(refine pdw_and ?_ ?_;(refine pdt_neS hr ?_ ?_;(exact aAa 5);(exact aAa 3));(refine pdw_and1 ?_;(refine pdt_eqS hr ?_ ?_;(refine pd_comp1 (N':=Nc_law_least_1) (m:=1) (ks:=[6]) rfl rfl rfl rfl (by repeat (first | exact lk_nil | refine lk_cons rfl (by first | exact Or.inl rfl | exact Or.inr rfl) ?_)) rfl rfl rfl rfl rfl ?_ (fun C s₀ H₀ ex=> ?_) (fun C s₀ H₀ ex B=> ?_) (fun C s₀ H₀ ex B=> ?_);(refine pit_D ?_;(exact aAa 5));(exact pdn_1 nd_law_least_1 rfl (Or.inl rfl));(refine pif_some ?_;(refine pdt_notin ?_ ?_;(exact aAa 6);(exact aAa 3)));(exact aAa 6));(refine pd_lst ?_;(exact aAh)))))));(exact aAa 5));(refine aAd ?_ ?_;(refine aB8 ?_ ?_ ?_;(refine pdt_eqnilL hr ?_ ?_;(exact aAa 4);(refine pd_lst ?_;(exact aAh)));(refine aAd ?_ ?_;(refine aCv (i:=2) rfl (Or.inl rfl) ?_;(exact aAa 3));(exact aAj));(exact aAj));(exact aAj))));(refine aAd ?_ ?_;(refine aAx ?_;(refine pd_tuple rfl T.b_tuple ?_;(exact aAa 2)));(exact aAj))))
theorem ok_law_least (T:Txt K mg t) {k:Nat} {F:List D→M D} (hL: ∀ds r,F ds=some r→ds.length=1) (hq: ∀ds r,F ds=some r→∃d,r= .ok d∧aAr (den_law_least t (aB7 N_law_least ds))=ok d):Def P w K mg base (k+1) "_law_least" F:=by
 obtain⟨fd,Fu,bi⟩:=T.aCb
 exact⟨_,_,_,T.g_law_least,Fu.kp,bi,hL,fn_D Fu sc_law_least hL fun cdv A outer s H E hr=>⟨_,fun B=>tm_law_least T hr B,hq⟩⟩
noncomputable def N_law_loose:List Str:=["_law_reason","_law_fast_here"]
noncomputable def Nc_law_loose_0:List Str:=["?0","_law_fast_here","_law_name"]
theorem nd_law_loose_0:Nc_law_loose_0.Nodup:=by decide+kernel
theorem sc_law_loose:aBx N_law_loose ["_law_reason","_law_fast_here"] (aAi s_law_loose):=⟨rfl,rfl,rfl,by decide+kernel,rfl,by decide+kernel,by decide+kernel⟩
noncomputable def den_law_loose (t:Adr):Rho→Option Out:=
  (aAm (aD8 (cmp 1 (itE (look 0)) [2] h1 (aAt (b2 (gIn true) (look 2) (look 1))) (look 2)))
  aBd)
theorem tm_law_loose (T:Txt K mg t) {k:Nat} {cdv:Value} {A:Around} {outer:List Env} {s:Shared} {H:Hp} {E:XK} (hr:Room k (A.deeper (envOfC "_law_loose" (aAi s_law_loose) s.heap.objs.size t.f_law_loose cdv))) (B:Hp):
  PDB (cxN P w K mg base N_law_loose "_law_loose" (aAi s_law_loose) t.f_law_loose cdv A outer s H E) B (aBi s_law_loose) (den_law_loose t):=
 by
 refine aAd ?_ ?_;(refine aAx ?_;(refine pd_comp1 (N':=Nc_law_loose_0) (m:=1) (ks:=[2]) rfl rfl rfl rfl (by repeat (first | exact lk_nil | refine lk_cons rfl (by first | exact Or.inl rfl | exact Or.inr rfl) ?_)) rfl rfl rfl rfl rfl ?_ (fun C s₀ H₀ ex=> ?_) (fun C s₀ H₀ ex B=> ?_) (fun C s₀ H₀ ex B=> ?_);(refine pit_D ?_;(exact aAa 0));(exact pdn_1 nd_law_loose_0 rfl (Or.inl rfl));(refine pif_some ?_;(refine pdt_notin ?_ ?_;(exact aAa 2);(exact aAa 1)));(exact aAa 2)));(exact aAj)
theorem ok_law_loose (T:Txt K mg t) {k:Nat} {F:List D→M D} (hL: ∀ds r,F ds=some r→ds.length=2) (hq: ∀ds r,F ds=some r→∃d,r= .ok d∧aAr (den_law_loose t (aB7 N_law_loose ds))=ok d):Def P w K mg base (k+1) "_law_loose" F:=by
 obtain⟨fd,Fu,bi⟩:=T.aAq
 exact⟨_,_,_,T.g_law_loose,Fu.kp,bi,hL,fn_D Fu sc_law_loose hL fun cdv A outer s H E hr=>⟨_,fun B=>tm_law_loose T hr B,hq⟩⟩
noncomputable def N_law_left:List Str:=["_law_reasons_here","_law_name"]
noncomputable def Nc_law_left_0:List Str:=["?0","_law_name","_law_reason"]
theorem nd_law_left_0:Nc_law_left_0.Nodup:=by decide+kernel
theorem sc_law_left:aBx N_law_left ["_law_reasons_here","_law_name"] (aAi s_law_left):=⟨rfl,rfl,rfl,by decide+kernel,rfl,by decide+kernel,by decide+kernel⟩
noncomputable def den_law_left (t:Adr):Rho→Option Out:=
  (aAm (aD8 (f1 toT (cmp 1 (itE (look 0)) [2] h1 (aAt (b2 (gIn true) (look 1) (look 2))) (look 2))))
  aBd)
theorem tm_law_left (T:Txt K mg t) {k:Nat} {cdv:Value} {A:Around} {outer:List Env} {s:Shared} {H:Hp} {E:XK} (hr:Room k (A.deeper (envOfC "_law_left" (aAi s_law_left) s.heap.objs.size t.f_law_left cdv))) (B:Hp):
  PDB (cxN P w K mg base N_law_left "_law_left" (aAi s_law_left) t.f_law_left cdv A outer s H E) B (aBi s_law_left) (den_law_left t):=
 by
 refine aAd ?_ ?_;(refine aAx ?_;(refine pd_tuple rfl T.b_tuple ?_;(refine pd_comp1 (N':=Nc_law_left_0) (m:=1) (ks:=[2]) rfl rfl rfl rfl (by repeat (first | exact lk_nil | refine lk_cons rfl (by first | exact Or.inl rfl | exact Or.inr rfl) ?_)) rfl rfl rfl rfl rfl ?_ (fun C s₀ H₀ ex=> ?_) (fun C s₀ H₀ ex B=> ?_) (fun C s₀ H₀ ex B=> ?_);(refine pit_D ?_;(exact aAa 0));(exact pdn_1 nd_law_left_0 rfl (Or.inl rfl));(refine pif_some ?_;(refine pdt_notin ?_ ?_;(exact aAa 1);(exact aAa 2)));(exact aAa 2))));(exact aAj)
theorem ok_law_left (T:Txt K mg t) {k:Nat} {F:List D→M D} (hL: ∀ds r,F ds=some r→ds.length=2) (hq: ∀ds r,F ds=some r→∃d,r= .ok d∧aAr (den_law_left t (aB7 N_law_left ds))=ok d):Def P w K mg base (k+1) "_law_left" F:=by
 obtain⟨fd,Fu,bi⟩:=T.aBf
 exact⟨_,_,_,T.g_law_left,Fu.kp,bi,hL,fn_D Fu sc_law_left hL fun cdv A outer s H E hr=>⟨_,fun B=>tm_law_left T hr B,hq⟩⟩
noncomputable def aC8:List Str:=["_law_some","_law_reasons_here","_law_fast_here","_law_seen","_law_k","_law_loose_here"]
noncomputable def Nc_law_are_apart_0:List Str:=["?0","?1","?2","_law_seen","?4","?5","_law_name"]
theorem nd_law_are_apart_0:Nc_law_are_apart_0.Nodup:=by decide+kernel
theorem aCs:aBx aC8 ["_law_some","_law_reasons_here","_law_fast_here"] (aAi aC0):=⟨rfl,rfl,rfl,by decide+kernel,rfl,by decide+kernel,by decide+kernel⟩
noncomputable def aDd (t:Adr) (aAq:List D→M D):Rho→Option Out:=
  (aAm (aDl 3 (mkL aAs))
  (aAm (sForR1 (f1 aEa (look 0)) (gN 4) (aAm (aDl 5 (app aAq (aAe (b2 gIx (look 0) (look 4)) (aAe (look 2) aAs))))
  (aAm (sIf (orB (aAt (b2 (gInT true) (b2 gIx (look 0) (look 4)) (look 1))) (orB (aAt (b2 (gInT false) (b2 gIx (look 0) (look 4)) (aEg (look 0) aBu (aBk (look 4))))) (aAt (b2 gNeS (cmp 1 (itE (look 5)) [6] h1 (aAt (b2 (gIn false) (look 6) (look 3))) (look 6)) (mkL aAs))))) (aAm (aD8 (con (.bl false)))
  aBd) aBd)
  (aAm (aDl 3 (b2 aAv (look 3) (look 5)))
  aBd))))
  (aAm (aD8 (con (.bl true)))
  aBd)))
theorem tm_law_are_apart (T:Txt K mg t) {k:Nat} {aAq:List D→M D} (aB3:Def P w K mg base k "_law_loose" aAq) {cdv:Value} {A:Around} {outer:List Env} {s:Shared} {H:Hp} {E:XK} (hr:Room k (A.deeper (envOfC "_law_are_apart" (aAi aC0) s.heap.objs.size t.aC4 cdv))) (B:Hp):
  PDB (cxN P w K mg base aC8 "_law_are_apart" (aAi aC0) t.aC4 cdv A outer s H E) B (aBi aC0) (aDd t aAq):=
 by
 refine aAd ?_ ?_;(refine aA2 (i:=3) (aCs).nd rfl (Or.inr rfl) ?_;(refine pd_lst ?_;(exact aAh)));(refine aAd ?_ ?_;(refine pds_forR1 rfl T.b_range PassesOwn.never rfl ?_ (fun B=> ?_) (fun B=> ?_);(refine aC2 rfl T.b_len ?_;(exact aAa 0));(exact aDy (i:=4) (aCs).nd rfl (Or.inl rfl));(refine aAd ?_ ?_;(refine aA2 (i:=5) (aCs).nd rfl (Or.inl rfl) ?_;(refine aA1 aB3 hr rfl ?_;(refine aAb ?_ ?_;(refine aBa ?_ ?_ (fun _ _=>rfl);(exact aAa 0);(exact aAa 4));(refine aAb ?_ ?_;(exact aAa 2);(exact aAh)))));(refine aAd ?_ ?_;(refine aB8 ?_ ?_ ?_;(refine PDW.pdt ?_;(refine pdw_or ?_ ?_;(refine pdt_notinT hr ?_ ?_;(refine aBa ?_ ?_ (fun _ _=>rfl);(exact aAa 0);(exact aAa 4));(exact aAa 1));(refine pdw_or ?_ ?_;(refine pdt_inT hr ?_ ?_;(refine aBa ?_ ?_ (fun _ _=>rfl);(exact aAa 0);(exact aAa 4));(refine aBh ?_ ?_ ?_;(exact aAa 0);(exact aBo);(refine aBe ?_;(exact aAa 4))));(refine pdw_or1 ?_;(refine pdt_neS hr ?_ ?_;(refine pd_comp1 (N':=Nc_law_are_apart_0) (m:=1) (ks:=[6]) rfl rfl rfl rfl (by repeat (first | exact lk_nil | refine lk_cons rfl (by first | exact Or.inl rfl | exact Or.inr rfl) ?_)) rfl rfl rfl rfl rfl ?_ (fun C s₀ H₀ ex=> ?_) (fun C s₀ H₀ ex B=> ?_) (fun C s₀ H₀ ex B=> ?_);(refine pit_D ?_;(exact aAa 5));(exact pdn_1 nd_law_are_apart_0 rfl (Or.inl rfl));(refine pif_some ?_;(refine pdt_in ?_ ?_;(exact aAa 6);(exact aAa 3)));(exact aAa 6));(refine pd_lst ?_;(exact aAh)))))));(refine aAd ?_ ?_;(refine aAx ?_;(exact pd_bl));(exact aAj));(exact aAj));(refine aAd ?_ ?_;(refine aA2 (i:=3) (aCs).nd rfl (Or.inr rfl) ?_;(refine aA4 ?_ ?_;(exact aAa 3);(exact aAa 5)));(exact aAj)))));(refine aAd ?_ ?_;(refine aAx ?_;(exact pd_bl));(exact aAj)))
theorem ok_law_are_apart (T:Txt K mg t) {k:Nat} {aAq:List D→M D} (aB3:Def P w K mg base k "_law_loose" aAq) {F:List D→M D} (hL: ∀ds r,F ds=some r→ds.length=3) (hq: ∀ds r,F ds=some r→∃d,r= .ok d∧aAr (aDd t aAq (aB7 aC8 ds))=ok d):Def P w K mg base (k+1) "_law_are_apart" F:=by
 obtain⟨fd,Fu,bi⟩:=T.aAo
 exact⟨_,_,_,T.g_law_are_apart,Fu.kp,bi,hL,fn_D Fu aCs hL fun cdv A outer s H E hr=>⟨_,fun B=>tm_law_are_apart T aB3 hr B,hq⟩⟩
noncomputable def aBt:List Str:=["_law_tree","_law_reasons_here","_law_budget","_law_fast_here","_law_loose_here","_law_k"]
theorem sc_law_shown:aBx aBt ["_law_tree","_law_reasons_here","_law_budget","_law_fast_here"] (aAi s_law_shown):=⟨rfl,rfl,rfl,by decide+kernel,rfl,by decide+kernel,by decide+kernel⟩
noncomputable def aBl (t:Adr) (aAo:List D→M D) (aBf:List D→M D) (aAq:List D→M D) (aAy:List D→M D):Rho→Option Out:=
  (aAm (sIf (aAt (b2 gEq (b2 gIx (look 0) (con (.int 0))) (con (.str "apart")))) (aAm (aD8 (andV (b2 gGt (f1 aEa (b2 gIx (look 0) (con (.int 1)))) (look 2)) (app aAo (aAe (b2 gIx (look 0) (con (.int 1))) (aAe (look 1) (aAe (look 3) aAs))))))
  aBd) aBd)
  (aAm (sIf (aAt (b2 (gInT true) (b2 gIx (look 0) (con (.int 1))) (look 1))) (aAm (aD8 (con (.bl false)))
  aBd) aBd)
  (aAm (aDl 4 (app aAq (aAe (b2 gIx (look 0) (con (.int 1))) (aAe (look 3) aAs))))
  (aAm (sIf (aAt (b2 gEq (b2 gIx (look 0) (con (.int 0))) (con (.str "fast")))) (aAm (aD8 (b2 gEqS (look 4) (mkL aAs)))
  aBd) aBd)
  (aAm (sIf (aAt (b2 gNe (f1 aEa (b2 gIx (look 0) (con (.int 2)))) (f1 aEa (look 4)))) (aAm (aD8 (con (.bl false)))
  aBd) aBd)
  (aAm (sForR1 (f1 aEa (look 4)) (gN 5) (aAm (sIf (notB (test (app aAy (aAe (b2 gIx (b2 gIx (look 0) (con (.int 2))) (look 5)) (aAe (app aBf (aAe (look 1) (aAe (b2 gIx (look 4) (look 5)) aAs))) (aAe (b2 gSub (look 2) (con (.int 1))) (aAe (look 3) aAs))))))) (aAm (aD8 (con (.bl false)))
  aBd) aBd)
  aBd))
  (aAm (aD8 (con (.bl true)))
  aBd)))))))
theorem tm_law_shown (T:Txt K mg t) {k:Nat} {aAo:List D→M D} (aB4:Def P w K mg base k "_law_are_apart" aAo) {aBf:List D→M D} (G_law_left:Def P w K mg base k "_law_left" aBf) {aAq:List D→M D} (aB3:Def P w K mg base k "_law_loose" aAq) {aAy:List D→M D} (aCr:Def P w K mg base k "_law_shown" aAy) {cdv:Value} {A:Around} {outer:List Env} {s:Shared} {H:Hp} {E:XK} (hr:Room k (A.deeper (envOfC "_law_shown" (aAi s_law_shown) s.heap.objs.size t.f_law_shown cdv))) (B:Hp):
  PDB (cxN P w K mg base aBt "_law_shown" (aAi s_law_shown) t.f_law_shown cdv A outer s H E) B (aBi s_law_shown) (aBl t aAo aBf aAq aAy):=
 by
 refine aAd ?_ ?_;(refine aB8 ?_ ?_ ?_;(refine pdt_eq ?_ ?_;(refine aBa ?_ ?_ (fun _ _=>rfl);(exact aAa 0);(exact aAg));(exact aCt));(refine aAd ?_ ?_;(refine aAx ?_;(refine pd_and ?_ ?_;(refine pd_gt ?_ ?_;(refine aC2 rfl T.b_len ?_;(refine aBa ?_ ?_ (fun _ _=>rfl);(exact aAa 0);(exact aAg)));(exact aAa 2));(refine pd_one ?_;(refine aA1 aB4 hr rfl ?_;(refine aAb ?_ ?_;(refine aBa ?_ ?_ (fun _ _=>rfl);(exact aAa 0);(exact aAg));(refine aAb ?_ ?_;(exact aAa 1);(refine aAb ?_ ?_;(exact aAa 3);(exact aAh))))))));(exact aAj));(exact aAj));(refine aAd ?_ ?_;(refine aB8 ?_ ?_ ?_;(refine pdt_notinT hr ?_ ?_;(refine aBa ?_ ?_ (fun _ _=>rfl);(exact aAa 0);(exact aAg));(exact aAa 1));(refine aAd ?_ ?_;(refine aAx ?_;(exact pd_bl));(exact aAj));(exact aAj));(refine aAd ?_ ?_;(refine aA2 (i:=4) (sc_law_shown).nd rfl (Or.inl rfl) ?_;(refine aA1 aB3 hr rfl ?_;(refine aAb ?_ ?_;(refine aBa ?_ ?_ (fun _ _=>rfl);(exact aAa 0);(exact aAg));(refine aAb ?_ ?_;(exact aAa 3);(exact aAh)))));(refine aAd ?_ ?_;(refine aB8 ?_ ?_ ?_;(refine pdt_eq ?_ ?_;(refine aBa ?_ ?_ (fun _ _=>rfl);(exact aAa 0);(exact aAg));(exact aCt));(refine aAd ?_ ?_;(refine aAx ?_;(refine pd_eqS hr ?_ ?_;(exact aAa 4);(refine pd_lst ?_;(exact aAh))));(exact aAj));(exact aAj));(refine aAd ?_ ?_;(refine aB8 ?_ ?_ ?_;(refine pdt_ne ?_ ?_;(refine aC2 rfl T.b_len ?_;(refine aBa ?_ ?_ (fun _ _=>rfl);(exact aAa 0);(exact aAg)));(refine aC2 rfl T.b_len ?_;(exact aAa 4)));(refine aAd ?_ ?_;(refine aAx ?_;(exact pd_bl));(exact aAj));(exact aAj));(refine aAd ?_ ?_;(refine pds_forR1 rfl T.b_range PassesOwn.never rfl ?_ (fun B=> ?_) (fun B=> ?_);(refine aC2 rfl T.b_len ?_;(exact aAa 4));(exact aDy (i:=5) (sc_law_shown).nd rfl (Or.inl rfl));(refine aAd ?_ ?_;(refine aB8 ?_ ?_ ?_;(refine pdt_not ?_;(refine pdt_val ?_;(refine aA1 aCr hr rfl ?_;(refine aAb ?_ ?_;(refine aBa ?_ ?_ (fun _ _=>rfl);(refine aBa ?_ ?_ (fun _ _=>rfl);(exact aAa 0);(exact aAg));(exact aAa 5));(refine aAb ?_ ?_;(refine aA1 G_law_left hr rfl ?_;(refine aAb ?_ ?_;(exact aAa 1);(refine aAb ?_ ?_;(refine aBa ?_ ?_ (fun _ _=>rfl);(exact aAa 4);(exact aAa 5));(exact aAh))));(refine aAb ?_ ?_;(refine pd_sub ?_ ?_;(exact aAa 2);(exact aAg));(refine aAb ?_ ?_;(exact aAa 3);(exact aAh))))))));(refine aAd ?_ ?_;(refine aAx ?_;(exact pd_bl));(exact aAj));(exact aAj));(exact aAj)));(refine aAd ?_ ?_;(refine aAx ?_;(exact pd_bl));(exact aAj)))))))
theorem ok_law_shown (T:Txt K mg t) {k:Nat} {aAo:List D→M D} (aB4:Def P w K mg base k "_law_are_apart" aAo) {aBf:List D→M D} (G_law_left:Def P w K mg base k "_law_left" aBf) {aAq:List D→M D} (aB3:Def P w K mg base k "_law_loose" aAq) {aAy:List D→M D} (aCr:Def P w K mg base k "_law_shown" aAy) {F:List D→M D} (hL: ∀ds r,F ds=some r→ds.length=4) (hq: ∀ds r,F ds=some r→∃d,r= .ok d∧aAr (aBl t aAo aBf aAq aAy (aB7 aBt ds))=ok d):Def P w K mg base (k+1) "_law_shown" F:=by
 obtain⟨fd,Fu,bi⟩:=T.aAy
 exact⟨_,_,_,T.g_law_shown,Fu.kp,bi,hL,fn_D Fu sc_law_shown hL fun cdv A outer s H E hr=>⟨_,fun B=>tm_law_shown T aB4 G_law_left aB3 aCr hr B,hq⟩⟩
noncomputable def aD6:List Str:=["_law_cells","_law_names","_law_most","_law_some","_law_cell","_law_xs"]
noncomputable def Nc_law_reasons_0:List Str:=["?0","_law_names","?2","?3","?4","_law_xs","_law_j"]
noncomputable def Nc_law_reasons_1:List Str:=["?0","_law_names","?2","?3","?4","_law_xs","_law_j"]
theorem nd_law_reasons_1:Nc_law_reasons_1.Nodup:=by decide+kernel
theorem sc_law_reasons:aBx aD6 ["_law_cells","_law_names","_law_most"] (aAi aDw):=⟨rfl,rfl,rfl,by decide+kernel,rfl,by decide+kernel,by decide+kernel⟩
noncomputable def aD5 (t:Adr) (aCb:List D→M D) (aAk:List D→M D):Rho→Option Out:=
  (aAm (sNew 3 aAs)
  (aAm (sForN 0 (gN 4) (aAm (sSetX 5 (app aAk (aAe (look 4) (aAe (con (.int 7)) aAs))))
  (aAm (sOwnL 3 (aAe (cmp 1 (itR (b2 aAv (con (.int 1)) (b2 aCf (b2 gIx (look 5) (con (.int 6))) (look 2)))) [6] h1 (fun _=>ok true) (b2 gIx (look 1) (b2 aCf (b2 gIx (look 5) (look 6)) (f1 aEa (look 1))))) aAs))
  aBd)))
  (aAm (aD8 (app aCb (aAe (look 3) aAs)))
  aBd)))
theorem tm_law_reasons (T:Txt K mg t) {k:Nat} {aCb:List D→M D} (G_law_least:Def P w K mg base k "_law_least" aCb) {aAk:List D→M D} (aA8:Def P w K mg base k "_law_stream" aAk) {cdv:Value} {A:Around} {outer:List Env} {s:Shared} {H:Hp} {E:XK} (hr:Room k (A.deeper (envOfC "_law_reasons" (aAi aDw) s.heap.objs.size t.aD3 cdv))) (B:Hp):
  PDB (cxN P w K mg base aD6 "_law_reasons" (aAi aDw) t.aD3 cdv A outer s H E) B (aBi aDw) (aD5 t aCb aAk):=
 by
 refine aAd ?_ ?_;(refine pds_new (i:=3) (sc_law_reasons).nd rfl (Or.inl rfl) ?_;(exact aAh));(refine aAd ?_ ?_;(refine pds_forN 0 rfl (Or.inl rfl) PassesOwn.never rfl (fun B=> ?_) (fun B=> ?_);(exact aDy (i:=4) (sc_law_reasons).nd rfl (Or.inl rfl));(refine aAd ?_ ?_;(refine pds_setX (i:=5) (sc_law_reasons).nd rfl (Or.inr rfl) ?_;(refine aA1 aA8 hr rfl ?_;(refine aAb ?_ ?_;(exact aAa 4);(refine aAb ?_ ?_;(exact aAg);(exact aAh)))));(refine aAd ?_ ?_;(refine pds_appendL (i:=3) rfl (Or.inl rfl) ?_;(refine pd_comp1 (N':=Nc_law_reasons_1) (m:=1) (ks:=[6]) rfl rfl rfl rfl (by repeat (first | exact lk_nil | refine lk_cons rfl (by first | exact Or.inl rfl | exact Or.inr rfl) ?_)) rfl rfl rfl rfl rfl ?_ (fun C s₀ H₀ ex=> ?_) (fun C s₀ H₀ ex B=> ?_) (fun C s₀ H₀ ex B=> ?_);(refine pit_r1 rfl T.b_range ?_;(refine aA4 ?_ ?_;(exact aAg);(refine aBq ?_ ?_;(refine aBa ?_ ?_ (fun _ _=>rfl);(exact aAa 5);(exact aAg));(exact aAa 2))));(exact pdn_1 nd_law_reasons_1 rfl (Or.inl rfl));(exact pif_none);(refine aBa ?_ ?_ (fun _ _=>rfl);(exact aAa 1);(refine aBq ?_ ?_;(refine aBa ?_ ?_ (fun _ _=>rfl);(exact aAa 5);(exact aAa 6));(refine aC2 rfl T.b_len ?_;(exact aAa 1))))));(exact aAj))));(refine aAd ?_ ?_;(refine aAx ?_;(refine aA1 G_law_least hr rfl ?_;(refine aAb ?_ ?_;(exact aAa 3);(exact aAh))));(exact aAj)))
theorem ok_law_reasons (T:Txt K mg t) {k:Nat} {aCb:List D→M D} (G_law_least:Def P w K mg base k "_law_least" aCb) {aAk:List D→M D} (aA8:Def P w K mg base k "_law_stream" aAk) {F:List D→M D} (hL: ∀ds r,F ds=some r→ds.length=3) (hq: ∀ds r,F ds=some r→∃d,r= .ok d∧aAr (aD5 t aCb aAk (aB7 aD6 ds))=ok d):Def P w K mg base (k+1) "_law_reasons" F:=by
 obtain⟨fd,Fu,bi⟩:=T.aBp
 exact⟨_,_,_,T.g_law_reasons,Fu.kp,bi,hL,fn_D Fu sc_law_reasons hL fun cdv A outer s H E hr=>⟨_,fun B=>tm_law_reasons T G_law_least aA8 hr B,hq⟩⟩
noncomputable def N_law_fast:List Str:=["_law_cell","_law_names","_law_xs"]
noncomputable def Nc_law_fast_0:List Str:=["?0","_law_names","_law_xs","_law_k"]
theorem nd_law_fast_0:Nc_law_fast_0.Nodup:=by decide+kernel
theorem sc_law_fast:aBx N_law_fast ["_law_cell","_law_names"] (aAi s_law_fast):=⟨rfl,rfl,rfl,by decide+kernel,rfl,by decide+kernel,by decide+kernel⟩
noncomputable def den_law_fast (t:Adr) (aAk:List D→M D):Rho→Option Out:=
  (aAm (aDl 2 (app aAk (aAe (look 0) (aAe (f1 aEa (look 1)) aAs))))
  (aAm (sIf (aAt (b2 gEq (b2 aCf (look 0) (con (.int 2))) (con (.int 0)))) (aAm (aD8 (mkL aAs))
  aBd) aBd)
  (aAm (aD8 (cmp 1 (itR (f1 aEa (look 1))) [3] h1 (aAt (b2 gEq (b2 aCf (b2 gIx (look 2) (look 3)) (con (.int 4))) (con (.int 0)))) (b2 gIx (look 1) (look 3))))
  aBd)))
theorem tm_law_fast (T:Txt K mg t) {k:Nat} {aAk:List D→M D} (aA8:Def P w K mg base k "_law_stream" aAk) {cdv:Value} {A:Around} {outer:List Env} {s:Shared} {H:Hp} {E:XK} (hr:Room k (A.deeper (envOfC "_law_fast" (aAi s_law_fast) s.heap.objs.size t.f_law_fast cdv))) (B:Hp):
  PDB (cxN P w K mg base N_law_fast "_law_fast" (aAi s_law_fast) t.f_law_fast cdv A outer s H E) B (aBi s_law_fast) (den_law_fast t aAk):=
 by
 refine aAd ?_ ?_;(refine aA2 (i:=2) (sc_law_fast).nd rfl (Or.inr rfl) ?_;(refine aA1 aA8 hr rfl ?_;(refine aAb ?_ ?_;(exact aAa 0);(refine aAb ?_ ?_;(refine aC2 rfl T.b_len ?_;(exact aAa 1));(exact aAh)))));(refine aAd ?_ ?_;(refine aB8 ?_ ?_ ?_;(refine pdt_eq ?_ ?_;(refine aBq ?_ ?_;(exact aAa 0);(exact aAg));(exact aAg));(refine aAd ?_ ?_;(refine aAx ?_;(refine pd_lst ?_;(exact aAh)));(exact aAj));(exact aAj));(refine aAd ?_ ?_;(refine aAx ?_;(refine pd_comp1 (N':=Nc_law_fast_0) (m:=1) (ks:=[3]) rfl rfl rfl rfl (by repeat (first | exact lk_nil | refine lk_cons rfl (by first | exact Or.inl rfl | exact Or.inr rfl) ?_)) rfl rfl rfl rfl rfl ?_ (fun C s₀ H₀ ex=> ?_) (fun C s₀ H₀ ex B=> ?_) (fun C s₀ H₀ ex B=> ?_);(refine pit_r1 rfl T.b_range ?_;(refine aC2 rfl T.b_len ?_;(exact aAa 1)));(exact pdn_1 nd_law_fast_0 rfl (Or.inl rfl));(refine pif_some ?_;(refine pdt_eq ?_ ?_;(refine aBq ?_ ?_;(refine aBa ?_ ?_ (fun _ _=>rfl);(exact aAa 2);(exact aAa 3));(exact aAg));(exact aAg)));(refine aBa ?_ ?_ (fun _ _=>rfl);(exact aAa 1);(exact aAa 3))));(exact aAj)))
theorem ok_law_fast (T:Txt K mg t) {k:Nat} {aAk:List D→M D} (aA8:Def P w K mg base k "_law_stream" aAk) {F:List D→M D} (hL: ∀ds r,F ds=some r→ds.length=2) (hq: ∀ds r,F ds=some r→∃d,r= .ok d∧aAr (den_law_fast t aAk (aB7 N_law_fast ds))=ok d):Def P w K mg base (k+1) "_law_fast" F:=by
 obtain⟨fd,Fu,bi⟩:=T.aCw
 exact⟨_,_,_,T.g_law_fast,Fu.kp,bi,hL,fn_D Fu sc_law_fast hL fun cdv A outer s H E hr=>⟨_,fun B=>tm_law_fast T aA8 hr B,hq⟩⟩
noncomputable def N_law_greedy:List Str:=["_law_reasons_here","_law_fast_here","_law_number","_law_found","_law_at","_law_reason"]
theorem sc_law_greedy:aBx N_law_greedy ["_law_reasons_here","_law_fast_here","_law_number"] (aAi s_law_greedy):=⟨rfl,rfl,rfl,by decide+kernel,rfl,by decide+kernel,by decide+kernel⟩
noncomputable def den_law_greedy (t:Adr) (aAo:List D→M D):Rho→Option Out:=
  (aAm (sNew 3 aAs)
  (aAm (aDl 4 (b2 aCf (look 2) (b2 aAv (f1 aEa (look 0)) (con (.int 1)))))
  (aAm (sForE (b2 aAv (aEg (look 0) (aBk (look 4)) aBu) (aEg (look 0) aBu (aBk (look 4)))) (gN 5) (aAm (sIf (test (app aAo (aAe (b2 aAv (look 3) (mkL (aAe (look 5) aAs))) (aAe (look 0) (aAe (look 1) aAs))))) (aAm (sOwn lApp 3 (aAe (look 5) aAs))
  aBd) aBd)
  aBd))
  (aAm (aD8 (f1 toT (look 3)))
  aBd))))
theorem tm_law_greedy (T:Txt K mg t) {k:Nat} {aAo:List D→M D} (aB4:Def P w K mg base k "_law_are_apart" aAo) {cdv:Value} {A:Around} {outer:List Env} {s:Shared} {H:Hp} {E:XK} (hr:Room k (A.deeper (envOfC "_law_greedy" (aAi s_law_greedy) s.heap.objs.size t.f_law_greedy cdv))) (B:Hp):
  PDB (cxN P w K mg base N_law_greedy "_law_greedy" (aAi s_law_greedy) t.f_law_greedy cdv A outer s H E) B (aBi s_law_greedy) (den_law_greedy t aAo):=
 by
 refine aAd ?_ ?_;(refine pds_new (i:=3) (sc_law_greedy).nd rfl (Or.inl rfl) ?_;(exact aAh));(refine aAd ?_ ?_;(refine aA2 (i:=4) (sc_law_greedy).nd rfl (Or.inl rfl) ?_;(refine aBq ?_ ?_;(exact aAa 2);(refine aA4 ?_ ?_;(refine aC2 rfl T.b_len ?_;(exact aAa 0));(exact aAg))));(refine aAd ?_ ?_;(refine pds_forE PassesOwn.never rfl ?_ (fun B=> ?_) (fun B=> ?_);(refine aA4 ?_ ?_;(refine aBh ?_ ?_ ?_;(exact aAa 0);(refine aBe ?_;(exact aAa 4));(exact aBo));(refine aBh ?_ ?_ ?_;(exact aAa 0);(exact aBo);(refine aBe ?_;(exact aAa 4))));(exact aDy (i:=5) (sc_law_greedy).nd rfl (Or.inl rfl));(refine aAd ?_ ?_;(refine aB8 ?_ ?_ ?_;(refine pdt_val ?_;(refine aA1 aB4 hr rfl ?_;(refine aAb ?_ ?_;(refine aA4 ?_ ?_;(exact aAa 3);(refine pd_lst ?_;(refine aAb ?_ ?_;(exact aAa 5);(exact aAh))));(refine aAb ?_ ?_;(exact aAa 0);(refine aAb ?_ ?_;(exact aAa 1);(exact aAh))))));(refine aAd ?_ ?_;(refine aCv (i:=3) rfl (Or.inl rfl) ?_;(exact aAa 5));(exact aAj));(exact aAj));(exact aAj)));(refine aAd ?_ ?_;(refine aAx ?_;(refine pd_tuple rfl T.b_tuple ?_;(exact aAa 3)));(exact aAj))))
theorem ok_law_greedy (T:Txt K mg t) {k:Nat} {aAo:List D→M D} (aB4:Def P w K mg base k "_law_are_apart" aAo) {F:List D→M D} (hL: ∀ds r,F ds=some r→ds.length=3) (hq: ∀ds r,F ds=some r→∃d,r= .ok d∧aAr (den_law_greedy t aAo (aB7 N_law_greedy ds))=ok d):Def P w K mg base (k+1) "_law_greedy" F:=by
 obtain⟨fd,Fu,bi⟩:=T.aB2
 exact⟨_,_,_,T.g_law_greedy,Fu.kp,bi,hL,fn_D Fu sc_law_greedy hL fun cdv A outer s H E hr=>⟨_,fun B=>tm_law_greedy T aB4 hr B,hq⟩⟩
noncomputable def aDn:List Str:=["_law_reasons_here","_law_budget","_law_fast_here","_law_number","_law_reason","_law_loose_here","_law_apart","_law_on","_law_cases","_law_k"]
theorem aCz:aBx aDn ["_law_reasons_here","_law_budget","_law_fast_here","_law_number"] (aAi s_law_build):=⟨rfl,rfl,rfl,by decide+kernel,rfl,by decide+kernel,by decide+kernel⟩
noncomputable def aBw (t:Adr) (aA5:List D→M D) (aB2:List D→M D) (aBf:List D→M D) (aAq:List D→M D):Rho→Option Out:=
  (aAm (sIf (aAt (b2 gEqNil (look 0) (mkT aAs))) (aAm (aD8 (mkT (aAe (con (.str "apart")) (aAe (mkT aAs) aAs))))
  aBd) aBd)
  (aAm (aDl 4 (b2 gIx (look 0) (b2 aCf (look 3) (f1 aEa (look 0)))))
  (aAm (aDl 5 (app aAq (aAe (look 4) (aAe (look 2) aAs))))
  (aAm (sIf (andB (aAt (b2 gEqS (look 5) (mkL aAs))) (aAt (b2 gEq (b2 aCf (b2 aCo (look 3) (con (.int 7))) (con (.int 2))) (con (.int 0))))) (aAm (aD8 (mkT (aAe (con (.str "fast")) (aAe (look 4) aAs))))
  aBd) aBd)
  (aAm (aDl 6 (app aB2 (aAe (look 0) (aAe (look 2) (aAe (b2 aCo (look 3) (con (.int 14))) aAs)))))
  (aAm (sIf (andB (aAt (b2 gGt (f1 aEa (look 6)) (look 1))) (orB (aAt (b2 gGt (b2 aCf (b2 aCo (look 3) (con (.int 3))) (con (.int 4))) (con (.int 0)))) (aAt (b2 gLt (look 1) (con (.int 0)))))) (aAm (aD8 (mkT (aAe (con (.str "apart")) (aAe (look 6) aAs))))
  aBd) aBd)
  (aAm (aDl 7 (b2 aCf (b2 aAv (b2 aCu (look 3) (con (.int 48271))) (con (.int 1))) (con (.int 2147483647))))
  (aAm (sNew 8 aAs)
  (aAm (sForR1 (f1 aEa (look 5)) (gN 9) (aAm (sOwn lApp 8 (aAe (app aA5 (aAe (app aBf (aAe (look 0) (aAe (b2 gIx (look 5) (look 9)) aAs))) (aAe (b2 gSub (b2 gMin (look 1) (con (.int 4))) (con (.int 1))) (aAe (look 2) (aAe (b2 aAv (look 7) (b2 aCu (con (.int 97)) (look 9))) aAs))))) aAs))
  aBd))
  (aAm (aD8 (mkT (aAe (con (.str "split")) (aAe (look 4) (aAe (f1 toT (look 8)) aAs)))))
  aBd))))))))))
theorem tm_law_build (T:Txt K mg t) {k:Nat} {aA5:List D→M D} (aDo:Def P w K mg base k "_law_build" aA5) {aB2:List D→M D} (G_law_greedy:Def P w K mg base k "_law_greedy" aB2) {aBf:List D→M D} (G_law_left:Def P w K mg base k "_law_left" aBf) {aAq:List D→M D} (aB3:Def P w K mg base k "_law_loose" aAq) {cdv:Value} {A:Around} {outer:List Env} {s:Shared} {H:Hp} {E:XK} (hr:Room k (A.deeper (envOfC "_law_build" (aAi s_law_build) s.heap.objs.size t.f_law_build cdv))) (B:Hp):
  PDB (cxN P w K mg base aDn "_law_build" (aAi s_law_build) t.f_law_build cdv A outer s H E) B (aBi s_law_build) (aBw t aA5 aB2 aBf aAq):=
 by
 refine aAd ?_ ?_;(refine aB8 ?_ ?_ ?_;(refine pdt_eqnil hr ?_ ?_;(exact aAa 0);(refine aB0 ?_;(exact aAh)));(refine aAd ?_ ?_;(refine aAx ?_;(refine aB0 ?_;(refine aAb ?_ ?_;(exact aCt);(refine aAb ?_ ?_;(refine aB0 ?_;(exact aAh));(exact aAh)))));(exact aAj));(exact aAj));(refine aAd ?_ ?_;(refine aA2 (i:=4) (aCz).nd rfl (Or.inl rfl) ?_;(refine aBa ?_ ?_ (fun _ _=>rfl);(exact aAa 0);(refine aBq ?_ ?_;(exact aAa 3);(refine aC2 rfl T.b_len ?_;(exact aAa 0)))));(refine aAd ?_ ?_;(refine aA2 (i:=5) (aCz).nd rfl (Or.inl rfl) ?_;(refine aA1 aB3 hr rfl ?_;(refine aAb ?_ ?_;(exact aAa 4);(refine aAb ?_ ?_;(exact aAa 2);(exact aAh)))));(refine aAd ?_ ?_;(refine aB8 ?_ ?_ ?_;(refine PDW.pdt ?_;(refine pdw_and ?_ ?_;(refine pdt_eqS hr ?_ ?_;(exact aAa 5);(refine pd_lst ?_;(exact aAh)));(refine pdw_and1 ?_;(refine pdt_eq ?_ ?_;(refine aBq ?_ ?_;(refine aDz ?_ ?_;(exact aAa 3);(exact aAg));(exact aAg));(exact aAg)))));(refine aAd ?_ ?_;(refine aAx ?_;(refine aB0 ?_;(refine aAb ?_ ?_;(exact aCt);(refine aAb ?_ ?_;(exact aAa 4);(exact aAh)))));(exact aAj));(exact aAj));(refine aAd ?_ ?_;(refine aA2 (i:=6) (aCz).nd rfl (Or.inl rfl) ?_;(refine aA1 G_law_greedy hr rfl ?_;(refine aAb ?_ ?_;(exact aAa 0);(refine aAb ?_ ?_;(exact aAa 2);(refine aAb ?_ ?_;(refine aDz ?_ ?_;(exact aAa 3);(exact aAg));(exact aAh))))));(refine aAd ?_ ?_;(refine aB8 ?_ ?_ ?_;(refine PDW.pdt ?_;(refine pdw_and ?_ ?_;(refine pdt_gt ?_ ?_;(refine aC2 rfl T.b_len ?_;(exact aAa 6));(exact aAa 1));(refine pdw_and1 ?_;(refine PDW.pdt ?_;(refine pdw_or ?_ ?_;(refine pdt_gt ?_ ?_;(refine aBq ?_ ?_;(refine aDz ?_ ?_;(exact aAa 3);(exact aAg));(exact aAg));(exact aAg));(refine pdw_or1 ?_;(refine pdt_lt ?_ ?_;(exact aAa 1);(exact aAg))))))));(refine aAd ?_ ?_;(refine aAx ?_;(refine aB0 ?_;(refine aAb ?_ ?_;(exact aCt);(refine aAb ?_ ?_;(exact aAa 6);(exact aAh)))));(exact aAj));(exact aAj));(refine aAd ?_ ?_;(refine aA2 (i:=7) (aCz).nd rfl (Or.inl rfl) ?_;(refine aBq ?_ ?_;(refine aA4 ?_ ?_;(refine pd_times ?_ ?_;(exact aAa 3);(exact aAg));(exact aAg));(exact aAg)));(refine aAd ?_ ?_;(refine pds_new (i:=8) (aCz).nd rfl (Or.inl rfl) ?_;(exact aAh));(refine aAd ?_ ?_;(refine pds_forR1 rfl T.b_range PassesOwn.never rfl ?_ (fun B=> ?_) (fun B=> ?_);(refine aC2 rfl T.b_len ?_;(exact aAa 5));(exact aDy (i:=9) (aCz).nd rfl (Or.inl rfl));(refine aAd ?_ ?_;(refine aCv (i:=8) rfl (Or.inl rfl) ?_;(refine aA1 aDo hr rfl ?_;(refine aAb ?_ ?_;(refine aA1 G_law_left hr rfl ?_;(refine aAb ?_ ?_;(exact aAa 0);(refine aAb ?_ ?_;(refine aBa ?_ ?_ (fun _ _=>rfl);(exact aAa 5);(exact aAa 9));(exact aAh))));(refine aAb ?_ ?_;(refine pd_sub ?_ ?_;(refine pd_min2 rfl rfl T.b_min ?_ ?_;(exact aAa 1);(exact aAg));(exact aAg));(refine aAb ?_ ?_;(exact aAa 2);(refine aAb ?_ ?_;(refine aA4 ?_ ?_;(exact aAa 7);(refine pd_times ?_ ?_;(exact aAg);(exact aAa 9)));(exact aAh)))))));(exact aAj)));(refine aAd ?_ ?_;(refine aAx ?_;(refine aB0 ?_;(refine aAb ?_ ?_;(exact aCt);(refine aAb ?_ ?_;(exact aAa 4);(refine aAb ?_ ?_;(refine pd_tuple rfl T.b_tuple ?_;(exact aAa 8));(exact aAh))))));(exact aAj))))))))))
theorem ok_law_build (T:Txt K mg t) {k:Nat} {aA5:List D→M D} (aDo:Def P w K mg base k "_law_build" aA5) {aB2:List D→M D} (G_law_greedy:Def P w K mg base k "_law_greedy" aB2) {aBf:List D→M D} (G_law_left:Def P w K mg base k "_law_left" aBf) {aAq:List D→M D} (aB3:Def P w K mg base k "_law_loose" aAq) {F:List D→M D} (hL: ∀ds r,F ds=some r→ds.length=4) (hq: ∀ds r,F ds=some r→∃d,r= .ok d∧aAr (aBw t aA5 aB2 aBf aAq (aB7 aDn ds))=ok d):Def P w K mg base (k+1) "_law_build" F:=by
 obtain⟨fd,Fu,bi⟩:=T.aA5
 exact⟨_,_,_,T.g_law_build,Fu.kp,bi,hL,fn_D Fu aCz hL fun cdv A outer s H E hr=>⟨_,fun B=>tm_law_build T aDo G_law_greedy G_law_left aB3 hr B,hq⟩⟩
noncomputable def aCj:List Str:=["_law_some","_law_reasons_here","_law_number","_law_at","_law_reason"]
theorem aCx:aBx aCj ["_law_some","_law_reasons_here","_law_number"] (aAi aCg):=⟨rfl,rfl,rfl,by decide+kernel,rfl,by decide+kernel,by decide+kernel⟩
noncomputable def aCp (t:Adr):Rho→Option Out:=
  (aAm (aDl 3 (b2 aCf (look 2) (b2 aAv (f1 aEa (look 0)) (con (.int 1)))))
  (aAm (aDl 4 (mkT aAs))
  (aAm (sIf (aAt (b2 gNeNil (look 1) (mkT aAs))) (aAm (aDl 4 (b2 gIx (look 1) (b2 aCf (b2 aCo (look 2) (con (.int 5))) (f1 aEa (look 1)))))
  aBd) aBd)
  (aAm (sIf (aAt (b2 gEq (b2 aCf (b2 aCo (look 2) (con (.int 11))) (con (.int 4))) (con (.int 0)))) (aAm (aD8 (mkT (aAe (con (.str "apart")) (aAe (b2 aAv (aEg (look 0) aBu (aBk (look 3))) (aEg (look 0) (aBk (b2 aAv (look 3) (con (.int 1)))) aBu)) aAs))))
  aBd) aBd)
  (aAm (sIf (aAt (b2 gEq (b2 aCf (b2 aCo (look 2) (con (.int 11))) (con (.int 4))) (con (.int 1)))) (aAm (aD8 (mkT (aAe (con (.str "apart")) (aAe (b2 aAv (b2 aAv (aEg (look 0) aBu (aBk (look 3))) (mkT (aAe (look 4) aAs))) (aEg (look 0) (aBk (look 3)) aBu)) aAs))))
  aBd) aBd)
  (aAm (sIf (aAt (b2 gEq (b2 aCf (b2 aCo (look 2) (con (.int 11))) (con (.int 4))) (con (.int 2)))) (aAm (aD8 (mkT (aAe (con (.str "apart")) (aAe (b2 aAv (b2 aAv (aEg (look 0) aBu (aBk (look 3))) (mkT (aAe (aEg (look 4) (aBk (con (.int 1))) aBu) aAs))) (aEg (look 0) (aBk (b2 aAv (look 3) (con (.int 1)))) aBu)) aAs))))
  aBd) aBd)
  (aAm (aD8 (mkT (aAe (con (.str "apart")) (aAe (b2 aAv (look 0) (aEg (look 0) aBu (aBk (con (.int 1))))) aAs))))
  aBd)))))))
theorem tm_law_other_apart (T:Txt K mg t) {k:Nat} {cdv:Value} {A:Around} {outer:List Env} {s:Shared} {H:Hp} {E:XK} (hr:Room k (A.deeper (envOfC "_law_other_apart" (aAi aCg) s.heap.objs.size t.aCi cdv))) (B:Hp):
  PDB (cxN P w K mg base aCj "_law_other_apart" (aAi aCg) t.aCi cdv A outer s H E) B (aBi aCg) (aCp t):=
 by
 refine aAd ?_ ?_;(refine aA2 (i:=3) (aCx).nd rfl (Or.inl rfl) ?_;(refine aBq ?_ ?_;(exact aAa 2);(refine aA4 ?_ ?_;(refine aC2 rfl T.b_len ?_;(exact aAa 0));(exact aAg))));(refine aAd ?_ ?_;(refine aA2 (i:=4) (aCx).nd rfl (Or.inl rfl) ?_;(refine aB0 ?_;(exact aAh)));(refine aAd ?_ ?_;(refine aB8 ?_ ?_ ?_;(refine pdt_nenil hr ?_ ?_;(exact aAa 1);(refine aB0 ?_;(exact aAh)));(refine aAd ?_ ?_;(refine aA2 (i:=4) (aCx).nd rfl (Or.inl rfl) ?_;(refine aBa ?_ ?_ (fun _ _=>rfl);(exact aAa 1);(refine aBq ?_ ?_;(refine aDz ?_ ?_;(exact aAa 2);(exact aAg));(refine aC2 rfl T.b_len ?_;(exact aAa 1)))));(exact aAj));(exact aAj));(refine aAd ?_ ?_;(refine aB8 ?_ ?_ ?_;(refine pdt_eq ?_ ?_;(refine aBq ?_ ?_;(refine aDz ?_ ?_;(exact aAa 2);(exact aAg));(exact aAg));(exact aAg));(refine aAd ?_ ?_;(refine aAx ?_;(refine aB0 ?_;(refine aAb ?_ ?_;(exact aCt);(refine aAb ?_ ?_;(refine aA4 ?_ ?_;(refine aBh ?_ ?_ ?_;(exact aAa 0);(exact aBo);(refine aBe ?_;(exact aAa 3)));(refine aBh ?_ ?_ ?_;(exact aAa 0);(refine aBe ?_;(refine aA4 ?_ ?_;(exact aAa 3);(exact aAg)));(exact aBo)));(exact aAh)))));(exact aAj));(exact aAj));(refine aAd ?_ ?_;(refine aB8 ?_ ?_ ?_;(refine pdt_eq ?_ ?_;(refine aBq ?_ ?_;(refine aDz ?_ ?_;(exact aAa 2);(exact aAg));(exact aAg));(exact aAg));(refine aAd ?_ ?_;(refine aAx ?_;(refine aB0 ?_;(refine aAb ?_ ?_;(exact aCt);(refine aAb ?_ ?_;(refine aA4 ?_ ?_;(refine aA4 ?_ ?_;(refine aBh ?_ ?_ ?_;(exact aAa 0);(exact aBo);(refine aBe ?_;(exact aAa 3)));(refine aB0 ?_;(refine aAb ?_ ?_;(exact aAa 4);(exact aAh))));(refine aBh ?_ ?_ ?_;(exact aAa 0);(refine aBe ?_;(exact aAa 3));(exact aBo)));(exact aAh)))));(exact aAj));(exact aAj));(refine aAd ?_ ?_;(refine aB8 ?_ ?_ ?_;(refine pdt_eq ?_ ?_;(refine aBq ?_ ?_;(refine aDz ?_ ?_;(exact aAa 2);(exact aAg));(exact aAg));(exact aAg));(refine aAd ?_ ?_;(refine aAx ?_;(refine aB0 ?_;(refine aAb ?_ ?_;(exact aCt);(refine aAb ?_ ?_;(refine aA4 ?_ ?_;(refine aA4 ?_ ?_;(refine aBh ?_ ?_ ?_;(exact aAa 0);(exact aBo);(refine aBe ?_;(exact aAa 3)));(refine aB0 ?_;(refine aAb ?_ ?_;(refine aBh ?_ ?_ ?_;(exact aAa 4);(refine aBe ?_;(exact aAg));(exact aBo));(exact aAh))));(refine aBh ?_ ?_ ?_;(exact aAa 0);(refine aBe ?_;(refine aA4 ?_ ?_;(exact aAa 3);(exact aAg)));(exact aBo)));(exact aAh)))));(exact aAj));(exact aAj));(refine aAd ?_ ?_;(refine aAx ?_;(refine aB0 ?_;(refine aAb ?_ ?_;(exact aCt);(refine aAb ?_ ?_;(refine aA4 ?_ ?_;(exact aAa 0);(refine aBh ?_ ?_ ?_;(exact aAa 0);(exact aBo);(refine aBe ?_;(exact aAg))));(exact aAh)))));(exact aAj)))))))
theorem ok_law_other_apart (T:Txt K mg t) {k:Nat} {F:List D→M D} (hL: ∀ds r,F ds=some r→ds.length=3) (hq: ∀ds r,F ds=some r→∃d,r= .ok d∧aAr (aCp t (aB7 aCj ds))=ok d):Def P w K mg base (k+1) "_law_other_apart" F:=by
 obtain⟨fd,Fu,bi⟩:=T.aA7
 exact⟨_,_,_,T.g_law_other_apart,Fu.kp,bi,hL,fn_D Fu aCx hL fun cdv A outer s H E hr=>⟨_,fun B=>tm_law_other_apart T hr B,hq⟩⟩
noncomputable def aDf:List Str:=["_law_tree","_law_reasons_here","_law_number","_law_on","_law_reason","_law_at","_law_bent","_law_spoiled_here"]
theorem aBz:aBx aDf ["_law_tree","_law_reasons_here","_law_number"] (aAi aDv):=⟨rfl,rfl,rfl,by decide+kernel,rfl,by decide+kernel,by decide+kernel⟩
noncomputable def aBr (t:Adr) (aA7:List D→M D) (aAu:List D→M D):Rho→Option Out:=
  (aAm (aDl 3 (b2 aCf (b2 aAv (b2 aCu (look 2) (con (.int 48271))) (con (.int 1))) (con (.int 2147483647))))
  (aAm (sIf (aAt (b2 gEq (b2 gIx (look 0) (con (.int 0))) (con (.str "apart")))) (aAm (aD8 (app aA7 (aAe (b2 gIx (look 0) (con (.int 1))) (aAe (look 1) (aAe (look 3) aAs)))))
  aBd) aBd)
  (aAm (aDl 4 (b2 gIx (look 0) (con (.int 1))))
  (aAm (sIf (aAt (b2 gNeNil (look 1) (mkT aAs))) (aAm (aDl 4 (b2 gIx (look 1) (b2 aCf (look 3) (f1 aEa (look 1)))))
  aBd) aBd)
  (aAm (sIf (aAt (b2 gEq (b2 gIx (look 0) (con (.int 0))) (con (.str "fast")))) (aAm (aD8 (b2 gIx (mkL (aAe (mkT (aAe (con (.str "fast")) (aAe (look 4) aAs))) (aAe (mkT (aAe (con (.str "split")) (aAe (b2 gIx (look 0) (con (.int 1))) (aAe (mkT aAs) aAs)))) (aAe (mkT (aAe (con (.str "fast")) (aAe (aEg (b2 gIx (look 0) (con (.int 1))) (aBk (con (.int 1))) aBu) aAs))) aAs)))) (b2 aCf (look 2) (con (.int 3)))))
  aBd) aBd)
  (aAm (aDl 5 (b2 aCf (b2 aCo (look 3) (con (.int 7))) (b2 aAv (f1 aEa (b2 gIx (look 0) (con (.int 2)))) (con (.int 1)))))
  (aAm (sIf (andB (aAt (b2 gLt (look 5) (f1 aEa (b2 gIx (look 0) (con (.int 2)))))) (aAt (b2 gGt (b2 aCf (look 2) (con (.int 4))) (con (.int 0))))) (aAm (aDl 6 (mkT (aAe (app aAu (aAe (b2 gIx (b2 gIx (look 0) (con (.int 2))) (look 5)) (aAe (look 1) (aAe (look 3) aAs)))) aAs)))
  (aAm (aD8 (mkT (aAe (con (.str "split")) (aAe (b2 gIx (look 0) (con (.int 1))) (aAe (b2 aAv (b2 aAv (aEg (b2 gIx (look 0) (con (.int 2))) aBu (aBk (look 5))) (look 6)) (aEg (b2 gIx (look 0) (con (.int 2))) (aBk (b2 aAv (look 5) (con (.int 1)))) aBu)) aAs)))))
  aBd)) aBd)
  (aAm (aDl 7 (mkL (aAe (mkT (aAe (con (.str "split")) (aAe (look 4) (aAe (b2 gIx (look 0) (con (.int 2))) aAs)))) (aAe (mkT (aAe (con (.str "split")) (aAe (b2 gIx (look 0) (con (.int 1))) (aAe (b2 aAv (aEg (b2 gIx (look 0) (con (.int 2))) aBu (aBk (look 5))) (aEg (b2 gIx (look 0) (con (.int 2))) (aBk (b2 aAv (look 5) (con (.int 1)))) aBu)) aAs)))) (aAe (mkT (aAe (con (.str "fast")) (aAe (b2 gIx (look 0) (con (.int 1))) aAs))) aAs)))))
  (aAm (aDl 7 (b2 aAv (look 7) (mkL (aAe (mkT (aAe (con (.str "split")) (aAe (b2 gIx (look 0) (con (.int 1))) (aAe (b2 aAv (aEg (b2 gIx (look 0) (con (.int 2))) (aBk (look 5)) aBu) (aEg (b2 gIx (look 0) (con (.int 2))) aBu (aBk (look 5)))) aAs)))) (aAe (mkT (aAe (con (.str "split")) (aAe (b2 gIx (look 0) (con (.int 1))) (aAe (b2 aAv (b2 gIx (look 0) (con (.int 2))) (aEg (b2 gIx (look 0) (con (.int 2))) aBu (aBk (con (.int 1))))) aAs)))) aAs)))))
  (aAm (aD8 (b2 gIx (look 7) (b2 aCf (b2 aCo (look 3) (con (.int 77))) (con (.int 5)))))
  aBd))))))))))
theorem tm_law_spoiled (T:Txt K mg t) {k:Nat} {aA7:List D→M D} (G_law_other_apart:Def P w K mg base k "_law_other_apart" aA7) {aAu:List D→M D} (aCq:Def P w K mg base k "_law_spoiled" aAu) {cdv:Value} {A:Around} {outer:List Env} {s:Shared} {H:Hp} {E:XK} (hr:Room k (A.deeper (envOfC "_law_spoiled" (aAi aDv) s.heap.objs.size t.aD2 cdv))) (B:Hp):
  PDB (cxN P w K mg base aDf "_law_spoiled" (aAi aDv) t.aD2 cdv A outer s H E) B (aBi aDv) (aBr t aA7 aAu):=
 by
 refine aAd ?_ ?_;(refine aA2 (i:=3) (aBz).nd rfl (Or.inl rfl) ?_;(refine aBq ?_ ?_;(refine aA4 ?_ ?_;(refine pd_times ?_ ?_;(exact aAa 2);(exact aAg));(exact aAg));(exact aAg)));(refine aAd ?_ ?_;(refine aB8 ?_ ?_ ?_;(refine pdt_eq ?_ ?_;(refine aBa ?_ ?_ (fun _ _=>rfl);(exact aAa 0);(exact aAg));(exact aCt));(refine aAd ?_ ?_;(refine aAx ?_;(refine aA1 G_law_other_apart hr rfl ?_;(refine aAb ?_ ?_;(refine aBa ?_ ?_ (fun _ _=>rfl);(exact aAa 0);(exact aAg));(refine aAb ?_ ?_;(exact aAa 1);(refine aAb ?_ ?_;(exact aAa 3);(exact aAh))))));(exact aAj));(exact aAj));(refine aAd ?_ ?_;(refine aA2 (i:=4) (aBz).nd rfl (Or.inl rfl) ?_;(refine aBa ?_ ?_ (fun _ _=>rfl);(exact aAa 0);(exact aAg)));(refine aAd ?_ ?_;(refine aB8 ?_ ?_ ?_;(refine pdt_nenil hr ?_ ?_;(exact aAa 1);(refine aB0 ?_;(exact aAh)));(refine aAd ?_ ?_;(refine aA2 (i:=4) (aBz).nd rfl (Or.inl rfl) ?_;(refine aBa ?_ ?_ (fun _ _=>rfl);(exact aAa 1);(refine aBq ?_ ?_;(exact aAa 3);(refine aC2 rfl T.b_len ?_;(exact aAa 1)))));(exact aAj));(exact aAj));(refine aAd ?_ ?_;(refine aB8 ?_ ?_ ?_;(refine pdt_eq ?_ ?_;(refine aBa ?_ ?_ (fun _ _=>rfl);(exact aAa 0);(exact aAg));(exact aCt));(refine aAd ?_ ?_;(refine aAx ?_;(refine aBa ?_ ?_ (fun _ _=>rfl);(refine pd_lst ?_;(refine aAb ?_ ?_;(refine aB0 ?_;(refine aAb ?_ ?_;(exact aCt);(refine aAb ?_ ?_;(exact aAa 4);(exact aAh))));(refine aAb ?_ ?_;(refine aB0 ?_;(refine aAb ?_ ?_;(exact aCt);(refine aAb ?_ ?_;(refine aBa ?_ ?_ (fun _ _=>rfl);(exact aAa 0);(exact aAg));(refine aAb ?_ ?_;(refine aB0 ?_;(exact aAh));(exact aAh)))));(refine aAb ?_ ?_;(refine aB0 ?_;(refine aAb ?_ ?_;(exact aCt);(refine aAb ?_ ?_;(refine aBh ?_ ?_ ?_;(refine aBa ?_ ?_ (fun _ _=>rfl);(exact aAa 0);(exact aAg));(refine aBe ?_;(exact aAg));(exact aBo));(exact aAh))));(exact aAh)))));(refine aBq ?_ ?_;(exact aAa 2);(exact aAg))));(exact aAj));(exact aAj));(refine aAd ?_ ?_;(refine aA2 (i:=5) (aBz).nd rfl (Or.inl rfl) ?_;(refine aBq ?_ ?_;(refine aDz ?_ ?_;(exact aAa 3);(exact aAg));(refine aA4 ?_ ?_;(refine aC2 rfl T.b_len ?_;(refine aBa ?_ ?_ (fun _ _=>rfl);(exact aAa 0);(exact aAg)));(exact aAg))));(refine aAd ?_ ?_;(refine aB8 ?_ ?_ ?_;(refine PDW.pdt ?_;(refine pdw_and ?_ ?_;(refine pdt_lt ?_ ?_;(exact aAa 5);(refine aC2 rfl T.b_len ?_;(refine aBa ?_ ?_ (fun _ _=>rfl);(exact aAa 0);(exact aAg))));(refine pdw_and1 ?_;(refine pdt_gt ?_ ?_;(refine aBq ?_ ?_;(exact aAa 2);(exact aAg));(exact aAg)))));(refine aAd ?_ ?_;(refine aA2 (i:=6) (aBz).nd rfl (Or.inl rfl) ?_;(refine aB0 ?_;(refine aAb ?_ ?_;(refine aA1 aCq hr rfl ?_;(refine aAb ?_ ?_;(refine aBa ?_ ?_ (fun _ _=>rfl);(refine aBa ?_ ?_ (fun _ _=>rfl);(exact aAa 0);(exact aAg));(exact aAa 5));(refine aAb ?_ ?_;(exact aAa 1);(refine aAb ?_ ?_;(exact aAa 3);(exact aAh)))));(exact aAh))));(refine aAd ?_ ?_;(refine aAx ?_;(refine aB0 ?_;(refine aAb ?_ ?_;(exact aCt);(refine aAb ?_ ?_;(refine aBa ?_ ?_ (fun _ _=>rfl);(exact aAa 0);(exact aAg));(refine aAb ?_ ?_;(refine aA4 ?_ ?_;(refine aA4 ?_ ?_;(refine aBh ?_ ?_ ?_;(refine aBa ?_ ?_ (fun _ _=>rfl);(exact aAa 0);(exact aAg));(exact aBo);(refine aBe ?_;(exact aAa 5)));(exact aAa 6));(refine aBh ?_ ?_ ?_;(refine aBa ?_ ?_ (fun _ _=>rfl);(exact aAa 0);(exact aAg));(refine aBe ?_;(refine aA4 ?_ ?_;(exact aAa 5);(exact aAg)));(exact aBo)));(exact aAh))))));(exact aAj)));(exact aAj));(refine aAd ?_ ?_;(refine aA2 (i:=7) (aBz).nd rfl (Or.inl rfl) ?_;(refine pd_lst ?_;(refine aAb ?_ ?_;(refine aB0 ?_;(refine aAb ?_ ?_;(exact aCt);(refine aAb ?_ ?_;(exact aAa 4);(refine aAb ?_ ?_;(refine aBa ?_ ?_ (fun _ _=>rfl);(exact aAa 0);(exact aAg));(exact aAh)))));(refine aAb ?_ ?_;(refine aB0 ?_;(refine aAb ?_ ?_;(exact aCt);(refine aAb ?_ ?_;(refine aBa ?_ ?_ (fun _ _=>rfl);(exact aAa 0);(exact aAg));(refine aAb ?_ ?_;(refine aA4 ?_ ?_;(refine aBh ?_ ?_ ?_;(refine aBa ?_ ?_ (fun _ _=>rfl);(exact aAa 0);(exact aAg));(exact aBo);(refine aBe ?_;(exact aAa 5)));(refine aBh ?_ ?_ ?_;(refine aBa ?_ ?_ (fun _ _=>rfl);(exact aAa 0);(exact aAg));(refine aBe ?_;(refine aA4 ?_ ?_;(exact aAa 5);(exact aAg)));(exact aBo)));(exact aAh)))));(refine aAb ?_ ?_;(refine aB0 ?_;(refine aAb ?_ ?_;(exact aCt);(refine aAb ?_ ?_;(refine aBa ?_ ?_ (fun _ _=>rfl);(exact aAa 0);(exact aAg));(exact aAh))));(exact aAh))))));(refine aAd ?_ ?_;(refine aA2 (i:=7) (aBz).nd rfl (Or.inl rfl) ?_;(refine aA4 ?_ ?_;(exact aAa 7);(refine pd_lst ?_;(refine aAb ?_ ?_;(refine aB0 ?_;(refine aAb ?_ ?_;(exact aCt);(refine aAb ?_ ?_;(refine aBa ?_ ?_ (fun _ _=>rfl);(exact aAa 0);(exact aAg));(refine aAb ?_ ?_;(refine aA4 ?_ ?_;(refine aBh ?_ ?_ ?_;(refine aBa ?_ ?_ (fun _ _=>rfl);(exact aAa 0);(exact aAg));(refine aBe ?_;(exact aAa 5));(exact aBo));(refine aBh ?_ ?_ ?_;(refine aBa ?_ ?_ (fun _ _=>rfl);(exact aAa 0);(exact aAg));(exact aBo);(refine aBe ?_;(exact aAa 5))));(exact aAh)))));(refine aAb ?_ ?_;(refine aB0 ?_;(refine aAb ?_ ?_;(exact aCt);(refine aAb ?_ ?_;(refine aBa ?_ ?_ (fun _ _=>rfl);(exact aAa 0);(exact aAg));(refine aAb ?_ ?_;(refine aA4 ?_ ?_;(refine aBa ?_ ?_ (fun _ _=>rfl);(exact aAa 0);(exact aAg));(refine aBh ?_ ?_ ?_;(refine aBa ?_ ?_ (fun _ _=>rfl);(exact aAa 0);(exact aAg));(exact aBo);(refine aBe ?_;(exact aAg))));(exact aAh)))));(exact aAh))))));(refine aAd ?_ ?_;(refine aAx ?_;(refine aBa ?_ ?_ (fun _ _=>rfl);(exact aAa 7);(refine aBq ?_ ?_;(refine aDz ?_ ?_;(exact aAa 3);(exact aAg));(exact aAg))));(exact aAj))))))))))
theorem ok_law_spoiled (T:Txt K mg t) {k:Nat} {aA7:List D→M D} (G_law_other_apart:Def P w K mg base k "_law_other_apart" aA7) {aAu:List D→M D} (aCq:Def P w K mg base k "_law_spoiled" aAu) {F:List D→M D} (hL: ∀ds r,F ds=some r→ds.length=3) (hq: ∀ds r,F ds=some r→∃d,r= .ok d∧aAr (aBr t aA7 aAu (aB7 aDf ds))=ok d):Def P w K mg base (k+1) "_law_spoiled" F:=by
 obtain⟨fd,Fu,bi⟩:=T.aAu
 exact⟨_,_,_,T.g_law_spoiled,Fu.kp,bi,hL,fn_D Fu aBz hL fun cdv A outer s H E hr=>⟨_,fun B=>tm_law_spoiled T G_law_other_apart aCq hr B,hq⟩⟩
noncomputable def N_law:List Str:=["_law_script","_law_names","_law_number","_law_reasons_here","_law_fast_here","_law_asked","_law_cell","_law_budget","_law_tree","_law_one","_law_handed","_law_found"]
theorem sc_law:aBx N_law ["_law_script"] (aAi s_law):=⟨rfl,rfl,rfl,by decide+kernel,rfl,by decide+kernel,by decide+kernel⟩
noncomputable def den_law (t:Adr) (aA5:List D→M D) (aBb:List D→M D) (aCw:List D→M D) (aBp:List D→M D) (aAy:List D→M D) (aAu:List D→M D) (aAk:List D→M D) (aCa:List D→M D) (aB9:List D→M D):Rho→Option Out:=
  (aAm (aDl 1 (app aCa (aAe (app aBb (aAe (look 0) (aAe (con (.int 0)) aAs))) (aAe (con (.int 7)) aAs))))
  (aAm (aDl 2 (app aBb (aAe (look 0) (aAe (con (.int 1)) aAs))))
  (aAm (aDl 3 (app aBp (aAe (b2 aAv (app aAk (aAe (look 2) (aAe (b2 aCf (look 2) (con (.int 5))) aAs))) (aEg (look 0) (aBk (con (.int 4))) (aBk (con (.int 12))))) (aAe (look 1) (aAe (con (.int 4)) aAs)))))
  (aAm (sIf (aAt (b2 gEq (b2 aCf (b2 aCo (look 2) (con (.int 5))) (con (.int 16))) (con (.int 1)))) (aAm (aDl 3 (mkT (aAe (mkT aAs) aAs)))
  aBd) aBd)
  (aAm (aDl 4 (app aCw (aAe (app aBb (aAe (look 0) (aAe (con (.int 2)) aAs))) (aAe (look 1) aAs))))
  (aAm (sNew 5 aAs)
  (aAm (sForX (b2 aAv (app aAk (aAe (app aBb (aAe (look 0) (aAe (con (.int 3)) aAs))) (aAe (con (.int 5)) aAs))) (aEg (look 0) (aBk (con (.int 14))) (aBk (con (.int 22))))) (gN 6) (aAm (aDl 7 (b2 gSub (b2 aCf (look 6) (con (.int 5))) (con (.int 1))))
  (aAm (aDl 8 (app aA5 (aAe (look 3) (aAe (look 7) (aAe (look 4) (aAe (b2 aCf (b2 aCo (look 6) (con (.int 5))) (con (.int 2147483647))) aAs))))))
  (aAm (sForX (mkL (aAe (look 8) (aAe (app aAu (aAe (look 8) (aAe (look 3) (aAe (b2 aCf (b2 aCo (look 6) (con (.int 35))) (con (.int 2147483647))) aAs)))) aAs))) (gN 9) (aAm (sOwn lApp 5 (aAe (mkT (aAe (look 9) (aAe (look 7) aAs))) aAs))
  (aAm (sOwn lApp 5 (aAe (mkT (aAe (look 9) (aAe (b2 gSub (b2 aAv (look 7) (con (.int 1))) (b2 aCu (con (.int 2)) (b2 aCf (b2 aCo (look 6) (con (.int 10))) (con (.int 2))))) aAs))) aAs))
  aBd)))
  aBd))))
  (aAm (sOwn lApp 5 (aAe (mkT (aAe (b2 gIx (b2 gIx (look 5) (con (.int 0))) (con (.int 0))) (aAe (b2 gPow (con (.int 10)) (con (.int 30))) aAs))) aAs))
  (aAm (sOwn lApp 5 (aAe (mkT (aAe (b2 gIx (b2 gIx (look 5) (con (.int 1))) (con (.int 0))) (aAe (b2 gSub (con (.int 0)) (b2 gPow (con (.int 10)) (con (.int 30)))) aAs))) aAs))
  (aAm (aDl 10 (f1 toL (look 4)))
  (aAm (sForE (b2 aAv (look 5) (aEg (look 5) aBu (aBk (con (.int 2))))) (gN2 9 7) (aAm (aDl 11 (app aB9 (aAe (look 9) (aAe (look 3) (aAe (look 7) (aAe (look 10) aAs))))))
  (aAm (sIf (orB (notB (test (isi "bool" (look 11)))) (aAt (b2 gNe (look 11) (app aAy (aAe (look 9) (aAe (look 3) (aAe (look 7) (aAe (look 4) aAs)))))))) (aAm (aD8 (con (.bl false)))
  aBd) aBd)
  aBd)))
  (aAm (sForE (aEg (look 5) aBu (aBk (con (.int 4)))) (gN2 9 7) (aAm (sIf (aAt (b2 gNe (app aB9 (aAe (look 9) (aAe (look 3) (aAe (look 7) (aAe (mkL aAs) aAs))))) (app aAy (aAe (look 9) (aAe (look 3) (aAe (look 7) (aAe (mkL aAs) aAs))))))) (aAm (aD8 (con (.bl false)))
  aBd) aBd)
  (aAm (sIf (aAt (b2 gNe (app aB9 (aAe (look 9) (aAe (look 3) (aAe (look 7) (aAe (f1 toL (look 1)) aAs))))) (app aAy (aAe (look 9) (aAe (look 3) (aAe (look 7) (aAe (look 1) aAs))))))) (aAm (aD8 (con (.bl false)))
  aBd) aBd)
  aBd)))
  (aAm (aD8 (b2 gEqS (look 10) (look 4)))
  aBd)))))))))))))
theorem tm_law (T:Txt K mg t) {k:Nat} {aA5:List D→M D} (aDo:Def P w K mg base k "_law_build" aA5) {aBb:List D→M D} (aDg:Def P w K mg base k "_law_cell_at" aBb) {aCw:List D→M D} (G_law_fast:Def P w K mg base k "_law_fast" aCw) {aBp:List D→M D} (G_law_reasons:Def P w K mg base k "_law_reasons" aBp) {aAy:List D→M D} (aCr:Def P w K mg base k "_law_shown" aAy) {aAu:List D→M D} (aCq:Def P w K mg base k "_law_spoiled" aAu) {aAk:List D→M D} (aA8:Def P w K mg base k "_law_stream" aAk) {aCa:List D→M D} (G_law_words:Def P w K mg base k "_law_words" aCa) {aB9:List D→M D} (G_shows:Def P w K mg base k "shows" aB9) {cdv:Value} {A:Around} {outer:List Env} {s:Shared} {H:Hp} {E:XK} (hr:Room k (A.deeper (envOfC "law" (aAi s_law) s.heap.objs.size t.f_law cdv))) (B:Hp):
  PDB (cxN P w K mg base N_law "law" (aAi s_law) t.f_law cdv A outer s H E) B (aBi s_law) (den_law t aA5 aBb aCw aBp aAy aAu aAk aCa aB9):=
 by
 refine aAd ?_ ?_;(refine aA2 (i:=1) (sc_law).nd rfl (Or.inl rfl) ?_;(refine aA1 G_law_words hr rfl ?_;(refine aAb ?_ ?_;(refine aA1 aDg hr rfl ?_;(refine aAb ?_ ?_;(exact aAa 0);(refine aAb ?_ ?_;(exact aAg);(exact aAh))));(refine aAb ?_ ?_;(exact aAg);(exact aAh)))));(refine aAd ?_ ?_;(refine aA2 (i:=2) (sc_law).nd rfl (Or.inl rfl) ?_;(refine aA1 aDg hr rfl ?_;(refine aAb ?_ ?_;(exact aAa 0);(refine aAb ?_ ?_;(exact aAg);(exact aAh)))));(refine aAd ?_ ?_;(refine aA2 (i:=3) (sc_law).nd rfl (Or.inl rfl) ?_;(refine aA1 G_law_reasons hr rfl ?_;(refine aAb ?_ ?_;(refine aA4 ?_ ?_;(refine aA1 aA8 hr rfl ?_;(refine aAb ?_ ?_;(exact aAa 2);(refine aAb ?_ ?_;(refine aBq ?_ ?_;(exact aAa 2);(exact aAg));(exact aAh))));(refine aBh ?_ ?_ ?_;(exact aAa 0);(refine aBe ?_;(exact aAg));(refine aBe ?_;(exact aAg))));(refine aAb ?_ ?_;(exact aAa 1);(refine aAb ?_ ?_;(exact aAg);(exact aAh))))));(refine aAd ?_ ?_;(refine aB8 ?_ ?_ ?_;(refine pdt_eq ?_ ?_;(refine aBq ?_ ?_;(refine aDz ?_ ?_;(exact aAa 2);(exact aAg));(exact aAg));(exact aAg));(refine aAd ?_ ?_;(refine aA2 (i:=3) (sc_law).nd rfl (Or.inl rfl) ?_;(refine aB0 ?_;(refine aAb ?_ ?_;(refine aB0 ?_;(exact aAh));(exact aAh))));(exact aAj));(exact aAj));(refine aAd ?_ ?_;(refine aA2 (i:=4) (sc_law).nd rfl (Or.inl rfl) ?_;(refine aA1 G_law_fast hr rfl ?_;(refine aAb ?_ ?_;(refine aA1 aDg hr rfl ?_;(refine aAb ?_ ?_;(exact aAa 0);(refine aAb ?_ ?_;(exact aAg);(exact aAh))));(refine aAb ?_ ?_;(exact aAa 1);(exact aAh)))));(refine aAd ?_ ?_;(refine pds_new (i:=5) (sc_law).nd rfl (Or.inl rfl) ?_;(exact aAh));(refine aAd ?_ ?_;(refine pds_forX PassesOwn.never rfl ?_ (fun B=> ?_) (fun B=> ?_);(refine aA4 ?_ ?_;(refine aA1 aA8 hr rfl ?_;(refine aAb ?_ ?_;(refine aA1 aDg hr rfl ?_;(refine aAb ?_ ?_;(exact aAa 0);(refine aAb ?_ ?_;(exact aAg);(exact aAh))));(refine aAb ?_ ?_;(exact aAg);(exact aAh))));(refine aBh ?_ ?_ ?_;(exact aAa 0);(refine aBe ?_;(exact aAg));(refine aBe ?_;(exact aAg))));(exact aDy (i:=6) (sc_law).nd rfl (Or.inl rfl));(refine aAd ?_ ?_;(refine aA2 (i:=7) (sc_law).nd rfl (Or.inl rfl) ?_;(refine pd_sub ?_ ?_;(refine aBq ?_ ?_;(exact aAa 6);(exact aAg));(exact aAg)));(refine aAd ?_ ?_;(refine aA2 (i:=8) (sc_law).nd rfl (Or.inl rfl) ?_;(refine aA1 aDo hr rfl ?_;(refine aAb ?_ ?_;(exact aAa 3);(refine aAb ?_ ?_;(exact aAa 7);(refine aAb ?_ ?_;(exact aAa 4);(refine aAb ?_ ?_;(refine aBq ?_ ?_;(refine aDz ?_ ?_;(exact aAa 6);(exact aAg));(exact aAg));(exact aAh)))))));(refine aAd ?_ ?_;(refine pds_forX PassesOwn.never rfl ?_ (fun B=> ?_) (fun B=> ?_);(refine pd_lst ?_;(refine aAb ?_ ?_;(exact aAa 8);(refine aAb ?_ ?_;(refine aA1 aCq hr rfl ?_;(refine aAb ?_ ?_;(exact aAa 8);(refine aAb ?_ ?_;(exact aAa 3);(refine aAb ?_ ?_;(refine aBq ?_ ?_;(refine aDz ?_ ?_;(exact aAa 6);(exact aAg));(exact aAg));(exact aAh)))));(exact aAh))));(exact aDy (i:=9) (sc_law).nd rfl (Or.inl rfl));(refine aAd ?_ ?_;(refine aCv (i:=5) rfl (Or.inl rfl) ?_;(refine aB0 ?_;(refine aAb ?_ ?_;(exact aAa 9);(refine aAb ?_ ?_;(exact aAa 7);(exact aAh)))));(refine aAd ?_ ?_;(refine aCv (i:=5) rfl (Or.inl rfl) ?_;(refine aB0 ?_;(refine aAb ?_ ?_;(exact aAa 9);(refine aAb ?_ ?_;(refine pd_sub ?_ ?_;(refine aA4 ?_ ?_;(exact aAa 7);(exact aAg));(refine pd_times ?_ ?_;(exact aAg);(refine aBq ?_ ?_;(refine aDz ?_ ?_;(exact aAa 6);(exact aAg));(exact aAg))));(exact aAh)))));(exact aAj))));(exact aAj)))));(refine aAd ?_ ?_;(refine aCv (i:=5) rfl (Or.inl rfl) ?_;(refine aB0 ?_;(refine aAb ?_ ?_;(refine aBa ?_ ?_ (fun _ _=>rfl);(refine aBa ?_ ?_ (fun _ _=>rfl);(exact aAa 5);(exact aAg));(exact aAg));(refine aAb ?_ ?_;(refine pd_pow ?_ ?_;(exact aAg);(exact aAg));(exact aAh)))));(refine aAd ?_ ?_;(refine aCv (i:=5) rfl (Or.inl rfl) ?_;(refine aB0 ?_;(refine aAb ?_ ?_;(refine aBa ?_ ?_ (fun _ _=>rfl);(refine aBa ?_ ?_ (fun _ _=>rfl);(exact aAa 5);(exact aAg));(exact aAg));(refine aAb ?_ ?_;(refine pd_sub ?_ ?_;(exact aAg);(refine pd_pow ?_ ?_;(exact aAg);(exact aAg)));(exact aAh)))));(refine aAd ?_ ?_;(refine aA2 (i:=10) (sc_law).nd rfl (Or.inl rfl) ?_;(refine pd_list rfl T.b_list ?_;(exact aAa 4)));(refine aAd ?_ ?_;(refine pds_forE PassesOwn.never rfl ?_ (fun B=> ?_) (fun B=> ?_);(refine aA4 ?_ ?_;(exact aAa 5);(refine aBh ?_ ?_ ?_;(exact aAa 5);(exact aBo);(refine aBe ?_;(exact aAg))));(exact pdg_tup2 (i:=9) (j:=7) rfl (sc_law).nd rfl (Or.inl rfl) rfl (Or.inl rfl));(refine aAd ?_ ?_;(refine aA2 (i:=11) (sc_law).nd rfl (Or.inl rfl) ?_;(refine aA1 G_shows hr rfl ?_;(refine aAb ?_ ?_;(exact aAa 9);(refine aAb ?_ ?_;(exact aAa 3);(refine aAb ?_ ?_;(exact aAa 7);(refine aAb ?_ ?_;(exact aAa 10);(exact aAh)))))));(refine aAd ?_ ?_;(refine aB8 ?_ ?_ ?_;(refine PDW.pdt ?_;(refine pdw_or ?_ ?_;(refine pdt_not ?_;(refine pdt_val ?_;(refine pd_isi (T:="bool") rfl T.b_isinstance rfl T.b_bool (by decide+kernel) (by decide) ?_;(exact aAa 11))));(refine pdw_or1 ?_;(refine pdt_ne ?_ ?_;(exact aAa 11);(refine aA1 aCr hr rfl ?_;(refine aAb ?_ ?_;(exact aAa 9);(refine aAb ?_ ?_;(exact aAa 3);(refine aAb ?_ ?_;(exact aAa 7);(refine aAb ?_ ?_;(exact aAa 4);(exact aAh))))))))));(refine aAd ?_ ?_;(refine aAx ?_;(exact pd_bl));(exact aAj));(exact aAj));(exact aAj))));(refine aAd ?_ ?_;(refine pds_forE PassesOwn.never rfl ?_ (fun B=> ?_) (fun B=> ?_);(refine aBh ?_ ?_ ?_;(exact aAa 5);(exact aBo);(refine aBe ?_;(exact aAg)));(exact pdg_tup2 (i:=9) (j:=7) rfl (sc_law).nd rfl (Or.inl rfl) rfl (Or.inl rfl));(refine aAd ?_ ?_;(refine aB8 ?_ ?_ ?_;(refine pdt_ne ?_ ?_;(refine aA1 G_shows hr rfl ?_;(refine aAb ?_ ?_;(exact aAa 9);(refine aAb ?_ ?_;(exact aAa 3);(refine aAb ?_ ?_;(exact aAa 7);(refine aAb ?_ ?_;(refine pd_lst ?_;(exact aAh));(exact aAh))))));(refine aA1 aCr hr rfl ?_;(refine aAb ?_ ?_;(exact aAa 9);(refine aAb ?_ ?_;(exact aAa 3);(refine aAb ?_ ?_;(exact aAa 7);(refine aAb ?_ ?_;(refine pd_lst ?_;(exact aAh));(exact aAh)))))));(refine aAd ?_ ?_;(refine aAx ?_;(exact pd_bl));(exact aAj));(exact aAj));(refine aAd ?_ ?_;(refine aB8 ?_ ?_ ?_;(refine pdt_ne ?_ ?_;(refine aA1 G_shows hr rfl ?_;(refine aAb ?_ ?_;(exact aAa 9);(refine aAb ?_ ?_;(exact aAa 3);(refine aAb ?_ ?_;(exact aAa 7);(refine aAb ?_ ?_;(refine pd_list rfl T.b_list ?_;(exact aAa 1));(exact aAh))))));(refine aA1 aCr hr rfl ?_;(refine aAb ?_ ?_;(exact aAa 9);(refine aAb ?_ ?_;(exact aAa 3);(refine aAb ?_ ?_;(exact aAa 7);(refine aAb ?_ ?_;(exact aAa 1);(exact aAh)))))));(refine aAd ?_ ?_;(refine aAx ?_;(exact pd_bl));(exact aAj));(exact aAj));(exact aAj))));(refine aAd ?_ ?_;(refine aAx ?_;(refine pd_eqS hr ?_ ?_;(exact aAa 10);(exact aAa 4)));(exact aAj)))))))))))))
theorem fnd_law (T:Txt K mg t) {fd:FuncData} (Fu:Fun K "law" "law" s_law t.f_law fd) {k:Nat} {aA5:List D→M D} (aDo:Def P w K mg base k "_law_build" aA5) {aBb:List D→M D} (aDg:Def P w K mg base k "_law_cell_at" aBb) {aCw:List D→M D} (G_law_fast:Def P w K mg base k "_law_fast" aCw) {aBp:List D→M D} (G_law_reasons:Def P w K mg base k "_law_reasons" aBp) {aAy:List D→M D} (aCr:Def P w K mg base k "_law_shown" aAy) {aAu:List D→M D} (aCq:Def P w K mg base k "_law_spoiled" aAu) {aAk:List D→M D} (aA8:Def P w K mg base k "_law_stream" aAk) {aCa:List D→M D} (G_law_words:Def P w K mg base k "_law_words" aCa) {aB9:List D→M D} (G_shows:Def P w K mg base k "shows" aB9) {F:List D→M D} (hL: ∀ds r,F ds=some r→ds.length=1) (hq: ∀ds r,F ds=some r→∃d,r= .ok d∧aAr (den_law t aA5 aBb aCw aBp aAy aAu aAk aCa aB9 (aB7 N_law ds))=ok d):FnD P w K mg base (k+1) t.f_law fd ["_law_script"] F:=
 fn_D Fu sc_law hL fun cdv A outer s H E hr=>⟨_,fun B=>tm_law T aDo aDg G_law_fast G_law_reasons aCr aCq aA8 G_law_words G_shows hr B,hq⟩
end
noncomputable abbrev lS (xs:List Str):D:= .lst (xs.map D.str)
noncomputable abbrev tR (rs:List (List Str)):D:= .tup (rs.map tS)
noncomputable abbrev lR (rs:List (List Str)):D:= .lst (rs.map tS)
theorem immL_R: ∀(rs:List (List Str)),immL (rs.map tS)=true
 | []=>rfl
 | r::rs=>by
  show ((tS r).imm&&immL (rs.map tS))=true
  rw[aDj,immL_R rs];rfl
theorem imm_tR (rs:List (List Str)):(tR rs).imm=true:=immL_R rs
theorem in_lS (neg:Bool) (x:Str) (h:List Str):gIn neg (.str x) (lS h)=ok (.bl (if neg then !h.contains x else h.contains x)):=by
 unfold gIn
 simp only[flD,seqD,Option.bind_some,flL_strs,inV_strs]
theorem tups_R: ∀(rs:List (List Str)),tupsL (rs.map tS)=some rs
 | []=>rfl
 | r::rs=>by
  show (match strL (r.map D.str),tupsL (rs.map tS) with | some x,some l=>some (x::l) | _,_=>none)=_
  rw[strL_map,tups_R rs]
theorem cmpL_f {α:Type} {k:Nat} {ft:Rho→M Bool} {fe:Rho→M D} {ρ:Rho} {e:α→D} {p:α→Bool} {g:α→D}: ∀(l:List α),(∀x∈l,ft (ρ.set k (some (.sh (e x))))=ok (p x))→(∀x∈l,p x=true→fe (ρ.set k (some (.sh (e x))))=ok (g x)∧(g x).imm=true)→
  cmpL [k] h1 ft fe (l.map e) ρ=ok ((l.filter p).map g)
 | [],_,_=>rfl
 | x::l,h1',h2'=>by
  have ih:=cmpL_f (p:=p) (g:=g) l (fun y hy=>h1' y (List.mem_cons_of_mem _ hy)) (fun y hy=>h2' y (List.mem_cons_of_mem _ hy))
  have e1:=h1' x List.mem_cons_self
  rw[List.map_cons]
  unfold cmpL
  show (match ft (ρ.set k (some (.sh (e x)))) with
   | some (.ok true)=>(match fe (ρ.set k (some (.sh (e x)))) with
    | some (.ok r)=>if r.imm=true then bnd (cmpL [k] h1 ft fe (l.map e) ρ) fun rs=>ok (r::rs) else none
    | _=>none)
   | some (.ok false)=>cmpL [k] h1 ft fe (l.map e) ρ
   | _=>none)=_
  rw[e1,ih]
  cases hp:p x with
  | true=>
   obtain⟨e2,e3⟩:=h2' x List.mem_cons_self hp
   rw[e2,List.filter_cons_of_pos hp]
   show (if (g x).imm=true then bnd (ok ((l.filter p).map g)) fun rs=>ok (g x::rs) else none)=_
   rw[if_pos e3]
   rfl
  | false=>
   rw[List.filter_cons_of_neg (by simp[hp])]
   rfl
theorem cmp_f {α:Type} {m k:Nat} {it:Rho→M (List D)} {ft:Rho→M Bool} {fe:Rho→M D} {ρ:Rho} {l:List α} {e:α→D} {p:α→Bool} {g:α→D} (hi:it ρ=ok (l.map e)) (hl:l.length≤1000)
  (h1': ∀x∈l,ft ((ext m (free ρ)).set k (some (.sh (e x))))=ok (p x)) (h2': ∀x∈l,p x=true→fe ((ext m (free ρ)).set k (some (.sh (e x))))=ok (g x)∧(g x).imm=true):
  cmp m it [k] h1 ft fe ρ=ok (.lst ((l.filter p).map g)):=by
 unfold cmp
 rw[hi,aDh,if_pos (by rw[List.length_map];omega),cmpL_f l h1' h2',aDh]
noncomputable def loose (r k:List Str):List Str:=r.filter fun x=> !k.contains x
noncomputable def restR (rs:List (List Str)) (n:Str):List (List Str):=rs.filter fun r=> !r.contains n
noncomputable def fFree (t:Adr):List D→M D:=viaD 2 fun ds=>aAr (den_free_names t (aB7 N_free_names ds))
noncomputable def fLoose (t:Adr):List D→M D:=viaD 2 fun ds=>aAr (den_law_loose t (aB7 N_law_loose ds))
noncomputable def fWithout (t:Adr):List D→M D:=viaD 2 fun ds=>aAr (den_without t (aB7 N_without ds))
noncomputable def fLeft (t:Adr):List D→M D:=viaD 2 fun ds=>aAr (den_law_left t (aB7 N_law_left ds))
theorem free_body {r k:List Str} (hl:r.length≤1000):cmp 1 (itE (look 0)) [2] h1 (aAt (b2 (gIn true) (look 2) (look 1))) (look 2) [some (.sh (tS r)),some (.sh (lS k))]=ok (lS (loose r k)):=
 cmp_f (e:=D.str) (p:=fun x=> !k.contains x) (g:=D.str) rfl hl (fun x _=>aAp (aBj (x:= .str x) (y:=lS k) rfl rfl (in_lS true x k))) (fun x _ _=>⟨rfl,rfl⟩)
theorem free_sp (t:Adr) {r k:List Str} (hl:r.length≤1000):fFree t [tS r,lS k]=ok (lS (loose r k)):=by
 refine aBs rfl ?_
 have e0:aB7 N_free_names [tS r,lS k]=[some (.sh (tS r)),some (.sh (lS k))]:=rfl
 rw[e0]
 unfold den_free_names
 rw[aAl (aAz (free_body hl))]
 rfl
theorem loose_sp (t:Adr) {r k:List Str} (hl:r.length≤1000):fLoose t [tS r,lS k]=ok (lS (loose r k)):=by
 refine aBs rfl ?_
 have e0:aB7 N_law_loose [tS r,lS k]=[some (.sh (tS r)),some (.sh (lS k))]:=rfl
 rw[e0]
 unfold den_law_loose
 rw[aAl (aAz (free_body hl))]
 rfl
theorem without_sp (t:Adr) {rs:List (List Str)} {n:Str} (hl:rs.length≤1000):fWithout t [.str n,tR rs]=ok (tR (restR rs n)):=by
 refine aBs rfl ?_
 have e0:aB7 N_without [.str n,tR rs]=[some (.sh (.str n)),some (.sh (tR rs))]:=rfl
 rw[e0]
 unfold den_without
 have e1:cmp 1 (itE (look 1)) [2] h1 (aAt (b2 (gIn true) (look 0) (look 2))) (look 2) [some (.sh (.str n)),some (.sh (tR rs))]=ok (lR (restR rs n)):=
  cmp_f (e:=tS) (p:=fun r=> !r.contains n) (g:=tS) rfl hl (fun x _=>aAp (aBj (x:= .str n) (y:=tS x) rfl rfl (in_tS true n x))) (fun x _ _=>⟨rfl,aDj x⟩)
 rw[aAl (aAz (aDr (g:=toT) (r:=ok (tR (restR rs n))) e1 rfl))]
 rfl
theorem left_sp (t:Adr) {rs:List (List Str)} {n:Str} (hl:rs.length≤1000):fLeft t [tR rs,.str n]=ok (tR (restR rs n)):=by
 refine aBs rfl ?_
 have e0:aB7 N_law_left [tR rs,.str n]=[some (.sh (tR rs)),some (.sh (.str n))]:=rfl
 rw[e0]
 unfold den_law_left
 have e1:cmp 1 (itE (look 0)) [2] h1 (aAt (b2 (gIn true) (look 1) (look 2))) (look 2) [some (.sh (tR rs)),some (.sh (.str n))]=ok (lR (restR rs n)):=
  cmp_f (e:=tS) (p:=fun r=> !r.contains n) (g:=tS) rfl hl (fun x _=>aAp (aBj (x:= .str n) (y:=tS x) rfl rfl (in_tS true n x))) (fun x _ _=>⟨rfl,aDj x⟩)
 rw[aAl (aAz (aDr (g:=toT) (r:=ok (tR (restR rs n))) e1 rfl))]
 rfl
theorem nodup_metT {l:List (List Str)}:(metT l).length=l.length↔l.Nodup:=by
 have g: ∀(l σ:List (List Str)),σ.Nodup→(l.foldl addT σ).length≤σ.length+l.length∧((l.foldl addT σ).length=σ.length+l.length↔(σ++l).Nodup):=by
  intro l
  induction l with
  | nil=>intro σ h;simp[h]
  | cons v l ih=>
   intro σ h
   rw[List.foldl_cons]
   by_cases hc:σ.contains v=true
   ·have e:addT σ v=σ:=by unfold addT;rw[if_pos hc]
    rw[e]
    obtain⟨h1,_⟩:=ih σ h
    refine⟨by rw[List.length_cons];omega,fun q=>by rw[List.length_cons] at q;omega,fun q=> ?_⟩
    exfalso
    have hm:v∈σ:=by simpa using hc
    exact (List.nodup_append.mp q).2.2 v hm v List.mem_cons_self rfl
   ·have e:addT σ v=σ++ [v]:=by unfold addT;rw[if_neg hc]
    have hm:v∉σ:=by simpa using hc
    have hn:(σ++ [v]).Nodup:=List.nodup_append.mpr ⟨h,by simp,fun a ha b hb=>by rw[List.mem_singleton] at hb;subst hb;intro z;subst z;exact hm ha⟩
    rw[e]
    obtain⟨h1,h2⟩:=ih _ hn
    rw[List.length_append,List.length_singleton] at h1 h2
    rw[List.append_assoc] at h2
    rw[List.length_cons]
    refine⟨by omega,?_⟩
    rw[show σ++v::l=σ++([v]++l) from rfl,←h2]
    omega
 have:=(g l [] .nil).2
 unfold metT
 simpa using this
theorem nodup_metS {l:List Str}:(metS l).length=l.length↔l.Nodup:=by
 refine⟨fun h=> ?_,fun h=>by rw[metS_self h]⟩
 have hp:(metS l).Nodup:=metS_nodup l
 have hs: ∀x∈metS l,x∈l:=fun x hx=>by
  have:=metS_has l x
  rw[Bool.eq_iff_iff,List.contains_iff_mem,List.contains_iff_mem] at this
  exact this.mp hx
 have hs2: ∀x∈l,x∈metS l:=fun x hx=>by
  have:=metS_has l x
  rw[Bool.eq_iff_iff,List.contains_iff_mem,List.contains_iff_mem] at this
  exact this.mpr hx
 have key: ∀(a b:List Str),a.Nodup→a.length=b.length→(∀x∈b,x∈a)→(∀x∈a,x∈b)→b.Nodup:=by
  intro a b
  induction b generalizing a with
  | nil=>intro _ _ _ _;exact .nil
  | cons y b ih=>
   intro ha hl h1 h2
   have hy:=h1 y List.mem_cons_self
   rw[List.length_cons] at hl
   have hle:(a.erase y).length=b.length:=by rw[List.length_erase_of_mem hy];omega
   have hn:=ha.erase y
   have s2: ∀x∈a.erase y,x∈b:=fun x hx=>by
    have hx2:x∈a∧x≠y:=by rw[ha.mem_erase_iff] at hx;exact⟨hx.2,hx.1⟩
    rcases List.mem_cons.mp (h2 x hx2.1) with q | q
    ·exact absurd q hx2.2
    ·exact q
   have s1: ∀x∈b,x∈a.erase y:=sub_all hn s2 (by omega)
   refine List.nodup_cons.mpr ⟨fun q=> ?_,ih _ hn hle s1 s2⟩
   have:=s1 y q
   rw[ha.mem_erase_iff] at this
   exact this.1 rfl
 exact key _ _ hp h hs2 hs
theorem dif_nil {a b:List (List Str)}:(difT (metT a) (metT b)).length=0↔∀x∈a,x∈b:=by
 rw[List.length_eq_zero_iff]
 unfold difT
 rw[List.filter_eq_nil_iff]
 constructor
 ·intro h x hx
  have:=h x ((metT_mem a x).mpr hx)
  rw[←metT_mem b]
  simpa using this
 ·intro h x hx
  have:=(metT_mem b x).mpr (h x ((metT_mem a x).mp hx))
  simpa using this
theorem own_app {ρ ρ':Rho} {i:Nat} {g:Rho→M D} {acc:List D} {d:D} (h1:ρ[i]? =some (some (.own acc))) (hg:g ρ=ok d) (hd:d.imm=true) (hl:acc.length<1000) (e:ρ.set i (some (.own (acc++ [d])))=ρ'):sOwn lApp i (aAe g aAs) ρ=some (.nx ρ'):=by
 unfold sOwn
 rw[h1]
 show lft _ _ _=_
 rw[aAc hg aAn]
 show (if immL [d]=true∧acc.length<100000 then (match lApp acc [d] with | some ds'=>some (Out.nx (ρ.set i (some (.own ds')))) | none=>none) else none)=_
 have hi:immL [d]=true:=by
  show (d.imm&&true)=true
  rw[hd];rfl
 rw[if_pos ⟨hi,by omega⟩,←e]
 rfl
theorem new_ok {ρ:Rho} {i:Nat}:sNew i aAs ρ=some (.nx (ρ.set i (some (.own [])))):=by simp[sNew,aAs,ok,lft,immL]
theorem dec_bl {p q:Prop} [Decidable p] [Decidable q] (h:p↔q):ok (D.bl (decide p))=ok (D.bl (decide q)):=by rw[decide_eq_decide.mpr h]
theorem rng_succ (a:Int) (n:Nat):rng a (n+1)= .int a::rng (a+1) n:=by
 unfold rng
 rw[List.range_succ_eq_map,List.map_cons,List.map_map]
 congr 1
 ·simp
 ·apply List.map_congr_left
  intro j _
  show D.int (a+((j+1:Nat):Int))=D.int (a+1+(j:Int))
  congr 1
  omega
noncomputable def fOnce (t:Adr):List D→M D:=viaD 1 fun ds=>aAr (aDe t (aB7 aC9 ds))
theorem once_of (t:Adr) {d:D} {a b:Int} (h1:lenSU d=ok (.int a)) (h2:aEa d=ok (.int b)):fOnce t [d]=ok (.bl (decide (a=b))):=by
 refine aBs rfl ?_
 have e0:aB7 aC9 [d]=[some (.sh d)]:=rfl
 rw[e0]
 unfold aDe
 rw[aAl (aAz (eqi_ok (aDr (f:=look 0) rfl h1) (aDr (f:=look 0) rfl h2)))]
 rfl
theorem lenSU_R {rs:List (List Str)} (h:rs.length<18):lenSU (tR rs)=ok (.int (metT rs).length):=by
 cases rs with
 | nil=>rfl
 | cons r rs=>
  have e:strL ((r::rs).map tS)=none:=rfl
  show (match strL ((r::rs).map tS) with | some xs=>if xs.length≤2000 then ok (D.int (metS xs).length) else none | none=>lenST (.tup ((r::rs).map tS)))=_
  rw[e]
  show (match tupsL ((r::rs).map tS) with | some l=>if l.length<18 then ok (D.int (metT l).length) else none | none=>none)=_
  rw[tups_R]
  exact if_pos h
theorem lenSU_S {xs:List Str} (h:xs.length≤2000):lenSU (lS xs)=ok (.int (metS xs).length):=by
 show (match strL (xs.map D.str) with | some xs=>if xs.length≤2000 then ok (D.int (metS xs).length) else none | none=>lenST (.lst (xs.map D.str)))=_
 rw[strL_map]
 exact if_pos h
theorem once_R (t:Adr) {rs:List (List Str)} (h:rs.length<18):fOnce t [tR rs]=ok (.bl (decide rs.Nodup)):=by
 rw[once_of t (lenSU_R h) (b:=rs.length) (by show ok (D.int ((rs.map tS).length:Int))=_;rw[List.length_map])]
 exact dec_bl (by rw[←nodup_metT];omega)
theorem once_S (t:Adr) {xs:List Str} (h:xs.length≤2000):fOnce t [lS xs]=ok (.bl (decide xs.Nodup)):=by
 rw[once_of t (lenSU_S h) (b:=xs.length) (by show ok (D.int ((xs.map D.str).length:Int))=_;rw[List.length_map])]
 exact dec_bl (by rw[←nodup_metS];omega)
theorem sub_len_ok {f g:Rho→M D} {ρ:Rho} {a b:List (List Str)} (h1:f ρ=ok (tR a)) (h2:g ρ=ok (tR b)) (ha:a.length≤15) (hb:b.length<18):b2 gEq (subLen f g) (con (.int 0)) ρ=ok (.bl (decide (∀x∈a,x∈b))):=by
 have e:subLen f g ρ=ok (.int (difT (metT a) (metT b)).length):=by
  unfold subLen
  rw[h1,aDh]
  show (match tupsL (a.map tS) with | some l=>_ | none=>_)=_
  rw[tups_R]
  show (if a.length≤15 then bnd (g ρ) _ else none)=_
  rw[if_pos ha,h2,aDh]
  show (match tupsL (b.map tS) with | some l2=>_ | none=>_)=_
  rw[tups_R]
  exact if_pos hb
 rw[eqi_ok e (j:=0) rfl]
 exact dec_bl (by rw[←dif_nil];omega)
noncomputable def apartB (a rs:List (List Str)) (k:List Str):Bool:=decide (∀x∈a,x∈rs)&&(decide a.Nodup&&decide (a.flatMap fun r=>loose r k).Nodup)
noncomputable def fApart (t:Adr):List D→M D:=viaD 3 fun ds=>aAr (den_are_apart t (fFree t) (fOnce t) (aB7 N_are_apart ds))
theorem immL_S (xs:List Str):immL (xs.map D.str)=true:=immL_strs xs
noncomputable def bodyA (t:Adr):Rho→Option Out:=(aAm (sExt2 3 (aAe (app (fFree t) (aAe (look 4) (aAe (look 2) aAs))) aAs))
  aBd)
theorem apart_loop (t:Adr) {x y:D} {k:List Str}: ∀(l:List (List Str)) (acc:List Str) (s4:Option SV),(∀r∈l,r.length≤7)→acc.length+7*l.length≤1000→
  ∃s4',loop (gN 4) (bodyA t) (l.map tS) [some (.sh x),some (.sh y),some (.sh (lS k)),some (.own (acc.map D.str)),s4]=some (.nx [some (.sh x),some (.sh y),some (.sh (lS k)),some (.own ((acc++l.flatMap fun r=>loose r k).map D.str)),s4']):=by
 intro l
 induction l with
 | nil=>intro acc s4 _ _;exact⟨s4,by simp[loop]⟩
 | cons r l ih=>
  intro acc s4 hr hl
  rw[List.length_cons] at hl
  have h7:=hr r List.mem_cons_self
  have hll:(loose r k).length≤7:=Nat.le_trans (List.length_filter_le _ _) h7
  have c1:app (fFree t) (aAe (look 4) (aAe (look 2) aAs)) [some (.sh x),some (.sh y),some (.sh (lS k)),some (.own (acc.map D.str)),some (.sh (tS r))]=ok (lS (loose r k)):=
   (aBn (aAc (d:=tS r) rfl (aAc (d:=lS k) rfl aAn))).trans (free_sp t (by omega))
  have s1:sExt2 3 (aAe (app (fFree t) (aAe (look 4) (aAe (look 2) aAs))) aAs) [some (.sh x),some (.sh y),some (.sh (lS k)),some (.own (acc.map D.str)),some (.sh (tS r))]=some (.nx [some (.sh x),some (.sh y),some (.sh (lS k)),some (.own ((acc++loose r k).map D.str)),some (.sh (tS r))]):=by
   unfold sExt2
   show lft _ _ _=_
   rw[aAc c1 aAn]
   show (if immL ((loose r k).map D.str)=true∧(acc.map D.str).length+((loose r k).map D.str).length≤100000 then _ else _)=_
   rw[if_pos ⟨immL_S _,by simp only[List.length_map];omega⟩,List.map_append]
   rfl
  obtain⟨s4',h⟩:=ih (acc++loose r k) (some (.sh (tS r))) (fun q hq=>hr q (List.mem_cons_of_mem _ hq)) (by rw[List.length_append];omega)
  refine⟨s4',?_⟩
  have e:bodyA t [some (.sh x),some (.sh y),some (.sh (lS k)),some (.own (acc.map D.str)),some (.sh (tS r))]=some (.nx [some (.sh x),some (.sh y),some (.sh (lS k)),some (.own ((acc++loose r k).map D.str)),some (.sh (tS r))]):=by
   unfold bodyA
   rw[aAf s1]
   rfl
  have g:gN 4 (tS r) [some (.sh x),some (.sh y),some (.sh (lS k)),some (.own (acc.map D.str)),s4]=some [some (.sh x),some (.sh y),some (.sh (lS k)),some (.own (acc.map D.str)),some (.sh (tS r))]:=by
   show some (setV 4 (tS r) _)=_
   rw[setV_imm (aDj r)]
   rfl
  rw[List.map_cons]
  refine (loop_cons g e).trans ?_
  rw[h,List.flatMap_cons,List.append_assoc]
theorem flat_len {k:List Str}: ∀(l:List (List Str)),(∀r∈l,r.length≤7)→(l.flatMap fun r=>loose r k).length≤7*l.length
 | [],_=>Nat.zero_le _
 | r::l,h=>by
  have h1:=flat_len (k:=k) l fun q hq=>h q (List.mem_cons_of_mem _ hq)
  have h2:(loose r k).length≤r.length:=List.length_filter_le _ _
  have h3:=h r List.mem_cons_self
  rw[List.flatMap_cons,List.length_append,List.length_cons]
  omega
theorem apart_sp (t:Adr) {a rs:List (List Str)} {k:List Str} (ha:a.length≤15) (h7: ∀r∈a,r.length≤7) (hr:rs.length<18):fApart t [tR a,tR rs,lS k]=ok (.bl (apartB a rs k)):=by
 refine aBs rfl ?_
 have e0:aB7 N_are_apart [tR a,tR rs,lS k]=[some (.sh (tR a)),some (.sh (tR rs)),some (.sh (lS k)),none,none]:=rfl
 rw[e0]
 unfold den_are_apart
 rw[aAf new_ok]
 obtain⟨s4,lp⟩:=apart_loop t (x:=tR a) (y:=tR rs) (k:=k) a [] none h7 (by simp;omega)
 have s2:sForN 0 (gN 4) (bodyA t) [some (.sh (tR a)),some (.sh (tR rs)),some (.sh (lS k)),some (.own []),none]=some (.nx [some (.sh (tR a)),some (.sh (tR rs)),some (.sh (lS k)),some (.own ((a.flatMap fun r=>loose r k).map D.str)),s4]):=lp
 show aAr (aAm (sForN 0 (gN 4) (bodyA t)) _ [some (.sh (tR a)),some (.sh (tR rs)),some (.sh (lS k)),some (.own []),none])=_
 have fl:=flat_len (k:=k) a h7
 rw[aAf s2,aAl (aAz (andV_ok (sub_len_ok (f:=look 0) (g:=look 1) (a:=a) (b:=rs) rfl rfl ha hr) (andV_ok ((aBn (aAc (d:=tR a) rfl aAn)).trans (once_R t (by omega))) ((aBn (aAc (d:=lS (a.flatMap fun r=>loose r k)) rfl aAn)).trans (once_S t (by omega))))))]
 rfl
noncomputable def lawA (rs:List (List Str)) (k:List Str):List (List Str)→List Str→List (List Str)→Bool
 | _,_,[]=>true
 | dn,seen,r::l=>if (!rs.contains r ||(dn.contains r || !decide ((loose r k).filter (fun x=>seen.contains x)=[])))=true then false else lawA rs k (dn++ [r]) (seen++loose r k) l
theorem lawA_iff {rs:List (List Str)} {k:List Str} (hr: ∀r∈rs,r.Nodup): ∀(l dn:List (List Str)) (seen:List Str),dn.Nodup→seen.Nodup→
  (lawA rs k dn seen l=true↔(∀x∈l,x∈rs)∧(dn++l).Nodup∧(seen++l.flatMap fun r=>loose r k).Nodup):=by
 intro l
 induction l with
 | nil=>intro dn seen h1 h2;simp[lawA,h1,h2]
 | cons r l ih=>
  intro dn seen h1 h2
  rw[lawA]
  by_cases c1:r∈rs
  ·by_cases c2:r∈dn
   ·rw[if_pos (by simp[c2])]
    refine⟨(fun q=>by cases q),fun⟨_,q,_⟩=> ?_⟩
    exact absurd rfl ((List.nodup_append.mp q).2.2 r c2 r List.mem_cons_self)
   ·by_cases c3:(loose r k).filter (fun x=>seen.contains x)=[]
    ·rw[if_neg (by rw[show rs.contains r=true by simpa using c1,show dn.contains r=false by simpa using c2,decide_eq_true c3];decide)]
     have ds: ∀x∈loose r k,x∉seen:=fun x hx q=>by
      have:=List.filter_eq_nil_iff.mp c3 x hx
      simp[q] at this
     have n1:(dn++ [r]).Nodup:=List.nodup_append.mpr ⟨h1,by simp,fun a ha b hb=>by rw[List.mem_singleton] at hb;subst hb;intro z;subst z;exact c2 ha⟩
     have n2:(seen++loose r k).Nodup:=List.nodup_append.mpr ⟨h2,(hr r c1).filter _,fun a ha b hb z=>by subst z;exact ds a hb ha⟩
     rw[ih _ _ n1 n2,List.append_assoc,List.append_assoc,List.flatMap_cons]
     constructor
     ·rintro⟨q1,q2,q3⟩
      exact⟨fun x hx=>by rcases List.mem_cons.mp hx with rfl | hx;exact c1;exact q1 x hx,q2,q3⟩
     ·rintro⟨q1,q2,q3⟩
      exact⟨fun x hx=>q1 x (List.mem_cons_of_mem _ hx),q2,q3⟩
    ·rw[if_pos (by rw[decide_eq_false c3];simp)]
     refine⟨(fun q=>by cases q),fun⟨_,_,q⟩=> ?_⟩
     exfalso
     apply c3
     rw[List.filter_eq_nil_iff]
     intro x hx z
     have hm:x∈seen:=by simpa using z
     rw[List.flatMap_cons] at q
     exact (List.nodup_append.mp q).2.2 x hm x (List.mem_append_left _ hx) rfl
  ·rw[if_pos (by simp[c1])]
   exact⟨(fun q=>by cases q),fun⟨q,_,_⟩=>absurd (q r List.mem_cons_self) c1⟩
theorem lawA_eq {rs:List (List Str)} {k:List Str} (hr: ∀r∈rs,r.Nodup) (a:List (List Str)):lawA rs k [] [] a=apartB a rs k:=by
 rw[Bool.eq_iff_iff,lawA_iff hr a [] [] .nil .nil]
 unfold apartB
 rw[Bool.and_eq_true,Bool.and_eq_true,decide_eq_true_eq,decide_eq_true_eq,decide_eq_true_eq]
 exact Iff.rfl
structure Ok1 (r:List Str):Prop where
 few:r.length≤7
 nd:r.Nodup
 txt: ∀x∈r,PyData.strOk x=true
noncomputable def Row (d:D) (a:List (List Str)):Prop:=d=tR a∨d=lR a
theorem row_ix {d:D} {a:List (List Str)} {j:Nat} {r:List Str} (h:Row d a) (hj:a[j]? =some r):gIx d (.int (j:Int))=ok (tS r):=by
 have e:(a.map tS)[j]? =some (tS r):=by rw[List.getElem?_map,hj];rfl
 rcases h with rfl | rfl
 ·exact ix_tup e
 ·exact ix_lst e
theorem row_len {d:D} {a:List (List Str)} (h:Row d a):aEa d=ok (.int a.length):=by
 rcases h with rfl | rfl
 ·show ok (D.int ((a.map tS).length:Int))=_
  rw[List.length_map]
 ·show ok (D.int ((a.map tS).length:Int))=_
  rw[List.length_map]
theorem row_cut {d:D} {a:List (List Str)} {j:Nat} (h:Row d a) (hj:j≤a.length): ∃d',gCut d none (some (j:Int))=ok d'∧Row d' (a.take j):=by
 have e:L2.PU.cutD (a.map tS) none (some (j:Int))=(a.take j).map tS:=by rw[cut_to _ (by rw[List.length_map];exact hj),←List.map_take]
 rcases h with rfl | rfl
 ·exact⟨tR (a.take j),by show ok (D.tup (L2.PU.cutD (a.map tS) none (some (j:Int))))=_;rw[e],.inl rfl⟩
 ·exact⟨lR (a.take j),by show ok (D.lst (L2.PU.cutD (a.map tS) none (some (j:Int))))=_;rw[e],.inr rfl⟩
theorem row_in {neg:Bool} {d:D} {a:List (List Str)} {r:List Str} (h:Row d a):gInT neg (tS r) d=ok (.bl (if neg then !a.contains r else a.contains r)):=by
 have e:tupsOf d=some a:=by rcases h with rfl | rfl<;>exact tups_R a
 unfold gInT
 rw[e]
 show (match strL (r.map D.str) with | some k=>ok (D.bl (if neg then !a.contains k else a.contains k)) | none=>none)=_
 rw[strL_map]
theorem neS_nil {xs:List Str} (h: ∀x∈xs,PyData.strOk x=true):gNeS (lS xs) (.lst [])=ok (.bl (!decide (xs=[]))):=by
 show (match strL (xs.map D.str),strL [] with | some x,some y=>if x.all PyData.strOk=true∧y.all PyData.strOk=true then ok (D.bl (!decide (x=y))) else none | _,_=>none)=_
 rw[strL_map]
 show (if xs.all PyData.strOk=true∧([]:List Str).all PyData.strOk=true then ok (D.bl (!decide (xs=[]))) else none)=_
 rw[if_pos ⟨List.all_eq_true.mpr h,rfl⟩]
noncomputable def bodyLA (t:Adr):Rho→Option Out:=(aAm (aDl 5 (app (fLoose t) (aAe (b2 gIx (look 0) (look 4)) (aAe (look 2) aAs))))
  (aAm (sIf (orB (aAt (b2 (gInT true) (b2 gIx (look 0) (look 4)) (look 1))) (orB (aAt (b2 (gInT false) (b2 gIx (look 0) (look 4)) (aEg (look 0) aBu (aBk (look 4))))) (aAt (b2 gNeS (cmp 1 (itE (look 5)) [6] h1 (aAt (b2 (gIn false) (look 6) (look 3))) (look 6)) (mkL aAs))))) (aAm (aD8 (con (.bl false)))
  aBd) aBd)
  (aAm (aDl 3 (b2 aAv (look 3) (look 5)))
  aBd)))
theorem bodyLA_ok (t:Adr) {d:D} {a rs:List (List Str)} {k seen:List Str} {j:Nat} {r:List Str} (o:Option D) (h:Row d a) (hj:a[j]? =some r) (hr:Ok1 r) (hs:seen.length≤1000):
  bodyLA t [some (.sh d),some (.sh (tR rs)),some (.sh (lS k)),some (.sh (lS seen)),some (.sh (.int (j:Int))),o.map SV.sh]=
   if (!rs.contains r ||((a.take j).contains r || !decide ((loose r k).filter (fun x=>seen.contains x)=[])))=true then some (.rt (.bl false))
   else some (.nx [some (.sh d),some (.sh (tR rs)),some (.sh (lS k)),some (.sh (lS (seen++loose r k))),some (.sh (.int (j:Int))),some (.sh (lS (loose r k)))]):=by
 have hja:j≤a.length:=by
  have:=(List.getElem?_eq_some_iff.mp hj).1
  omega
 have ll:(loose r k).length≤7:=Nat.le_trans (List.length_filter_le _ _) hr.few
 unfold bodyLA
 have i1: ∀o5:Option SV,b2 gIx (look 0) (look 4) [some (.sh d),some (.sh (tR rs)),some (.sh (lS k)),some (.sh (lS seen)),some (.sh (.int (j:Int))),o5]=ok (tS r):=fun o5=>aBj (x:=d) (y:= .int (j:Int)) rfl rfl (row_ix h hj)
 have s1:app (fLoose t) (aAe (b2 gIx (look 0) (look 4)) (aAe (look 2) aAs)) [some (.sh d),some (.sh (tR rs)),some (.sh (lS k)),some (.sh (lS seen)),some (.sh (.int (j:Int))),o.map SV.sh]=ok (lS (loose r k)):=
  (aBn (aAc (i1 _) (aAc (d:=lS k) rfl aAn))).trans (loose_sp t (by have:=hr.few;omega))
 rw[aAf (aDc s1 (by cases o<;>rfl))]
 show aAm _ _ [some (.sh d),some (.sh (tR rs)),some (.sh (lS k)),some (.sh (lS seen)),some (.sh (.int (j:Int))),some (.sh (lS (loose r k)))]=_
 obtain⟨d',c1,c2⟩:=row_cut h hja
 have c3:aEg (look 0) aBu (aBk (look 4)) [some (.sh d),some (.sh (tR rs)),some (.sh (lS k)),some (.sh (lS seen)),some (.sh (.int (j:Int))),some (.sh (lS (loose r k)))]=ok d':=c1
 have c4:cmp 1 (itE (look 5)) [6] h1 (aAt (b2 (gIn false) (look 6) (look 3))) (look 6) [some (.sh d),some (.sh (tR rs)),some (.sh (lS k)),some (.sh (lS seen)),some (.sh (.int (j:Int))),some (.sh (lS (loose r k)))]=ok (lS ((loose r k).filter fun x=>seen.contains x)):=
  cmp_f (e:=D.str) (p:=fun x=>seen.contains x) (g:=D.str) rfl (by omega) (fun x _=>aAp (aBj (x:= .str x) (y:=lS seen) rfl rfl (in_lS false x seen))) (fun x _ _=>⟨rfl,rfl⟩)
 have c5:=neS_nil (xs:=(loose r k).filter fun x=>seen.contains x) (fun x hx=>hr.txt x (List.mem_filter.mp (List.mem_filter.mp hx).1).1)
 have tt:=orB_ok (aAp (aBj (i1 (some (.sh (lS (loose r k))))) (g:=gInT true) (fb:=look 1) (y:=tR rs) rfl (row_in (.inl rfl)))) (orB_ok (aAp (aBj (i1 (some (.sh (lS (loose r k))))) c3 (row_in (neg:=false) c2))) (aAp (aBj c4 (fb:=mkL aAs) (y:= .lst []) rfl c5)))
 rw[if_pos rfl] at tt
 by_cases hb:(!rs.contains r ||((a.take j).contains r || !decide ((loose r k).filter (fun x=>seen.contains x)=[])))=true
 ·rw[if_pos hb]
  rw[if_neg (by decide),hb] at tt
  rw[aAl ((aEb tt).trans (aAl (aAz (d:= .bl false) rfl)))]
 ·rw[if_neg hb]
  rw[if_neg (by decide),Bool.eq_false_iff.mpr hb] at tt
  rw[aAf ((aCd tt).trans rfl),aAf (aDc (catL_ok (f:=look 3) (g:=look 5) (x:=seen) (y:=loose r k) rfl rfl hs (by omega)) rfl)]
  rfl
theorem lawA_loop (t:Adr) {d:D} {a rs:List (List Str)} {k:List Str} (h:Row d a) (ha: ∀r∈a,Ok1 r): ∀(l dn:List (List Str)) (seen:List Str) (o4 o5:Option D),a=dn++l→seen.length+7*l.length≤900→
  (if lawA rs k dn seen l=true then∃ρ,loop (gN 4) (bodyLA t) (rng (dn.length:Int) l.length) [some (.sh d),some (.sh (tR rs)),some (.sh (lS k)),some (.sh (lS seen)),o4.map SV.sh,o5.map SV.sh]=some (.nx ρ)
  else loop (gN 4) (bodyLA t) (rng (dn.length:Int) l.length) [some (.sh d),some (.sh (tR rs)),some (.sh (lS k)),some (.sh (lS seen)),o4.map SV.sh,o5.map SV.sh]=some (.rt (.bl false))):=by
 intro l
 induction l with
 | nil=>intro dn seen o4 o5 _ _;rw[lawA,if_pos rfl];exact⟨_,rfl⟩
 | cons r l ih=>
  intro dn seen o4 o5 e hl
  rw[List.length_cons] at hl
  have hj:a[dn.length]? =some r:=by rw[e,List.getElem?_append_right (Nat.le_refl _),Nat.sub_self];rfl
  have tk:a.take dn.length=dn:=by rw[e,List.take_left]
  have hr:Ok1 r:=ha r (by rw[e];exact List.mem_append_right _ List.mem_cons_self)
  have ll:(loose r k).length≤7:=Nat.le_trans (List.length_filter_le _ _) hr.few
  have b:=bodyLA_ok t (rs:=rs) (k:=k) (seen:=seen) o5 h hj hr (by omega)
  rw[tk] at b
  rw[List.length_cons,rng_succ,lawA]
  have g:gN 4 (.int (dn.length:Int)) [some (.sh d),some (.sh (tR rs)),some (.sh (lS k)),some (.sh (lS seen)),o4.map SV.sh,o5.map SV.sh]=some [some (.sh d),some (.sh (tR rs)),some (.sh (lS k)),some (.sh (lS seen)),some (.sh (.int (dn.length:Int))),o5.map SV.sh]:=rfl
  by_cases hb:(!rs.contains r ||(dn.contains r || !decide ((loose r k).filter (fun x=>seen.contains x)=[])))=true
  ·rw[if_pos hb] at b⊢
   rw[if_neg (by decide)]
   unfold loop
   rw[g]
   dsimp only
   rw[b]
  ·rw[if_neg hb] at b⊢
   have z:=ih (dn++ [r]) (seen++loose r k) (some (.int (dn.length:Int))) (some (lS (loose r k))) (by rw[e,List.append_assoc];rfl) (by rw[List.length_append];omega)
   have el:((dn++ [r]).length:Int)=(dn.length:Int)+1:=by rw[List.length_append,List.length_singleton];omega
   rw[el] at z
   rw[loop_cons g b]
   exact z
noncomputable def fLawA (t:Adr):List D→M D:=viaD 3 fun ds=>aAr (aDd t (fLoose t) (aB7 aC8 ds))
theorem lawA_sp (t:Adr) {d:D} {a rs:List (List Str)} {k:List Str} (h:Row d a) (ha: ∀r∈a,Ok1 r) (hl:a.length≤20) (hr: ∀r∈rs,r.Nodup):fLawA t [d,tR rs,lS k]=ok (.bl (apartB a rs k)):=by
 refine aBs rfl ?_
 have e0:aB7 aC8 [d,tR rs,lS k]=[some (.sh d),some (.sh (tR rs)),some (.sh (lS k)),none,none,none]:=rfl
 rw[e0]
 unfold aDd
 rw[aAf (aDc (d:= .lst []) rfl rfl)]
 have z:=lawA_loop t (rs:=rs) (k:=k) h ha a [] [] none none rfl (by simp;omega)
 show aAr (aAm (sForR1 (f1 aEa (look 0)) (gN 4) (bodyLA t)) _ [some (.sh d),some (.sh (tR rs)),some (.sh (lS k)),some (.sh (lS [])),none,none])=_
 have e1:f1 aEa (look 0) [some (.sh d),some (.sh (tR rs)),some (.sh (lS k)),some (.sh (lS [])),none,none]=ok (.int a.length):=aDr (d:=d) rfl (row_len h)
 have e2:=sForR1_ok (G:=gN 4) (F:=bodyLA t) e1 (by omega) (by omega)
 rw[Int.toNat_natCast] at e2
 rw[lawA_eq hr] at z
 cases hb:apartB a rs k with
 | true=>
  rw[hb,if_pos rfl] at z
  obtain⟨ρ,z⟩:=z
  rw[aAf (e2.trans z),aAl (aAz (d:= .bl true) rfl)]
  rfl
 | false=>
  rw[hb,if_neg (by decide)] at z
  rw[aAl (e2.trans z)]
  rfl
noncomputable abbrev dA (a:List (List Str)):D:= .tup [.str "apart",tR a]
noncomputable abbrev dF (r:List Str):D:= .tup [.str "fast",tS r]
noncomputable abbrev dP (r:List Str) (cs:List D):D:= .tup [.str "split",tS r,.tup cs]
noncomputable def TA (b:Nat) (d:D):Prop:=(∃a,d=dA a∧a.length≤b∧∀r∈a,Ok1 r)∨∃r,d=dF r∧Ok1 r
noncomputable def Tr (b:Nat):Nat→D→Prop
 | 0,d=>TA b d
 | n+1,d=>TA b d∨∃r cs,d=dP r cs∧Ok1 r∧cs.length≤b∧∀c∈cs,Tr b n c
theorem TA.imm {b:Nat} {d:D} (h:TA b d):d.imm=true:=by
 rcases h with⟨a,rfl,_⟩ |⟨r,rfl,_⟩
 ·show (true&&((tR a).imm&&true))=true
  rw[imm_tR];rfl
 ·show (true&&((tS r).imm&&true))=true
  rw[aDj];rfl
theorem immL_of {cs:List D} (h: ∀c∈cs,c.imm=true):immL cs=true:=by
 induction cs with
 | nil=>rfl
 | cons c cs ih=>
  show (c.imm&&immL cs)=true
  rw[h c List.mem_cons_self,ih fun d hd=>h d (List.mem_cons_of_mem _ hd)];rfl
theorem imm_dP {r:List Str} {cs:List D} (h: ∀c∈cs,c.imm=true):(dP r cs).imm=true:=by
 show (true&&((tS r).imm&&(immL cs&&true)))=true
 rw[aDj,immL_of h];rfl
theorem Tr.imm {b:Nat}: ∀{n:Nat} {d:D},Tr b n d→d.imm=true
 | 0,d,h=>TA.imm h
 | n+1,d,h=>by
  rcases h with h |⟨r,cs,rfl,_,_,h⟩
  ·exact h.imm
  ·exact imm_dP fun c hc=>Tr.imm (h c hc)
theorem TA.up {b c:Nat} (hb:b≤c) {d:D} (h:TA b d):TA c d:=by
 rcases h with⟨a,e,h1,h2⟩ | h
 ·exact .inl ⟨a,e,Nat.le_trans h1 hb,h2⟩
 ·exact .inr h
theorem Tr.up {b c:Nat} (hb:b≤c): ∀{n:Nat} {d:D},Tr b n d→Tr c n d
 | 0,d,h=>TA.up hb h
 | n+1,d,h=>by
  rcases h with h |⟨r,cs,e,h1,h2,h3⟩
  ·exact .inl (h.up hb)
  ·exact .inr ⟨r,cs,e,h1,Nat.le_trans h2 hb,fun c hc=>Tr.up hb (h3 c hc)⟩
theorem Tr.of {b n:Nat} {d:D} (h:TA b d):Tr b n d:=by
 cases n with
 | zero=>exact h
 | succ n=>exact .inl h
theorem Tr.more {b:Nat}: ∀{n m:Nat} {d:D},n≤m→Tr b n d→Tr b m d
 | 0,m,d,_,h=>Tr.of h
 | n+1,0,d,hm,h=>absurd hm (by omega)
 | n+1,m+1,d,hm,h=>by
  rcases h with h |⟨r,cs,e,h1,h2,h3⟩
  ·exact .inl h
  ·exact .inr ⟨r,cs,e,h1,h2,fun c hc=>Tr.more (by omega) (h3 c hc)⟩
noncomputable def none1:List D→M D:=fun _=>none
noncomputable def fSA (t:Adr):Nat→(List D→M D)×(List D→M D)
 | 0=>(none1,none1)
 | n+1=>(viaD 4 fun ds=>aAr (aC6 t (fSA t n).2 (fApart t) (fFree t) (aB7 N_shows ds)),viaD 5 fun ds=>aAr (aC7 t (fSA t n).1 (fWithout t) (aB7 aDq ds)))
noncomputable def fShown (t:Adr):Nat→List D→M D
 | 0=>none1
 | n+1=>viaD 4 fun ds=>aAr (aBl t (fLawA t) (fLeft t) (fLoose t) (fShown t n) (aB7 aBt ds))
theorem eqs_ok {f:Rho→M D} {ρ:Rho} {x:Str} (y:Str) (h:f ρ=ok (.str x)):b2 gEq f (con (.str y)) ρ=ok (.bl (decide (x=y))):=aBj h (y:= .str y) rfl rfl
theorem nfa:¬(("fast":Str)="apart"):=by decide+kernel
theorem nsa:¬(("split":Str)="apart"):=by decide+kernel
theorem nsf:¬(("split":Str)="fast"):=by decide+kernel
theorem shows_apart (t:Adr) {F:List D→M D} {a rs:List (List Str)} {z:Int} {k:List Str} (ha:a.length≤15) (h7: ∀r∈a,r.length≤7) (hr:rs.length<18):
  aAr (aC6 t F (fApart t) (fFree t) (aB7 N_shows [dA a,tR rs,.int z,lS k]))=ok (.bl (decide (z<a.length)&&apartB a rs k)):=by
 have e0:aB7 N_shows [dA a,tR rs,.int z,lS k]=[some (.sh (dA a)),some (.sh (tR rs)),some (.sh (.int z)),some (.sh (lS k)),none,none,none]:=rfl
 rw[e0]
 unfold aC6
 rw[aAf (aA3 (d:= .str "apart") rfl rfl)]
 show aAr (aAm _ _ [some (.sh (dA a)),some (.sh (tR rs)),some (.sh (.int z)),some (.sh (lS k)),some (.sh (.str "apart")),none,none])=_
 have q:=aAp (eqs_ok (f:=look 4) (ρ:=[some (.sh (dA a)),some (.sh (tR rs)),some (.sh (.int z)),some (.sh (lS k)),some (.sh (.str "apart")),none,none]) (x:="apart") "apart" rfl)
 rw[decide_eq_true rfl] at q
 have l1:f1 aEa (b2 gIx (look 0) (con (.int 1))) [some (.sh (dA a)),some (.sh (tR rs)),some (.sh (.int z)),some (.sh (lS k)),some (.sh (.str "apart")),none,none]=ok (.int a.length):=aDr (d:=tR a) rfl (row_len (.inl rfl))
 rw[aAl ((aEb q).trans (aAl (aAz (andV_ok (gti_ok l1 (j:=z) rfl) ((aBn (aAc (d:=tR a) rfl (aAc (d:=tR rs) rfl (aAc (d:=lS k) rfl aAn)))).trans (apart_sp t ha h7 hr))))))]
 rfl
theorem shown_apart (t:Adr) {F:List D→M D} {a rs:List (List Str)} {z:Int} {k:List Str} (ha:a.length≤15) (h1: ∀r∈a,Ok1 r) (hr: ∀r∈rs,r.Nodup):
  aAr (aBl t (fLawA t) (fLeft t) (fLoose t) F (aB7 aBt [dA a,tR rs,.int z,lS k]))=ok (.bl (decide (z<a.length)&&apartB a rs k)):=by
 have e0:aB7 aBt [dA a,tR rs,.int z,lS k]=[some (.sh (dA a)),some (.sh (tR rs)),some (.sh (.int z)),some (.sh (lS k)),none,none]:=rfl
 rw[e0]
 unfold aBl
 have q:=aAp (eqs_ok (f:=b2 gIx (look 0) (con (.int 0))) (ρ:=[some (.sh (dA a)),some (.sh (tR rs)),some (.sh (.int z)),some (.sh (lS k)),none,none]) (x:="apart") "apart" rfl)
 rw[decide_eq_true rfl] at q
 have l1:f1 aEa (b2 gIx (look 0) (con (.int 1))) [some (.sh (dA a)),some (.sh (tR rs)),some (.sh (.int z)),some (.sh (lS k)),none,none]=ok (.int a.length):=aDr (d:=tR a) rfl (row_len (.inl rfl))
 rw[aAl ((aEb q).trans (aAl (aAz (andV_ok (gti_ok l1 (j:=z) rfl) ((aBn (aAc (d:=tR a) rfl (aAc (d:=tR rs) rfl (aAc (d:=lS k) rfl aAn)))).trans (lawA_sp t (.inl rfl) h1 (by omega) hr))))))]
 rfl
theorem shows_in (t:Adr) {F:List D→M D} {x:Str} {ds:List D} {r:List Str} {rs:List (List Str)} {z:Int} {k:List Str} (hx:¬x="apart") (h7:r.length≤7):
  ((¬r∈rs)→aAr (aC6 t F (fApart t) (fFree t) (aB7 N_shows [.tup (.str x::tS r::ds),tR rs,.int z,lS k]))=ok (.bl false))∧
  (r∈rs→x="fast"→aAr (aC6 t F (fApart t) (fFree t) (aB7 N_shows [.tup (.str x::tS r::ds),tR rs,.int z,lS k]))=ok (.bl (decide (loose r k=[]))))∧
  (r∈rs→¬x="fast"→∀cs,ds=[.tup cs]→∀b,(cs.length=(loose r k).length→F [.tup cs,lS (loose r k),tR rs,.int z,lS k]=ok (.bl b))→aAr (aC6 t F (fApart t) (fFree t) (aB7 N_shows [.tup (.str x::tS r::ds),tR rs,.int z,lS k]))=ok (.bl (decide (cs.length=(loose r k).length)&&b))):=by
 have e0:aB7 N_shows [.tup (.str x::tS r::ds),tR rs,.int z,lS k]=[some (.sh (.tup (.str x::tS r::ds))),some (.sh (tR rs)),some (.sh (.int z)),some (.sh (lS k)),none,none,none]:=rfl
 rw[e0]
 unfold aC6
 rw[aAf (aA3 (d:= .str x) (aBj (x:= .tup (.str x::tS r::ds)) (y:= .int 0) rfl rfl (ix_tup (j:=0) rfl)) rfl)]
 have q:=aAp (eqs_ok (f:=look 4) (ρ:=[some (.sh (.tup (.str x::tS r::ds))),some (.sh (tR rs)),some (.sh (.int z)),some (.sh (lS k)),some (.sh (.str x)),none,none]) (x:=x) "apart" rfl)
 rw[decide_eq_false hx] at q
 have s2:=aA3 (i:=5) (f:=b2 gIx (look 0) (con (.int 1))) (ρ:=[some (.sh (.tup (.str x::tS r::ds))),some (.sh (tR rs)),some (.sh (.int z)),some (.sh (lS k)),some (.sh (.str x)),none,none]) (d:=tS r) (aBj (x:= .tup (.str x::tS r::ds)) (y:= .int 1) rfl rfl (ix_tup (j:=1) rfl)) (aDj r)
 have q3:aAt (b2 (gInT true) (look 5) (look 1)) [some (.sh (.tup (.str x::tS r::ds))),some (.sh (tR rs)),some (.sh (.int z)),some (.sh (lS k)),some (.sh (.str x)),some (.sh (tS r)),none]=ok (!rs.contains r):=aAp (aBj (x:=tS r) (y:=tR rs) rfl rfl (row_in (.inl rfl)))
 have s4:aDl 6 (app (fFree t) (aAe (look 5) (aAe (look 3) aAs))) [some (.sh (.tup (.str x::tS r::ds))),some (.sh (tR rs)),some (.sh (.int z)),some (.sh (lS k)),some (.sh (.str x)),some (.sh (tS r)),none]=some (.nx [some (.sh (.tup (.str x::tS r::ds))),some (.sh (tR rs)),some (.sh (.int z)),some (.sh (lS k)),some (.sh (.str x)),some (.sh (tS r)),some (.sh (lS (loose r k)))]):=
  aDc ((aBn (aAc (d:=tS r) rfl (aAc (d:=lS k) rfl aAn))).trans (free_sp t (by omega))) rfl
 have q5:=aAp (eqs_ok (f:=look 4) (ρ:=[some (.sh (.tup (.str x::tS r::ds))),some (.sh (tR rs)),some (.sh (.int z)),some (.sh (lS k)),some (.sh (.str x)),some (.sh (tS r)),some (.sh (lS (loose r k)))]) (x:=x) "fast" rfl)
 have l6:f1 aEa (look 6) [some (.sh (.tup (.str x::tS r::ds))),some (.sh (tR rs)),some (.sh (.int z)),some (.sh (lS k)),some (.sh (.str x)),some (.sh (tS r)),some (.sh (lS (loose r k)))]=ok (.int (loose r k).length):=aDr (d:=lS (loose r k)) rfl (by show ok (D.int (((loose r k).map D.str).length:Int))=_;rw[List.length_map])
 refine⟨fun hr=> ?_,fun hr hf=> ?_,fun hr hf cs ec b hb=> ?_⟩
 ·rw[show rs.contains r=false by simpa using hr] at q3
  show aAr (aAm _ _ [some (.sh (.tup (.str x::tS r::ds))),some (.sh (tR rs)),some (.sh (.int z)),some (.sh (lS k)),some (.sh (.str x)),none,none])=_
  rw[aAf ((aCd q).trans rfl),aAf s2]
  show aAr (aAm _ _ [some (.sh (.tup (.str x::tS r::ds))),some (.sh (tR rs)),some (.sh (.int z)),some (.sh (lS k)),some (.sh (.str x)),some (.sh (tS r)),none])=_
  rw[aAl ((aEb q3).trans (aAl (aAz (d:= .bl false) rfl)))]
  rfl
 ·rw[show rs.contains r=true by simpa using hr] at q3
  rw[decide_eq_true hf] at q5
  show aAr (aAm _ _ [some (.sh (.tup (.str x::tS r::ds))),some (.sh (tR rs)),some (.sh (.int z)),some (.sh (lS k)),some (.sh (.str x)),none,none])=_
  rw[aAf ((aCd q).trans rfl),aAf s2]
  show aAr (aAm _ _ [some (.sh (.tup (.str x::tS r::ds))),some (.sh (tR rs)),some (.sh (.int z)),some (.sh (lS k)),some (.sh (.str x)),some (.sh (tS r)),none])=_
  rw[aAf ((aCd q3).trans rfl),aAf s4,aAl ((aEb q5).trans (aAl (aAz (eqi_ok l6 (j:=0) rfl))))]
  refine dec_bl ?_
  rw[←List.length_eq_zero_iff]
  omega
 ·rw[show rs.contains r=true by simpa using hr] at q3
  rw[decide_eq_false hf] at q5
  subst ec
  show aAr (aAm _ _ [some (.sh (.tup [.str x,tS r,.tup cs])),some (.sh (tR rs)),some (.sh (.int z)),some (.sh (lS k)),some (.sh (.str x)),none,none])=_
  rw[aAf ((aCd q).trans rfl),aAf s2]
  show aAr (aAm _ _ [some (.sh (.tup [.str x,tS r,.tup cs])),some (.sh (tR rs)),some (.sh (.int z)),some (.sh (lS k)),some (.sh (.str x)),some (.sh (tS r)),none])=_
  have lc:f1 aEa (b2 gIx (look 0) (con (.int 2))) [some (.sh (.tup [.str x,tS r,.tup cs])),some (.sh (tR rs)),some (.sh (.int z)),some (.sh (lS k)),some (.sh (.str x)),some (.sh (tS r)),some (.sh (lS (loose r k)))]=ok (.int cs.length):=aDr (d:= .tup cs) rfl rfl
  rw[aAf ((aCd q3).trans rfl),aAf s4,aAf ((aCd q5).trans rfl)]
  have e1:=eqi_ok lc l6
  by_cases hc:cs.length=(loose r k).length
  ·rw[decide_eq_true (by omega)] at e1
   rw[decide_eq_true hc,aAl (aAz (andV_ok e1 ((aBn (aAc (d:= .tup cs) rfl (aAc (d:=lS (loose r k)) rfl (aAc (d:=tR rs) rfl (aAc (d:= .int z) rfl (aAc (d:=lS k) rfl aAn)))))).trans (hb hc))))]
   rfl
  ·rw[decide_eq_false (by omega)] at e1
   rw[decide_eq_false hc,aAl (aAz (andV_f e1))]
   rfl
theorem eqS_nil {xs:List Str}:gEqS (lS xs) (.lst [])=ok (.bl (decide (xs=[]))):=by
 show (match strL (xs.map D.str),strL [] with | some x,some y=>ok (D.bl (decide (x=y))) | _,_=>none)=_
 rw[strL_map]
 rfl
noncomputable abbrev Zs:=List (D×Str×Bool)
theorem zip_zs: ∀(zs:Zs),zipD (zs.map (·.1)) ((zs.map (·.2.1)).map D.str)=zs.map fun z=>D.tup [z.1,.str z.2.1]
 | []=>rfl
 | z::zs=>by
  show D.tup [z.1,.str z.2.1]::zipD (zs.map (·.1)) ((zs.map (·.2.1)).map D.str)=_
  rw[zip_zs zs];rfl
theorem mk_zs {P:D→Str→Bool→Prop}: ∀(cs:List D) (ns:List Str),cs.length=ns.length→(∀c∈cs,∀n∈ns,∃b,P c n b)→∃zs:Zs,cs=zs.map (·.1)∧ns=zs.map (·.2.1)∧∀z∈zs,P z.1 z.2.1 z.2.2
 | [],[],_,_=>⟨[],rfl,rfl,fun z hz=>by cases hz⟩
 | [],_::_,h,_=>by simp at h
 | _::_,[],h,_=>by simp at h
 | c::cs,n::ns,h,q=>by
  obtain⟨zs,e1,e2,e3⟩:=mk_zs cs ns (by simpa using h) fun c hc n hn=>q c (List.mem_cons_of_mem _ hc) n (List.mem_cons_of_mem _ hn)
  obtain⟨b,hb⟩:=q c List.mem_cons_self n List.mem_cons_self
  refine⟨(c,n,b)::zs,by rw[e1];rfl,by rw[e2];rfl,fun z hz=> ?_⟩
  rcases List.mem_cons.mp hz with rfl | hz
  ·exact hb
  ·exact e3 z hz
theorem blL_map: ∀(bs:List Bool),blL (bs.map D.bl)=some bs
 | []=>rfl
 | b::bs=>by
  show (match blL (bs.map D.bl) with | some bs=>some (b::bs) | none=>none)=_
  rw[blL_map bs]
theorem cmpL_zs {fe:Rho→M D} {ρ:Rho}: ∀(zs:Zs),(∀z∈zs,fe ((ρ.set 6 (some (.sh z.1))).set 7 (some (.sh (.str z.2.1))))=ok (.bl z.2.2))→cmpL [6,7] h2 (fun _=>ok true) fe (zs.map fun z=>D.tup [z.1,.str z.2.1]) ρ=ok ((zs.map (·.2.2)).map D.bl)
 | [],_=>rfl
 | z::zs,h=>by
  have ih:=cmpL_zs zs fun y hy=>h y (List.mem_cons_of_mem _ hy)
  have e1:=h z List.mem_cons_self
  rw[List.map_cons]
  unfold cmpL
  show (match fe ((ρ.set 6 (some (.sh z.1))).set 7 (some (.sh (.str z.2.1)))) with
    | some (.ok r)=>if r.imm=true then bnd (cmpL [6,7] h2 (fun _=>ok true) fe (zs.map fun (z:D×Str×Bool)=>D.tup [z.1,.str z.2.1]) ρ) fun rs=>ok (r::rs) else none
    | _=>none)=_
  rw[e1,ih]
  rfl
theorem sSetK_ok {i:Nat} {f:Rho→M D} {ρ:Rho} {d:D} (h:f ρ=ok d):sSetK i f ρ=some (.nx (ρ.set i (some (.sh d)))):=by unfold sSetK;rw[h];rfl
theorem all_zs (t:Adr) {S:List D→M D} {rs:List (List Str)} {z:Int} {k:List Str} (hr:rs.length≤1000) {zs:Zs} (hl:zs.length≤1000) (h: ∀y∈zs,S [y.1,tR (restR rs y.2.1),.int (z-1),lS k]=ok (.bl y.2.2)):
  aAr (aC7 t S (fWithout t) (aB7 aDq [.tup (zs.map (·.1)),lS (zs.map (·.2.1)),tR rs,.int z,lS k]))=ok (.bl (zs.all (·.2.2))):=by
 have e0:aB7 aDq [.tup (zs.map (·.1)),lS (zs.map (·.2.1)),tR rs,.int z,lS k]=[some (.sh (.tup (zs.map (·.1)))),some (.sh (lS (zs.map (·.2.1)))),some (.sh (tR rs)),some (.sh (.int z)),some (.sh (lS k)),none]:=rfl
 rw[e0]
 unfold aC7
 have i1:itZ (look 0) (look 1) [some (.sh (.tup (zs.map (·.1)))),some (.sh (lS (zs.map (·.2.1)))),some (.sh (tR rs)),some (.sh (.int z)),some (.sh (lS k)),none]=ok (zs.map fun z=>D.tup [z.1,.str z.2.1]):=by
  rw[←zip_zs]
  rfl
 have c1:cmp 2 (itZ (look 0) (look 1)) [6,7] h2 (fun _=>ok true) (app S (aAe (look 6) (aAe (app (fWithout t) (aAe (look 7) (aAe (look 2) aAs))) (aAe (b2 gSub (look 3) (con (.int 1))) (aAe (look 4) aAs))))) [some (.sh (.tup (zs.map (·.1)))),some (.sh (lS (zs.map (·.2.1)))),some (.sh (tR rs)),some (.sh (.int z)),some (.sh (lS k)),none]=ok (.lst ((zs.map (·.2.2)).map D.bl)):=by
  unfold cmp
  rw[i1,aDh,if_pos (by rw[List.length_map];omega),cmpL_zs zs fun y hy=> ?_,aDh]
  refine (aBn (aAc (d:=y.1) rfl (aAc ((aBn (aAc (d:= .str y.2.1) rfl (aAc (d:=tR rs) rfl aAn))).trans (without_sp t hr)) (aAc (sub_ok (i:=z) (j:=1) rfl rfl) (aAc (d:=lS k) rfl aAn))))).trans (h y hy)
 rw[aAf (sSetK_ok c1)]
 have a1:allD (.lst ((zs.map (·.2.2)).map D.bl))=ok (.bl (zs.all (·.2.2))):=by
  show (match blL ((zs.map (·.2.2)).map D.bl) with | some bs=>ok (D.bl (bs.all id)) | none=>none)=_
  rw[blL_map]
  show ok (D.bl ((zs.map (·.2.2)).all id))=_
  rw[List.all_map]
  rfl
 rw[aAl (aAz (aDr (d:= .lst ((zs.map (·.2.2)).map D.bl)) rfl a1))]
 rfl
noncomputable def bodyW (t:Adr) (S:List D→M D):Rho→Option Out:=(aAm (sIf (notB (test (app S (aAe (b2 gIx (b2 gIx (look 0) (con (.int 2))) (look 5)) (aAe (app (fLeft t) (aAe (look 1) (aAe (b2 gIx (look 4) (look 5)) aAs))) (aAe (b2 gSub (look 2) (con (.int 1))) (aAe (look 3) aAs))))))) (aAm (aD8 (con (.bl false)))
  aBd) aBd)
  aBd)
theorem shown_loop (t:Adr) {S:List D→M D} {r:List Str} {rs:List (List Str)} {z:Int} {k:List Str} (hr:rs.length≤1000) {zs:Zs} (h: ∀y∈zs,S [y.1,tR (restR rs y.2.1),.int (z-1),lS k]=ok (.bl y.2.2)):
  ∀(l dn:Zs) (o:Option SV),zs=dn++l→
  (if l.all (·.2.2)=true then∃ρ,loop (gN 5) (bodyW t S) (rng (dn.length:Int) l.length) [some (.sh (dP r (zs.map (·.1)))),some (.sh (tR rs)),some (.sh (.int z)),some (.sh (lS k)),some (.sh (lS (zs.map (·.2.1)))),o]=some (.nx ρ)
  else loop (gN 5) (bodyW t S) (rng (dn.length:Int) l.length) [some (.sh (dP r (zs.map (·.1)))),some (.sh (tR rs)),some (.sh (.int z)),some (.sh (lS k)),some (.sh (lS (zs.map (·.2.1)))),o]=some (.rt (.bl false))):=by
 intro l
 induction l with
 | nil=>intro dn o _;rw[List.all_nil,if_pos rfl];exact⟨_,rfl⟩
 | cons y l ih=>
  intro dn o e
  have hj:zs[dn.length]? =some y:=by rw[e,List.getElem?_append_right (Nat.le_refl _),Nat.sub_self];rfl
  have hy:=h y (by rw[e];exact List.mem_append_right _ List.mem_cons_self)
  rw[List.length_cons,rng_succ]
  have g:gN 5 (.int (dn.length:Int)) [some (.sh (dP r (zs.map (·.1)))),some (.sh (tR rs)),some (.sh (.int z)),some (.sh (lS k)),some (.sh (lS (zs.map (·.2.1)))),o]=some [some (.sh (dP r (zs.map (·.1)))),some (.sh (tR rs)),some (.sh (.int z)),some (.sh (lS k)),some (.sh (lS (zs.map (·.2.1)))),some (.sh (.int (dn.length:Int)))]:=rfl
  have i1:b2 gIx (b2 gIx (look 0) (con (.int 2))) (look 5) [some (.sh (dP r (zs.map (·.1)))),some (.sh (tR rs)),some (.sh (.int z)),some (.sh (lS k)),some (.sh (lS (zs.map (·.2.1)))),some (.sh (.int (dn.length:Int)))]=ok y.1:=
   aBj (x:= .tup (zs.map (·.1))) (y:= .int (dn.length:Int)) rfl rfl (ix_tup (by rw[List.getElem?_map,hj];rfl))
  have i2:b2 gIx (look 4) (look 5) [some (.sh (dP r (zs.map (·.1)))),some (.sh (tR rs)),some (.sh (.int z)),some (.sh (lS k)),some (.sh (lS (zs.map (·.2.1)))),some (.sh (.int (dn.length:Int)))]=ok (.str y.2.1):=
   aBj (x:=lS (zs.map (·.2.1))) (y:= .int (dn.length:Int)) rfl rfl (ix_lst (by rw[List.getElem?_map,List.getElem?_map,hj];rfl))
  have c:=notB_ok (test_ok ((aBn (aAc i1 (aAc ((aBn (aAc (f:=look 1) (d:=tR rs) rfl (aAc i2 aAn))).trans (left_sp t hr)) (aAc (sub_ok (f:=look 2) (g:=con (.int 1)) (i:=z) (j:=1) rfl rfl) (aAc (f:=look 3) (d:=lS k) rfl aAn))))).trans hy) rfl)
  rw[List.all_cons]
  cases hb:y.2.2 with
  | false=>
   rw[hb] at c
   have b:bodyW t S [some (.sh (dP r (zs.map (·.1)))),some (.sh (tR rs)),some (.sh (.int z)),some (.sh (lS k)),some (.sh (lS (zs.map (·.2.1)))),some (.sh (.int (dn.length:Int)))]=some (.rt (.bl false)):=by
    unfold bodyW
    exact aAl ((aEb c).trans (aAl (aAz (d:= .bl false) rfl)))
   rw[Bool.false_and,if_neg (by decide)]
   unfold loop
   rw[g]
   dsimp only
   rw[b]
  | true=>
   rw[hb] at c
   have b:bodyW t S [some (.sh (dP r (zs.map (·.1)))),some (.sh (tR rs)),some (.sh (.int z)),some (.sh (lS k)),some (.sh (lS (zs.map (·.2.1)))),some (.sh (.int (dn.length:Int)))]=some (.nx [some (.sh (dP r (zs.map (·.1)))),some (.sh (tR rs)),some (.sh (.int z)),some (.sh (lS k)),some (.sh (lS (zs.map (·.2.1)))),some (.sh (.int (dn.length:Int)))]):=by
    unfold bodyW
    rw[aAf ((aCd c).trans rfl)]
    rfl
   have z':=ih (dn++ [y]) (some (.sh (.int (dn.length:Int)))) (by rw[e,List.append_assoc];rfl)
   have el:((dn++ [y]).length:Int)=(dn.length:Int)+1:=by rw[List.length_append,List.length_singleton];omega
   rw[el] at z'
   rw[Bool.true_and,loop_cons g b]
   exact z'
theorem shown_in (t:Adr) {F:List D→M D} {x:Str} {ds:List D} {r:List Str} {rs:List (List Str)} {z:Int} {k:List Str} (hx:¬x="apart") (h7:r.length≤7):
  ((¬r∈rs)→aAr (aBl t (fLawA t) (fLeft t) (fLoose t) F (aB7 aBt [.tup (.str x::tS r::ds),tR rs,.int z,lS k]))=ok (.bl false))∧
  (r∈rs→x="fast"→aAr (aBl t (fLawA t) (fLeft t) (fLoose t) F (aB7 aBt [.tup (.str x::tS r::ds),tR rs,.int z,lS k]))=ok (.bl (decide (loose r k=[]))))∧
  (r∈rs→x="split"→rs.length≤1000→∀cs,ds=[.tup cs]→∀b,(cs.length=(loose r k).length→∃zs:Zs,cs=zs.map (·.1)∧loose r k=zs.map (·.2.1)∧b=zs.all (·.2.2)∧∀y∈zs,F [y.1,tR (restR rs y.2.1),.int (z-1),lS k]=ok (.bl y.2.2))→
   aAr (aBl t (fLawA t) (fLeft t) (fLoose t) F (aB7 aBt [.tup (.str x::tS r::ds),tR rs,.int z,lS k]))=ok (.bl (decide (cs.length=(loose r k).length)&&b))):=by
 have e0:aB7 aBt [.tup (.str x::tS r::ds),tR rs,.int z,lS k]=[some (.sh (.tup (.str x::tS r::ds))),some (.sh (tR rs)),some (.sh (.int z)),some (.sh (lS k)),none,none]:=rfl
 rw[e0]
 unfold aBl
 have i0: ∀o4:Option SV,b2 gIx (look 0) (con (.int 0)) [some (.sh (.tup (.str x::tS r::ds))),some (.sh (tR rs)),some (.sh (.int z)),some (.sh (lS k)),o4,none]=ok (.str x):=fun o4=>aBj (x:= .tup (.str x::tS r::ds)) (y:= .int 0) rfl rfl (ix_tup (j:=0) rfl)
 have i1: ∀o4:Option SV,b2 gIx (look 0) (con (.int 1)) [some (.sh (.tup (.str x::tS r::ds))),some (.sh (tR rs)),some (.sh (.int z)),some (.sh (lS k)),o4,none]=ok (tS r):=fun o4=>aBj (x:= .tup (.str x::tS r::ds)) (y:= .int 1) rfl rfl (ix_tup (j:=1) rfl)
 have q:=aAp (eqs_ok "apart" (i0 none))
 rw[decide_eq_false hx] at q
 rw[aAf ((aCd q).trans rfl)]
 have q3:aAt (b2 (gInT true) (b2 gIx (look 0) (con (.int 1))) (look 1)) [some (.sh (.tup (.str x::tS r::ds))),some (.sh (tR rs)),some (.sh (.int z)),some (.sh (lS k)),none,none]=ok (!rs.contains r):=aAp (aBj (i1 none) (y:=tR rs) rfl (row_in (.inl rfl)))
 have s4:aDl 4 (app (fLoose t) (aAe (b2 gIx (look 0) (con (.int 1))) (aAe (look 3) aAs))) [some (.sh (.tup (.str x::tS r::ds))),some (.sh (tR rs)),some (.sh (.int z)),some (.sh (lS k)),none,none]=some (.nx [some (.sh (.tup (.str x::tS r::ds))),some (.sh (tR rs)),some (.sh (.int z)),some (.sh (lS k)),some (.sh (lS (loose r k))),none]):=
  aDc ((aBn (aAc (i1 none) (aAc (d:=lS k) rfl aAn))).trans (loose_sp t (by omega))) rfl
 have q5:=aAp (eqs_ok "fast" (i0 (some (.sh (lS (loose r k))))))
 refine⟨fun hr=> ?_,fun hr hf=> ?_,fun hr hf hrl cs ec b hb=> ?_⟩
 ·rw[show rs.contains r=false by simpa using hr] at q3
  rw[aAl ((aEb q3).trans (aAl (aAz (d:= .bl false) rfl)))]
  rfl
 ·rw[show rs.contains r=true by simpa using hr] at q3
  rw[decide_eq_true hf] at q5
  rw[aAf ((aCd q3).trans rfl),aAf s4,aAl ((aEb q5).trans (aAl (aAz (aBj (x:=lS (loose r k)) (y:= .lst []) rfl rfl eqS_nil))))]
  rfl
 ·subst hf
  rw[show rs.contains r=true by simpa using hr] at q3
  rw[decide_eq_false nsf] at q5
  subst ec
  rw[aAf ((aCd q3).trans rfl),aAf s4,aAf ((aCd q5).trans rfl)]
  have lc:f1 aEa (b2 gIx (look 0) (con (.int 2))) [some (.sh (dP r cs)),some (.sh (tR rs)),some (.sh (.int z)),some (.sh (lS k)),some (.sh (lS (loose r k))),none]=ok (.int cs.length):=aDr (d:= .tup cs) rfl rfl
  have l6:f1 aEa (look 4) [some (.sh (dP r cs)),some (.sh (tR rs)),some (.sh (.int z)),some (.sh (lS k)),some (.sh (lS (loose r k))),none]=ok (.int (loose r k).length):=aDr (d:=lS (loose r k)) rfl (by show ok (D.int (((loose r k).map D.str).length:Int))=_;rw[List.length_map])
  have c6:=aAp (aBj lc l6 (g:=gNe) (r:=ok (.bl (!decide ((cs.length:Int)=(loose r k).length)))) rfl)
  by_cases hc:cs.length=(loose r k).length
  ·rw[decide_eq_true (by omega)] at c6
   obtain⟨zs,ez1,ez2,ez3,hz⟩:=hb hc
   rw[aAf ((aCd c6).trans rfl),decide_eq_true hc,Bool.true_and]
   have lp:=shown_loop t (S:=F) (r:=r) (rs:=rs) (z:=z) (k:=k) hrl hz zs [] none rfl
   rw[←ez1,←ez2] at lp
   have ll:(loose r k).length≤7:=Nat.le_trans (List.length_filter_le _ _) h7
   have lz:(loose r k).length=zs.length:=by rw[ez2,List.length_map]
   have e2:=sForR1_ok (G:=gN 5) (F:=bodyW t F) l6 (by omega) (by omega)
   rw[Int.toNat_natCast,lz] at e2
   show aAr (aAm (sForR1 (f1 aEa (look 4)) (gN 5) (bodyW t F)) _ _)=_
   cases hbb:b with
   | true=>
    rw[←ez3,hbb,if_pos rfl] at lp
    obtain⟨ρ,lp⟩:=lp
    rw[aAf (e2.trans lp),aAl (aAz (d:= .bl true) rfl)]
    rfl
   | false=>
    rw[←ez3,hbb,if_neg (by decide)] at lp
    rw[aAl (e2.trans lp)]
    rfl
  ·rw[decide_eq_false (by omega)] at c6
   rw[aAl ((aEb c6).trans (aAl (aAz (d:= .bl false) rfl))),decide_eq_false hc]
   rfl
theorem sh_of {t:Adr} {n:Nat} {ds:List D} {x:D} (hl:ds.length=4) (h:aAr (aC6 t (fSA t n).2 (fApart t) (fFree t) (aB7 N_shows ds))=ok x):(fSA t (n+1)).1 ds=ok x:=by
 rw[fSA]
 exact aBs (n:=4) (f:=fun ds=>aAr (aC6 t (fSA t n).2 (fApart t) (fFree t) (aB7 N_shows ds))) hl h
theorem sa_of {t:Adr} {n:Nat} {ds:List D} {x:D} (hl:ds.length=5) (h:aAr (aC7 t (fSA t n).1 (fWithout t) (aB7 aDq ds))=ok x):(fSA t (n+1)).2 ds=ok x:=by
 rw[fSA]
 exact aBs (n:=5) (f:=fun ds=>aAr (aC7 t (fSA t n).1 (fWithout t) (aB7 aDq ds))) hl h
theorem sn_of {t:Adr} {n:Nat} {ds:List D} {x:D} (hl:ds.length=4) (h:aAr (aBl t (fLawA t) (fLeft t) (fLoose t) (fShown t n) (aB7 aBt ds))=ok x):fShown t (n+1) ds=ok x:=by
 rw[fShown]
 exact aBs (n:=4) (f:=fun ds=>aAr (aBl t (fLawA t) (fLeft t) (fLoose t) (fShown t n) (aB7 aBt ds))) hl h
theorem both (t:Adr) {k:List Str}: ∀(n:Nat) {d:D} {rs:List (List Str)} {z:Int},Tr 13 n d→rs.length<18→(∀r∈rs,r.Nodup)→∃b,(fSA t (2*n+1)).1 [d,tR rs,.int z,lS k]=ok (.bl b)∧fShown t (n+1) [d,tR rs,.int z,lS k]=ok (.bl b):=by
 intro n
 have leaf: ∀(n m:Nat) {d:D} {rs:List (List Str)} {z:Int},TA 13 d→rs.length<18→(∀r∈rs,r.Nodup)→∃b,(fSA t (n+1)).1 [d,tR rs,.int z,lS k]=ok (.bl b)∧fShown t (m+1) [d,tR rs,.int z,lS k]=ok (.bl b):=by
  intro n m d rs z h hl hr
  rcases h with⟨a,rfl,ha,h1⟩ |⟨r,rfl,h1⟩
  ·exact⟨_,sh_of rfl (shows_apart t (by omega) (fun r hr=>(h1 r hr).few) hl),sn_of rfl (shown_apart t (by omega) h1 hr)⟩
  ·obtain⟨p1,p2,_⟩:=shows_in t (F:=(fSA t n).2) (x:="fast") (ds:=[]) (r:=r) (rs:=rs) (z:=z) (k:=k) nfa h1.few
   obtain⟨s1,s2,_⟩:=shown_in t (F:=fShown t m) (x:="fast") (ds:=[]) (r:=r) (rs:=rs) (z:=z) (k:=k) nfa h1.few
   by_cases hm:r∈rs
   ·exact⟨_,sh_of rfl (p2 hm rfl),sn_of rfl (s2 hm rfl)⟩
   ·exact⟨_,sh_of rfl (p1 hm),sn_of rfl (s1 hm)⟩
 induction n with
 | zero=>intro d rs z h hl hr;exact leaf 0 0 h hl hr
 | succ n ih=>
  intro d rs z h hl hr
  rcases h with h |⟨r,cs,rfl,h1,h2,h3⟩
  ·exact leaf (2*n+2) (n+1) h hl hr
  ·obtain⟨p1,_,p3⟩:=shows_in t (F:=(fSA t (2*n+2)).2) (x:="split") (ds:=[.tup cs]) (r:=r) (rs:=rs) (z:=z) (k:=k) nsa h1.few
   obtain⟨s1,_,s3⟩:=shown_in t (F:=fShown t (n+1)) (x:="split") (ds:=[.tup cs]) (r:=r) (rs:=rs) (z:=z) (k:=k) nsa h1.few
   by_cases hm:r∈rs
   ·by_cases hc:cs.length=(loose r k).length
    ·obtain⟨zs,e1,e2,e3⟩:=mk_zs (P:=fun c m b=>(fSA t (2*n+1)).1 [c,tR (restR rs m),.int (z-1),lS k]=ok (.bl b)∧fShown t (n+1) [c,tR (restR rs m),.int (z-1),lS k]=ok (.bl b)) cs (loose r k) hc fun c hc m _=>
      ih (h3 c hc) (Nat.lt_of_le_of_lt (List.length_filter_le _ _) hl) fun q hq=>hr q (List.mem_filter.mp hq).1
     have lz:zs.length≤13:=by rw[←List.length_map (f:=fun y:D×Str×Bool=>y.1),←e1];exact h2
     refine⟨_,sh_of rfl (p3 hm nsf cs rfl (zs.all (·.2.2)) fun _=> ?_),sn_of rfl (s3 hm rfl (by omega) cs rfl (zs.all (·.2.2)) fun _=>⟨zs,e1,e2,rfl,fun y hy=>(e3 y hy).2⟩)⟩
     rw[e1,e2]
     exact sa_of rfl (all_zs t (by omega) (by omega) fun y hy=>(e3 y hy).1)
    ·exact⟨_,sh_of rfl (p3 hm nsf cs rfl false fun q=>absurd q hc),sn_of rfl (s3 hm rfl (by omega) cs rfl false fun q=>absurd q hc)⟩
   ·exact⟨_,sh_of rfl (p1 hm),sn_of rfl (s1 hm)⟩
theorem cutD_to (ds:List D) (j:Nat):L2.PU.cutD ds none (some (j:Int))=ds.take j:=by
 unfold L2.PU.cutD
 rw[HT.sIx_none,HT.sIx_nat,List.drop_zero,Nat.sub_zero]
 rcases Nat.le_total j ds.length with h | h
 ·rw[Nat.min_eq_left h]
 ·rw[Nat.min_eq_right h,List.take_length,List.take_of_length_le h]
theorem cutD_from (ds:List D) (j:Nat):L2.PU.cutD ds (some (j:Int)) none=ds.drop j:=by
 unfold L2.PU.cutD
 rw[HT.sIx_none,HT.sIx_nat]
 rcases Nat.le_total j ds.length with h | h
 ·rw[Nat.min_eq_left h]
  exact List.take_of_length_le (by rw[List.length_drop];exact Nat.le_refl _)
 ·rw[Nat.min_eq_right h,Nat.sub_self,List.take_zero,List.drop_eq_nil_of_le h]
theorem cutT_to {f g:Rho→M D} {ρ:Rho} {ds:List D} {j:Nat} (h1:f ρ=ok (.tup ds)) (h2:g ρ=ok (.int (j:Int))):aEg f aBu (aBk g) ρ=ok (.tup (ds.take j)):=by
 unfold aEg aBk aBu
 rw[h1,h2]
 show ok (D.tup (L2.PU.cutD ds none (some (j:Int))))=_
 rw[cutD_to]
theorem cutT_from {f g:Rho→M D} {ρ:Rho} {ds:List D} {j:Nat} (h1:f ρ=ok (.tup ds)) (h2:g ρ=ok (.int (j:Int))):aEg f (aBk g) aBu ρ=ok (.tup (ds.drop j)):=by
 unfold aEg aBk aBu
 rw[h1,h2]
 show ok (D.tup (L2.PU.cutD ds (some (j:Int)) none))=_
 rw[cutD_from]
theorem catT {f g:Rho→M D} {ρ:Rho} {xs ys:List D} (h1:f ρ=ok (.tup xs)) (h2:g ρ=ok (.tup ys)) (hl:xs.length+ys.length≤1000):b2 aAv f g ρ=ok (.tup (xs++ys)):=by
 refine aBj h1 h2 ?_
 show (if xs.length+ys.length≤100000 then ok (D.tup (xs++ys)) else none)=_
 rw[if_pos (by omega)]
theorem cutR_to {f g:Rho→M D} {ρ:Rho} {a:List (List Str)} {j:Nat} (h1:f ρ=ok (tR a)) (h2:g ρ=ok (.int (j:Int))):aEg f aBu (aBk g) ρ=ok (tR (a.take j)):=by
 rw[cutT_to h1 h2,←List.map_take]
theorem cutR_from {f g:Rho→M D} {ρ:Rho} {a:List (List Str)} {j:Nat} (h1:f ρ=ok (tR a)) (h2:g ρ=ok (.int (j:Int))):aEg f (aBk g) aBu ρ=ok (tR (a.drop j)):=by
 rw[cutT_from h1 h2,←List.map_drop]
theorem cutS_from {f g:Rho→M D} {ρ:Rho} {r:List Str} {j:Nat} (h1:f ρ=ok (tS r)) (h2:g ρ=ok (.int (j:Int))):aEg f (aBk g) aBu ρ=ok (tS (r.drop j)):=by
 rw[cutT_from h1 h2,←List.map_drop]
theorem catR {f g:Rho→M D} {ρ:Rho} {a b:List (List Str)} (h1:f ρ=ok (tR a)) (h2:g ρ=ok (tR b)) (hl:a.length+b.length≤1000):b2 aAv f g ρ=ok (tR (a++b)):=by
 rw[catT h1 h2 (by rw[List.length_map,List.length_map];exact hl),←List.map_append]
theorem nat_mod {n:Int} (m:Nat) (hm:0<m): ∃j:Nat,n%(m:Int)=(j:Int)∧j<m:=⟨(n%(m:Int)).toNat,by have:=Int.emod_nonneg n (by omega:(m:Int)≠0);omega,by have:=Int.emod_nonneg n (by omega:(m:Int)≠0);have:=Int.emod_lt_of_pos n (by omega:(0:Int)<m);omega⟩
noncomputable def fGreedy (t:Adr):List D→M D:=viaD 3 fun ds=>aAr (den_law_greedy t (fLawA t) (aB7 N_law_greedy ds))
noncomputable def bodyG (t:Adr):Rho→Option Out:=(aAm (sIf (test (app (fLawA t) (aAe (b2 aAv (look 3) (mkL (aAe (look 5) aAs))) (aAe (look 0) (aAe (look 1) aAs))))) (aAm (sOwn lApp 3 (aAe (look 5) aAs))
  aBd) aBd)
  aBd)
theorem greedy_sp (t:Adr) {rs:List (List Str)} {k:List Str} (n:Int) (hl:rs.length≤12) (hr: ∀r∈rs,Ok1 r): ∃a,fGreedy t [tR rs,lS k,.int n]=ok (tR a)∧a.length≤rs.length∧∀r∈a,r∈rs:=by
 have e0:aB7 N_law_greedy [tR rs,lS k,.int n]=[some (.sh (tR rs)),some (.sh (lS k)),some (.sh (.int n)),none,none,none]:=rfl
 obtain⟨j,hj,hj2⟩:=nat_mod (n:=n) (rs.length+1) (by omega)
 have lp:=loop_inv0 (G:=gN 5) (F:=bodyG t) (fun p ρ=> ∃(acc:List (List Str)) (o:Option SV),ρ=[some (.sh (tR rs)),some (.sh (lS k)),some (.sh (.int n)),some (.own (acc.map tS)),some (.sh (.int (j:Int))),o]∧acc.length≤p.length∧∀r∈acc,r∈rs) ((rs.drop j++rs.take j).map tS)
  [some (.sh (tR rs)),some (.sh (lS k)),some (.sh (.int n)),some (.own []),some (.sh (.int (j:Int))),none] ⟨[],none,rfl,by simp,fun r h=>by cases h⟩ (fun p d p' ρ e hI=>by
   obtain⟨acc,o,rfl,h1,h2⟩:=hI
   have hd:d∈(rs.drop j++rs.take j).map tS:=by rw[e];exact List.mem_append_right _ List.mem_cons_self
   have hp:p.length<rs.length:=by
    have:=congrArg List.length e
    rw[List.length_map,List.length_append,List.length_drop,List.length_take,List.length_append,List.length_cons] at this
    omega
   obtain⟨r,hm,rfl⟩:=List.mem_map.mp hd
   have hmr:r∈rs:=by
    rcases List.mem_append.mp hm with q | q
    ·exact List.mem_of_mem_drop q
    ·exact List.mem_of_mem_take q
   have h3: ∀q∈acc++ [r],q∈rs:=fun q hq=>by
    rcases List.mem_append.mp hq with hq | hq
    ·exact h2 q hq
    ·rw[List.mem_singleton] at hq;subst hq;exact hmr
   have g:gN 5 (tS r) [some (.sh (tR rs)),some (.sh (lS k)),some (.sh (.int n)),some (.own (acc.map tS)),some (.sh (.int (j:Int))),o]=some [some (.sh (tR rs)),some (.sh (lS k)),some (.sh (.int n)),some (.own (acc.map tS)),some (.sh (.int (j:Int))),some (.sh (tS r))]:=by
    show some (setV 5 (tS r) _)=_
    rw[setV_imm (aDj r)]
    rfl
   have c1:b2 aAv (look 3) (mkL (aAe (look 5) aAs)) [some (.sh (tR rs)),some (.sh (lS k)),some (.sh (.int n)),some (.own (acc.map tS)),some (.sh (.int (j:Int))),some (.sh (tS r))]=ok (lR (acc++ [r])):=by
    refine aBj (x:=lR acc) (y:= .lst [tS r]) rfl rfl ?_
    show (if (acc.map tS).length+1≤100000 then ok (D.lst (acc.map tS++ [tS r])) else none)=_
    rw[if_pos (by rw[List.length_map];omega)]
    show _=ok (D.lst ((acc++ [r]).map tS))
    rw[List.map_append]
    rfl
   have c2:=test_ok ((aBn (aAc c1 (aAc (f:=look 0) (d:=tR rs) rfl (aAc (f:=look 1) (d:=lS k) rfl aAn)))).trans (lawA_sp t (.inr rfl) (fun q hq=>hr q (h3 q hq)) (by rw[List.length_append,List.length_singleton];omega) (fun q hq=>(hr q hq).nd))) rfl
   cases hb:apartB (acc++ [r]) rs k with
   | true=>
    rw[hb] at c2
    have b:bodyG t [some (.sh (tR rs)),some (.sh (lS k)),some (.sh (.int n)),some (.own (acc.map tS)),some (.sh (.int (j:Int))),some (.sh (tS r))]=some (.nx [some (.sh (tR rs)),some (.sh (lS k)),some (.sh (.int n)),some (.own ((acc++ [r]).map tS)),some (.sh (.int (j:Int))),some (.sh (tS r))]):=by
     unfold bodyG
     rw[aAf ((aEb c2).trans (aAf (own_app (i:=3) (acc:=acc.map tS) (d:=tS r) rfl rfl (aDj r) (by rw[List.length_map];omega) rfl)))]
     rw[List.map_append]
     rfl
    exact⟨_,_,g,.inl b,acc++ [r],_,rfl,by rw[List.length_append,List.length_append,List.length_singleton,List.length_singleton];omega,h3⟩
   | false=>
    rw[hb] at c2
    have b:bodyG t [some (.sh (tR rs)),some (.sh (lS k)),some (.sh (.int n)),some (.own (acc.map tS)),some (.sh (.int (j:Int))),some (.sh (tS r))]=some (.nx [some (.sh (tR rs)),some (.sh (lS k)),some (.sh (.int n)),some (.own (acc.map tS)),some (.sh (.int (j:Int))),some (.sh (tS r))]):=by
     unfold bodyG
     rw[aAf ((aCd c2).trans rfl)]
     rfl
    exact⟨_,_,g,.inl b,acc,_,rfl,by rw[List.length_append,List.length_singleton];omega,h2⟩)
 obtain⟨ρ',l1,acc,o,rfl,l2,l3⟩:=lp
 have l4:(rs.drop j++rs.take j).length=rs.length:=by rw[List.length_append,List.length_drop,List.length_take];omega
 rw[List.length_map,l4] at l2
 refine⟨acc,aBs rfl ?_,l2,l3⟩
 rw[e0]
 unfold den_law_greedy
 rw[aAf new_ok]
 show aAr (aAm _ _ [some (.sh (tR rs)),some (.sh (lS k)),some (.sh (.int n)),some (.own []),none,none])=_
 have m1:b2 aCf (look 2) (b2 aAv (f1 aEa (look 0)) (con (.int 1))) [some (.sh (tR rs)),some (.sh (lS k)),some (.sh (.int n)),some (.own []),none,none]=ok (.int (j:Int)):=by
  rw[←hj]
  refine aB1 (i:=n) rfl ?_ (by omega)
  exact add_ok (i:=rs.length) (j:=1) (aDr (d:=tR rs) rfl (row_len (.inl rfl))) rfl
 rw[aAf (aA3 m1 rfl)]
 show aAr (aAm (sForE _ (gN 5) (bodyG t)) _ [some (.sh (tR rs)),some (.sh (lS k)),some (.sh (.int n)),some (.own []),some (.sh (.int (j:Int))),none])=_
 have c1:b2 aAv (aEg (look 0) (aBk (look 4)) aBu) (aEg (look 0) aBu (aBk (look 4))) [some (.sh (tR rs)),some (.sh (lS k)),some (.sh (.int n)),some (.own []),some (.sh (.int (j:Int))),none]=ok (tR (rs.drop j++rs.take j)):=
  catR (cutR_from (j:=j) rfl rfl) (cutR_to (j:=j) rfl rfl) (by rw[←List.length_append];omega)
 have e1:=sForE_ok (G:=gN 5) (F:=bodyG t) c1 (ds:=(rs.drop j++rs.take j).map tS) rfl
 rw[if_pos (imm_tR _)] at e1
 rw[aAf (e1.trans l1),aAl (aAz (aDr (g:=toT) (d:=lR acc) (r:=ok (tR acc)) rfl rfl))]
 rfl
noncomputable def fBuild (t:Adr):Nat→List D→M D
 | 0=>none1
 | n+1=>viaD 4 fun ds=>aAr (aBw t (fBuild t n) (fGreedy t) (fLeft t) (fLoose t) (aB7 aDn ds))
theorem left_lt {rs:List (List Str)} {r:List Str} {x:Str} (hr:r∈rs) (hx:x∈r):(restR rs x).length<rs.length:=by
 unfold restR
 rw[List.length_filter_lt_length_iff_exists]
 exact⟨r,hr,by simp[hx]⟩
theorem mul_small {i j:Int} (hi:0≤i∧i<1099511627776) (hj:0≤j∧j<1099511627776):mulB i j=true:=
 mulB_of (pow_line (m:=40) (by omega) (by decide)) (pow_line (m:=40) (by omega) (by decide))
noncomputable def bodyB (t:Adr) (F:List D→M D):Rho→Option Out:=(aAm (sOwn lApp 8 (aAe (app F (aAe (app (fLeft t) (aAe (look 0) (aAe (b2 gIx (look 5) (look 9)) aAs))) (aAe (b2 gSub (b2 gMin (look 1) (con (.int 4))) (con (.int 1))) (aAe (look 2) (aAe (b2 aAv (look 7) (b2 aCu (con (.int 97)) (look 9))) aAs))))) aAs))
  aBd)
theorem build_sp (t:Adr) {k:List Str}: ∀(n:Nat) {rs:List (List Str)} (z num:Int),rs.length≤n→rs.length≤12→(∀r∈rs,Ok1 r)→0≤num→num<1099511627776→∃d,fBuild t (n+1) [tR rs,.int z,lS k,.int num]=ok d∧Tr 12 n d:=by
 intro n
 induction n with
 | zero=>
  intro rs z num h0 _ _ _ _
  have e:rs=[]:=List.length_eq_zero_iff.mp (by omega)
  subst e
  refine⟨dA [],aBs (n:=4) rfl ?_,.inl ⟨[],rfl,Nat.zero_le _,fun r h=>by cases h⟩⟩
  have e0:aB7 aDn [tR [],.int z,lS k,.int num]=[some (.sh (tR [])),some (.sh (.int z)),some (.sh (lS k)),some (.sh (.int num)),none,none,none,none,none,none]:=rfl
  rw[e0]
  unfold aBw
  rw[aAl ((aEb (aAp (b:=true) rfl)).trans (aAl (aAz (d:=dA []) rfl)))]
  rfl
 | succ n ih=>
  intro rs z num hn h12 hr n0 n1
  by_cases hrs:rs=[]
  ·subst hrs
   refine⟨dA [],aBs (n:=4) rfl ?_,.inl (.inl ⟨[],rfl,Nat.zero_le _,fun r h=>by cases h⟩)⟩
   have e0:aB7 aDn [tR [],.int z,lS k,.int num]=[some (.sh (tR [])),some (.sh (.int z)),some (.sh (lS k)),some (.sh (.int num)),none,none,none,none,none,none]:=rfl
   rw[e0]
   unfold aBw
   rw[aAl ((aEb (aAp (b:=true) rfl)).trans (aAl (aAz (d:=dA []) rfl)))]
   rfl
  ·have hp:0<rs.length:=List.length_pos_iff.mpr hrs
   obtain⟨j,hj,hj2⟩:=nat_mod (n:=num) rs.length hp
   obtain⟨r,hrj⟩: ∃r,rs[j]? =some r:=⟨rs[j],List.getElem?_eq_getElem hj2⟩
   have hm:r∈rs:=List.mem_of_getElem? hrj
   have h1:=hr r hm
   have ll:(loose r k).length≤7:=Nat.le_trans (List.length_filter_le _ _) h1.few
   obtain⟨a,g1,g2,g3⟩:=greedy_sp t (k:=k) (num/14) h12 hr
   obtain⟨ρ0,hρ0⟩: ∃ρ0:Rho,ρ0=[some (.sh (tR rs)),some (.sh (.int z)),some (.sh (lS k)),some (.sh (.int num)),none,none,none,none,none,none]:=⟨_,rfl⟩
   have t0:aAt (b2 gEqNil (look 0) (mkT aAs)) ρ0=ok false:=by
    rw[hρ0]
    refine aAp (aBj (x:=tR rs) (y:= .tup []) rfl rfl ?_)
    show ok (D.bl (rs.map tS).isEmpty)=_
    cases rs with
    | nil=>exact absurd rfl hrs
    | cons _ _=>rfl
   have i1:b2 gIx (look 0) (b2 aCf (look 3) (f1 aEa (look 0))) ρ0=ok (tS r):=by
    rw[hρ0]
    refine aBj (x:=tR rs) (y:= .int (j:Int)) rfl ?_ (row_ix (.inl rfl) hrj)
    rw[←hj]
    exact aB1 (i:=num) rfl (aDr (d:=tR rs) rfl (row_len (.inl rfl))) (by omega)
   obtain⟨ρ1,hρ1⟩: ∃ρ1:Rho,ρ1=[some (.sh (tR rs)),some (.sh (.int z)),some (.sh (lS k)),some (.sh (.int num)),some (.sh (tS r)),some (.sh (lS (loose r k))),none,none,none,none]:=⟨_,rfl⟩
   have s1:aDl 5 (app (fLoose t) (aAe (look 4) (aAe (look 2) aAs))) [some (.sh (tR rs)),some (.sh (.int z)),some (.sh (lS k)),some (.sh (.int num)),some (.sh (tS r)),none,none,none,none,none]=some (.nx ρ1):=by
    rw[hρ1]
    exact aDc ((aBn (aAc (d:=tS r) rfl (aAc (d:=lS k) rfl aAn))).trans (loose_sp t (by have:=h1.few;omega))) rfl
   have t2:andB (aAt (b2 gEqS (look 5) (mkL aAs))) (aAt (b2 gEq (b2 aCf (b2 aCo (look 3) (con (.int 7))) (con (.int 2))) (con (.int 0)))) ρ1=ok (decide (loose r k=[])&&decide (num/7%2=0)):=by
    rw[hρ1]
    exact andB_ok (aAp (aBj (x:=lS (loose r k)) (y:= .lst []) rfl rfl eqS_nil)) (aAp (eqi_ok (aB1 (fdiv_ok (i:=num) (j:=7) rfl rfl (by decide) (by decide)) rfl (by decide)) rfl))
   obtain⟨ρ2,hρ2⟩: ∃ρ2:Rho,ρ2=[some (.sh (tR rs)),some (.sh (.int z)),some (.sh (lS k)),some (.sh (.int num)),some (.sh (tS r)),some (.sh (lS (loose r k))),some (.sh (tR a)),none,none,none]:=⟨_,rfl⟩
   have s3:aDl 6 (app (fGreedy t) (aAe (look 0) (aAe (look 2) (aAe (b2 aCo (look 3) (con (.int 14))) aAs)))) ρ1=some (.nx ρ2):=by
    rw[hρ1,hρ2]
    exact aA3 ((aBn (aAc (d:=tR rs) rfl (aAc (d:=lS k) rfl (aAc (fdiv_ok (i:=num) (j:=14) rfl rfl (by decide) (by decide)) aAn)))).trans g1) (imm_tR a)
   obtain⟨b4,t4⟩: ∃b4,andB (aAt (b2 gGt (f1 aEa (look 6)) (look 1))) (orB (aAt (b2 gGt (b2 aCf (b2 aCo (look 3) (con (.int 3))) (con (.int 4))) (con (.int 0)))) (aAt (b2 gLt (look 1) (con (.int 0))))) ρ2=ok b4:=by
    rw[hρ2]
    exact⟨_,andB_ok (aAp (gti_ok (aDr (d:=tR a) rfl (row_len (.inl rfl))) (j:=z) rfl)) (orB_ok (aAp (gti_ok (aB1 (fdiv_ok (i:=num) (j:=3) rfl rfl (by decide) (by decide)) rfl (by decide)) rfl)) (aAp (b:=decide (z<0)) rfl))⟩
   have e0:aB7 aDn [tR rs,.int z,lS k,.int num]=ρ0:=hρ0.symm
   have go: ∀x,(aAr (aBw t (fBuild t (n+1)) (fGreedy t) (fLeft t) (fLoose t) ρ0)=ok x)→fBuild t (n+1+1) [tR rs,.int z,lS k,.int num]=ok x:=fun x h=>aBs (n:=4) rfl (by rw[e0];exact h)
   by_cases c2:(decide (loose r k=[])&&decide (num/7%2=0))=true
   ·rw[c2] at t2
    refine⟨dF r,go _ ?_,.inl (.inr ⟨r,rfl,h1⟩)⟩
    unfold aBw
    rw[aAf ((aCd t0).trans rfl),aAf (aA3 i1 (aDj r)),hρ0]
    show aAr (aAm _ _ [some (.sh (tR rs)),some (.sh (.int z)),some (.sh (lS k)),some (.sh (.int num)),some (.sh (tS r)),none,none,none,none,none])=_
    rw[aAf s1,aAl ((aEb t2).trans (aAl (aAz (d:=dF r) (by rw[hρ1];rfl))))]
    rfl
   ·rw[Bool.eq_false_iff.mpr c2] at t2
    cases b4 with
    | true=>
     refine⟨dA a,go _ ?_,.inl (.inl ⟨a,rfl,by omega,fun q hq=>hr q (g3 q hq)⟩)⟩
     unfold aBw
     rw[aAf ((aCd t0).trans rfl),aAf (aA3 i1 (aDj r)),hρ0]
     show aAr (aAm _ _ [some (.sh (tR rs)),some (.sh (.int z)),some (.sh (lS k)),some (.sh (.int num)),some (.sh (tS r)),none,none,none,none,none])=_
     rw[aAf s1,aAf ((aCd t2).trans rfl),aAf s3,aAl ((aEb t4).trans (aAl (aAz (d:=dA a) (by rw[hρ2];rfl))))]
     rfl
    | false=>
     obtain⟨on,hon⟩: ∃on:Int,on=(num*48271+1)%2147483647:=⟨_,rfl⟩
     have o0:0≤on:=by omega
     have o1:on<2147483647:=by omega
     have s5:aDl 7 (b2 aCf (b2 aAv (b2 aCu (look 3) (con (.int 48271))) (con (.int 1))) (con (.int 2147483647))) ρ2=some (.nx [some (.sh (tR rs)),some (.sh (.int z)),some (.sh (lS k)),some (.sh (.int num)),some (.sh (tS r)),some (.sh (lS (loose r k))),some (.sh (tR a)),some (.sh (.int on)),none,none]):=by
      rw[hρ2,hon]
      exact aA3 (aB1 (add_ok (mul_ok (i:=num) (j:=48271) rfl rfl (mul_small ⟨n0,n1⟩ ⟨by decide,by decide⟩)) rfl) rfl (by decide)) rfl
     have lp:=loop_inv0 (G:=gN 9) (F:=bodyB t (fBuild t (n+1))) (fun p ρ=> ∃(cs:List D) (o:Option SV),ρ=[some (.sh (tR rs)),some (.sh (.int z)),some (.sh (lS k)),some (.sh (.int num)),some (.sh (tS r)),some (.sh (lS (loose r k))),some (.sh (tR a)),some (.sh (.int on)),some (.own cs),o]∧cs.length=p.length∧∀c∈cs,Tr 12 n c) (rng 0 (loose r k).length)
      [some (.sh (tR rs)),some (.sh (.int z)),some (.sh (lS k)),some (.sh (.int num)),some (.sh (tS r)),some (.sh (lS (loose r k))),some (.sh (tR a)),some (.sh (.int on)),some (.own []),none] ⟨[],none,rfl,rfl,fun c h=>by cases h⟩ (fun p d p' ρ e hI=>by
       obtain⟨cs,o,rfl,q1,q2⟩:=hI
       have hpl:p.length<(loose r k).length:=by
        have:=congrArg List.length e
        unfold rng at this
        rw[List.length_map,List.length_range,List.length_append,List.length_cons] at this
        omega
       have hd:d= .int (p.length:Int):=by
        have:=congrArg (fun l=>l[p.length]?) e
        replace this:(rng 0 (loose r k).length)[p.length]? =(p++d::p')[p.length]? :=this
        rw[List.getElem?_append_right (Nat.le_refl _),Nat.sub_self] at this
        unfold rng at this
        rw[List.getElem?_map,List.getElem?_range hpl] at this
        have:=Option.some.inj this
        rw[←this]
        show D.int (0+(p.length:Int))=_
        rw[Int.zero_add]
       subst hd
       obtain⟨x,hx⟩: ∃x,(loose r k)[p.length]? =some x:=⟨_,List.getElem?_eq_getElem hpl⟩
       have hxr:x∈r:=(List.mem_filter.mp (List.mem_of_getElem? hx)).1
       have lt:=left_lt hm hxr
       obtain⟨c,c1,c2⟩:=ih (rs:=restR rs x) ((if 4<z then 4 else z)-1) (on+97*(p.length:Int)) (by omega) (by omega) (fun q hq=>hr q (List.mem_filter.mp hq).1) (by omega) (by omega)
       have b:bodyB t (fBuild t (n+1)) [some (.sh (tR rs)),some (.sh (.int z)),some (.sh (lS k)),some (.sh (.int num)),some (.sh (tS r)),some (.sh (lS (loose r k))),some (.sh (tR a)),some (.sh (.int on)),some (.own cs),some (.sh (.int (p.length:Int)))]=some (.nx [some (.sh (tR rs)),some (.sh (.int z)),some (.sh (lS k)),some (.sh (.int num)),some (.sh (tS r)),some (.sh (lS (loose r k))),some (.sh (tR a)),some (.sh (.int on)),some (.own (cs++ [c])),some (.sh (.int (p.length:Int)))]):=by
        unfold bodyB
        refine (aAf (own_app (i:=8) (acc:=cs) (d:=c) rfl ?_ c2.imm (by omega) rfl)).trans rfl
        refine (aBn (aAc ((aBn (aAc (d:=tR rs) rfl (aAc (aBj (x:=lS (loose r k)) (y:= .int (p.length:Int)) rfl rfl (ix_lst (d:= .str x) (by rw[List.getElem?_map,hx];rfl))) aAn))).trans (left_sp t (by omega))) (aAc (sub_ok (i:=if 4<z then 4 else z) (j:=1) rfl rfl) (aAc (d:=lS k) rfl (aAc (add_ok (i:=on) rfl (mul_ok (i:=97) (j:=(p.length:Int)) rfl rfl (mul_small ⟨by decide,by decide⟩ ⟨by omega,by omega⟩))) aAn))))).trans c1
       exact⟨_,_,rfl,.inl b,cs++ [c],_,rfl,by rw[List.length_append,List.length_append,q1];rfl,fun y hy=>by
        rcases List.mem_append.mp hy with hy | hy
        ·exact q2 y hy
        ·rw[List.mem_singleton] at hy;subst hy;exact c2⟩)
     obtain⟨ρ',l1,cs,o,rfl,l2,l3⟩:=lp
     have l2':cs.length=(loose r k).length:=by rw[l2];unfold rng;rw[List.length_map,List.length_range]
     refine⟨dP r cs,go _ ?_,.inr ⟨r,cs,rfl,h1,by omega,l3⟩⟩
     unfold aBw
     rw[aAf ((aCd t0).trans rfl),aAf (aA3 i1 (aDj r)),hρ0]
     show aAr (aAm _ _ [some (.sh (tR rs)),some (.sh (.int z)),some (.sh (lS k)),some (.sh (.int num)),some (.sh (tS r)),none,none,none,none,none])=_
     rw[aAf s1,aAf ((aCd t2).trans rfl),aAf s3,aAf ((aCd t4).trans rfl),aAf s5,aAf new_ok]
     have l6:f1 aEa (look 5) [some (.sh (tR rs)),some (.sh (.int z)),some (.sh (lS k)),some (.sh (.int num)),some (.sh (tS r)),some (.sh (lS (loose r k))),some (.sh (tR a)),some (.sh (.int on)),some (.own []),none]=ok (.int (loose r k).length):=aDr (d:=lS (loose r k)) rfl (by show ok (D.int (((loose r k).map D.str).length:Int))=_;rw[List.length_map])
     have e2:=sForR1_ok (G:=gN 9) (F:=bodyB t (fBuild t (n+1))) l6 (by omega) (by omega)
     rw[Int.toNat_natCast] at e2
     show aAr (aAm (sForR1 (f1 aEa (look 5)) (gN 9) (bodyB t (fBuild t (n+1)))) _ [some (.sh (tR rs)),some (.sh (.int z)),some (.sh (lS k)),some (.sh (.int num)),some (.sh (tS r)),some (.sh (lS (loose r k))),some (.sh (tR a)),some (.sh (.int on)),some (.own []),none])=_
     rw[aAf (e2.trans l1),aAl (aAz (mkT_ok (aAc (d:= .str "split") rfl (aAc (d:=tS r) rfl (aAc (aDr (g:=toT) (d:= .lst cs) (r:=ok (.tup cs)) rfl rfl) aAn)))))]
     rfl
theorem Ok1.nil:Ok1 []:=⟨by decide,.nil,fun x h=>by cases h⟩
theorem Ok1.drop {r:List Str} (h:Ok1 r) (j:Nat):Ok1 (r.drop j):=⟨by rw[List.length_drop];have:=h.few;omega,h.nd.sublist (List.drop_sublist j r),fun x hx=>h.txt x (List.mem_of_mem_drop hx)⟩
noncomputable def fOther (t:Adr):List D→M D:=viaD 3 fun ds=>aAr (aCp t (aB7 aCj ds))
theorem pick_ok {f g:Rho→M D} {ρ:Rho} {rs:List (List Str)} {n:Int} (hf:f ρ=ok (tR rs)) (hg:g ρ=ok (.int n)) (hp:0<rs.length): ∃r∈rs,b2 gIx f (b2 aCf g (f1 aEa f)) ρ=ok (tS r):=by
 obtain⟨j,hj,hj2⟩:=nat_mod (n:=n) rs.length hp
 refine⟨rs[j],List.getElem_mem hj2,aBj hf (y:= .int (j:Int)) ?_ (row_ix (.inl rfl) (List.getElem?_eq_getElem hj2))⟩
 rw[←hj]
 exact aB1 hg (aDr hf (row_len (.inl rfl))) (by omega)
theorem ne_nil {f:Rho→M D} {ρ:Rho} {rs:List (List Str)} (hf:f ρ=ok (tR rs)):aAt (b2 gNeNil f (mkT aAs)) ρ=ok (decide (0<rs.length)):=by
 refine aAp (aBj hf (y:= .tup []) rfl ?_)
 show ok (D.bl (!(rs.map tS).isEmpty))=_
 cases rs with
 | nil=>rfl
 | cons _ _=>simp
theorem one_ok {f:Rho→M D} {ρ:Rho} {r:List Str} (h:f ρ=ok (tS r)):mkT (aAe f aAs) ρ=ok (tR [r]):=mkT_ok (aAc h aAn)
theorem apart_mk {f:Rho→M D} {ρ:Rho} {a:List (List Str)} (h:f ρ=ok (tR a)):mkT (aAe (con (.str "apart")) (aAe f aAs)) ρ=ok (dA a):=mkT_ok (aAc rfl (aAc h aAn))
theorem other_sp (t:Adr) {a rs:List (List Str)} (n:Int) (ha:a.length≤12) (h1: ∀r∈a,Ok1 r) (hr: ∀r∈rs,Ok1 r): ∃a',fOther t [tR a,tR rs,.int n]=ok (dA a')∧a'.length≤13∧∀r∈a',Ok1 r:=by
 have e0:aB7 aCj [tR a,tR rs,.int n]=[some (.sh (tR a)),some (.sh (tR rs)),some (.sh (.int n)),none,none]:=rfl
 obtain⟨j,hj,hj2⟩:=nat_mod (n:=n) (a.length+1) (by omega)
 have m1:b2 aCf (look 2) (b2 aAv (f1 aEa (look 0)) (con (.int 1))) [some (.sh (tR a)),some (.sh (tR rs)),some (.sh (.int n)),none,none]=ok (.int (j:Int)):=by
  rw[←hj]
  refine aB1 (i:=n) rfl ?_ (by omega)
  exact add_ok (i:=a.length) (j:=1) (aDr (d:=tR a) rfl (row_len (.inl rfl))) rfl
 obtain⟨r,hok,s3⟩: ∃r,Ok1 r∧sIf (aAt (b2 gNeNil (look 1) (mkT aAs))) (aAm (aDl 4 (b2 gIx (look 1) (b2 aCf (b2 aCo (look 2) (con (.int 5))) (f1 aEa (look 1))))) aBd) aBd [some (.sh (tR a)),some (.sh (tR rs)),some (.sh (.int n)),some (.sh (.int (j:Int))),some (.sh (tS []))]=some (.nx [some (.sh (tR a)),some (.sh (tR rs)),some (.sh (.int n)),some (.sh (.int (j:Int))),some (.sh (tS r))]):=by
  have q:=ne_nil (f:=look 1) (ρ:=[some (.sh (tR a)),some (.sh (tR rs)),some (.sh (.int n)),some (.sh (.int (j:Int))),some (.sh (tS []))]) (rs:=rs) rfl
  by_cases hp:0<rs.length
  ·rw[decide_eq_true hp] at q
   obtain⟨r,hm,i1⟩:=pick_ok (f:=look 1) (g:=b2 aCo (look 2) (con (.int 5))) (ρ:=[some (.sh (tR a)),some (.sh (tR rs)),some (.sh (.int n)),some (.sh (.int (j:Int))),some (.sh (tS []))]) (rs:=rs) rfl (fdiv_ok (i:=n) (j:=5) rfl rfl (by decide) (by decide)) hp
   exact⟨r,hr r hm,(aEb q).trans ((aAf (aA3 i1 (aDj r))).trans rfl)⟩
  ·rw[decide_eq_false hp] at q
   exact⟨[],Ok1.nil,(aCd q).trans rfl⟩
 obtain⟨ρ,hρ⟩: ∃ρ:Rho,ρ=[some (.sh (tR a)),some (.sh (tR rs)),some (.sh (.int n)),some (.sh (.int (j:Int))),some (.sh (tS r))]:=⟨_,rfl⟩
 have l0:look 0 ρ=ok (tR a):=by rw[hρ];rfl
 have l3:look 3 ρ=ok (.int (j:Int)):=by rw[hρ];rfl
 have l4:look 4 ρ=ok (tS r):=by rw[hρ];rfl
 have l31:b2 aAv (look 3) (con (.int 1)) ρ=ok (.int ((j+1:Nat):Int)):=by
  rw[show ((j+1:Nat):Int)=(j:Int)+1 by omega]
  exact add_ok l3 (j:=1) rfl
 have q: ∀m:Int,aAt (b2 gEq (b2 aCf (b2 aCo (look 2) (con (.int 11))) (con (.int 4))) (con (.int m))) ρ=ok (decide (n/11%4=m)):=fun m=>by
  rw[hρ]
  exact aAp (eqi_ok (aB1 (fdiv_ok (i:=n) (j:=11) rfl rfl (by decide) (by decide)) rfl (by decide)) rfl)
 have tk: ∀x∈a.take j,Ok1 x:=fun x hx=>h1 x (List.mem_of_mem_take hx)
 have dr: ∀i,∀x∈a.drop i,Ok1 x:=fun i x hx=>h1 x (List.mem_of_mem_drop hx)
 have ltk:(a.take j).length=j:=by rw[List.length_take];omega
 have ldr: ∀i,(a.drop i).length=a.length-i:=fun i=>List.length_drop
 have two: ∀{x y:List (List Str)},(∀r∈x,Ok1 r)→(∀r∈y,Ok1 r)→∀r∈x++y,Ok1 r:=fun hx hy r hr=>by
  rcases List.mem_append.mp hr with hr | hr
  ·exact hx r hr
  ·exact hy r hr
 have sg: ∀{x:List Str},Ok1 x→∀r∈[x],Ok1 r:=fun hx r hr=>by rw[List.mem_singleton] at hr;subst hr;exact hx
 have go: ∀a',(∀S:Rho→Option Out,S=(aAm (sIf (aAt (b2 gEq (b2 aCf (b2 aCo (look 2) (con (.int 11))) (con (.int 4))) (con (.int 0)))) (aAm (aD8 (mkT (aAe (con (.str "apart")) (aAe (b2 aAv (aEg (look 0) aBu (aBk (look 3))) (aEg (look 0) (aBk (b2 aAv (look 3) (con (.int 1)))) aBu)) aAs))))
  aBd) aBd)
  (aAm (sIf (aAt (b2 gEq (b2 aCf (b2 aCo (look 2) (con (.int 11))) (con (.int 4))) (con (.int 1)))) (aAm (aD8 (mkT (aAe (con (.str "apart")) (aAe (b2 aAv (b2 aAv (aEg (look 0) aBu (aBk (look 3))) (mkT (aAe (look 4) aAs))) (aEg (look 0) (aBk (look 3)) aBu)) aAs))))
  aBd) aBd)
  (aAm (sIf (aAt (b2 gEq (b2 aCf (b2 aCo (look 2) (con (.int 11))) (con (.int 4))) (con (.int 2)))) (aAm (aD8 (mkT (aAe (con (.str "apart")) (aAe (b2 aAv (b2 aAv (aEg (look 0) aBu (aBk (look 3))) (mkT (aAe (aEg (look 4) (aBk (con (.int 1))) aBu) aAs))) (aEg (look 0) (aBk (b2 aAv (look 3) (con (.int 1)))) aBu)) aAs))))
  aBd) aBd)
  (aAm (aD8 (mkT (aAe (con (.str "apart")) (aAe (b2 aAv (look 0) (aEg (look 0) aBu (aBk (con (.int 1))))) aAs))))
  aBd))))→S ρ=some (.rt (dA a')))→fOther t [tR a,tR rs,.int n]=ok (dA a'):=fun a' h=>by
  refine aBs rfl ?_
  rw[e0]
  unfold aCp
  rw[aAf (aA3 m1 rfl)]
  show aAr (aAm _ _ [some (.sh (tR a)),some (.sh (tR rs)),some (.sh (.int n)),some (.sh (.int (j:Int))),none])=_
  rw[aAf (aA3 (d:=tS []) rfl rfl)]
  show aAr (aAm _ _ [some (.sh (tR a)),some (.sh (tR rs)),some (.sh (.int n)),some (.sh (.int (j:Int))),some (.sh (tS []))])=_
  rw[aAf s3,←hρ,h _ rfl]
  rfl
 by_cases c0:n/11%4=0
 ·have q0:=q 0
  rw[decide_eq_true c0] at q0
  exact⟨a.take j++a.drop (j+1),go _ fun S e=>by rw[e];exact aAl ((aEb q0).trans (aAl (aAz (apart_mk (catR (cutR_to l0 l3) (cutR_from l0 l31) (by rw[ltk,ldr];omega)))))),by rw[List.length_append,ltk,ldr];omega,two tk (dr _)⟩
 ·have q0:=q 0
  rw[decide_eq_false c0] at q0
  by_cases c1:n/11%4=1
  ·have q1:=q 1
   rw[decide_eq_true c1] at q1
   exact⟨(a.take j++ [r])++a.drop j,go _ fun S e=>by rw[e,aAf ((aCd q0).trans rfl)];exact aAl ((aEb q1).trans (aAl (aAz (apart_mk (catR (catR (cutR_to l0 l3) (one_ok l4) (by rw[ltk,List.length_singleton];omega)) (cutR_from l0 l3) (by rw[List.length_append,ltk,ldr,List.length_singleton];omega)))))),by rw[List.length_append,List.length_append,ltk,ldr,List.length_singleton];omega,two (two tk (sg hok)) (dr _)⟩
  ·have q1:=q 1
   rw[decide_eq_false c1] at q1
   by_cases c2:n/11%4=2
   ·have q2:=q 2
    rw[decide_eq_true c2] at q2
    exact⟨(a.take j++ [r.drop 1])++a.drop (j+1),go _ fun S e=>by rw[e,aAf ((aCd q0).trans rfl),aAf ((aCd q1).trans rfl)];exact aAl ((aEb q2).trans (aAl (aAz (apart_mk (catR (catR (cutR_to l0 l3) (one_ok (cutS_from l4 (j:=1) rfl)) (by rw[ltk,List.length_singleton];omega)) (cutR_from l0 l31) (by rw[List.length_append,ltk,ldr,List.length_singleton];omega)))))),by rw[List.length_append,List.length_append,ltk,ldr,List.length_singleton];omega,two (two tk (sg (hok.drop 1))) (dr _)⟩
   ·have q2:=q 2
    rw[decide_eq_false c2] at q2
    have l1:(a.take 1).length≤1:=by rw[List.length_take];omega
    exact⟨a++a.take 1,go _ fun S e=>by rw[e,aAf ((aCd q0).trans rfl),aAf ((aCd q1).trans rfl),aAf ((aCd q2).trans rfl)];exact aAl (aAz (apart_mk (catR l0 (cutR_to l0 (j:=1) rfl) (by omega)))),by rw[List.length_append];omega,two h1 fun x hx=>h1 x (List.mem_of_mem_take hx)⟩
noncomputable def fSpoil (t:Adr):Nat→List D→M D
 | 0=>none1
 | n+1=>viaD 3 fun ds=>aAr (aBr t (fOther t) (fSpoil t n) (aB7 aDf ds))
theorem pick_lst {ds:List D} {i:Int} (h0:0≤i) (h:i<ds.length): ∃d∈ds,gIx (.lst ds) (.int i)=ok d:=by
 have hn:i.toNat<ds.length:=by omega
 refine⟨ds[i.toNat],List.getElem_mem hn,?_⟩
 have:=ix_lst (ds:=ds) (j:=i.toNat) (List.getElem?_eq_getElem hn)
 rw[show ((i.toNat:Nat):Int)=i by omega] at this
 exact this
theorem spoil_sp (t:Adr) {rs:List (List Str)} (hr: ∀r∈rs,Ok1 r): ∀(n:Nat) {d:D} (num:Int),Tr 12 n d→0≤num→num<1099511627776→∃d',fSpoil t (n+1) [d,tR rs,.int num]=ok d'∧Tr 13 (n+1) d':=by
 intro n
 induction n with
 | zero=> ?_
 | succ n ih=> ?_
 all_goals
  intro d num h n0 n1
  obtain⟨on,hon⟩: ∃on:Int,on=(num*48271+1)%2147483647:=⟨_,rfl⟩
  have o0:0≤on:=by omega
  have o1:on<2147483647:=by omega
  have e0: ∀d:D,aB7 aDf [d,tR rs,.int num]=[some (.sh d),some (.sh (tR rs)),some (.sh (.int num)),none,none,none,none,none]:=fun _=>rfl
  have s1: ∀d:D,aDl 3 (b2 aCf (b2 aAv (b2 aCu (look 2) (con (.int 48271))) (con (.int 1))) (con (.int 2147483647))) [some (.sh d),some (.sh (tR rs)),some (.sh (.int num)),none,none,none,none,none]=some (.nx [some (.sh d),some (.sh (tR rs)),some (.sh (.int num)),some (.sh (.int on)),none,none,none,none]):=fun d=>by
   rw[hon]
   exact aA3 (aB1 (add_ok (mul_ok (i:=num) (j:=48271) rfl rfl (mul_small ⟨n0,n1⟩ ⟨by decide,by decide⟩)) rfl) rfl (by decide)) rfl
  have rsn: ∀(d:D) (r0:List Str),Ok1 r0→∃r,Ok1 r∧sIf (aAt (b2 gNeNil (look 1) (mkT aAs))) (aAm (aDl 4 (b2 gIx (look 1) (b2 aCf (look 3) (f1 aEa (look 1))))) aBd) aBd [some (.sh d),some (.sh (tR rs)),some (.sh (.int num)),some (.sh (.int on)),some (.sh (tS r0)),none,none,none]=some (.nx [some (.sh d),some (.sh (tR rs)),some (.sh (.int num)),some (.sh (.int on)),some (.sh (tS r)),none,none,none]):=fun d r0 h0=>by
   have q:=ne_nil (f:=look 1) (ρ:=[some (.sh d),some (.sh (tR rs)),some (.sh (.int num)),some (.sh (.int on)),some (.sh (tS r0)),none,none,none]) (rs:=rs) rfl
   by_cases hp:0<rs.length
   ·rw[decide_eq_true hp] at q
    obtain⟨r,hm,i1⟩:=pick_ok (f:=look 1) (g:=look 3) (ρ:=[some (.sh d),some (.sh (tR rs)),some (.sh (.int num)),some (.sh (.int on)),some (.sh (tS r0)),none,none,none]) (rs:=rs) (n:=on) rfl rfl hp
    exact⟨r,hr r hm,(aEb q).trans ((aAf (aA3 i1 (aDj r))).trans rfl)⟩
   ·rw[decide_eq_false hp] at q
    exact⟨r0,h0,(aCd q).trans rfl⟩
  have leaf: ∀(m:Nat) (d:D),TA 12 d→∃d',aAr (aBr t (fOther t) (fSpoil t m) (aB7 aDf [d,tR rs,.int num]))=ok d'∧Tr 13 1 d':=fun m d h=>by
   rcases h with⟨a,rfl,ha,h1⟩ |⟨r0,rfl,h1⟩
   ·obtain⟨a',p1,p2,p3⟩:=other_sp t (rs:=rs) on ha h1 hr
    refine⟨dA a',?_,.inl (.inl ⟨a',rfl,p2,p3⟩)⟩
    rw[e0]
    unfold aBr
    rw[aAf (s1 _)]
    have q:=aAp (eqs_ok (f:=b2 gIx (look 0) (con (.int 0))) (ρ:=[some (.sh (dA a)),some (.sh (tR rs)),some (.sh (.int num)),some (.sh (.int on)),none,none,none,none]) (x:="apart") "apart" rfl)
    rw[decide_eq_true rfl] at q
    rw[aAl ((aEb q).trans (aAl (aAz ((aBn (aAc (d:=tR a) rfl (aAc (d:=tR rs) rfl (aAc (d:= .int on) rfl aAn)))).trans p1))))]
    rfl
   ·obtain⟨r,hok,s3⟩:=rsn (dF r0) r0 h1
    obtain⟨d',hd,i1⟩:=pick_lst (ds:=[dF r,dP r0 [],dF (r0.drop 1)]) (i:=num%3) (by omega) (by show num%3<3;omega)
    refine⟨d',?_,?_⟩
    ·rw[e0]
     unfold aBr
     rw[aAf (s1 _)]
     have q:=aAp (eqs_ok (f:=b2 gIx (look 0) (con (.int 0))) (ρ:=[some (.sh (dF r0)),some (.sh (tR rs)),some (.sh (.int num)),some (.sh (.int on)),none,none,none,none]) (x:="fast") "apart" rfl)
     rw[decide_eq_false nfa] at q
     rw[aAf ((aCd q).trans rfl),aAf (aA3 (d:=tS r0) rfl (aDj r0))]
     show aAr (aAm _ _ [some (.sh (dF r0)),some (.sh (tR rs)),some (.sh (.int num)),some (.sh (.int on)),some (.sh (tS r0)),none,none,none])=_
     rw[aAf s3]
     have q5:=aAp (eqs_ok (f:=b2 gIx (look 0) (con (.int 0))) (ρ:=[some (.sh (dF r0)),some (.sh (tR rs)),some (.sh (.int num)),some (.sh (.int on)),some (.sh (tS r)),none,none,none]) (x:="fast") "fast" rfl)
     rw[decide_eq_true rfl] at q5
     have c1:=cutS_from (f:=b2 gIx (look 0) (con (.int 1))) (g:=con (.int 1)) (ρ:=[some (.sh (dF r0)),some (.sh (tR rs)),some (.sh (.int num)),some (.sh (.int on)),some (.sh (tS r)),none,none,none]) (r:=r0) (j:=1) rfl rfl
     have m1:=mkL_ok (aAc (f:=mkT (aAe (con (.str "fast")) (aAe (look 4) aAs))) (d:=dF r) rfl (aAc (f:=mkT (aAe (con (.str "split")) (aAe (b2 gIx (look 0) (con (.int 1))) (aAe (mkT aAs) aAs)))) (d:=dP r0 []) rfl (aAc (mkT_ok (aAc (f:=con (.str "fast")) (d:= .str "fast") rfl (aAc c1 aAn))) aAn)))
     rw[aAl ((aEb q5).trans (aAl (aAz (aBj m1 (aB1 (i:=num) (j:=3) rfl rfl (by decide)) i1))))]
     rfl
    ·simp only[List.mem_cons,List.not_mem_nil,or_false] at hd
     rcases hd with rfl | rfl | rfl
     ·exact .inl (.inr ⟨r,rfl,hok⟩)
     ·exact .inr ⟨r0,[],rfl,h1,Nat.zero_le _,fun c hc=>by cases hc⟩
     ·exact .inl (.inr ⟨_,rfl,h1.drop 1⟩)
 ·obtain⟨d',p1,p2⟩:=leaf 0 d h
  exact⟨d',aBs (n:=3) rfl p1,p2⟩
 ·rcases h with h |⟨r0,cs,rfl,h1,hcl,hcs⟩
  ·obtain⟨d',p1,p2⟩:=leaf (n+1) d h
   exact⟨d',aBs (n:=3) rfl p1,Tr.more (by omega) p2⟩
  ·obtain⟨r,hok,s3⟩:=rsn (dP r0 cs) r0 h1
   have up: ∀c∈cs,Tr 13 (n+1) c:=fun c hc=>Tr.more (by omega) (Tr.up (by omega) (hcs c hc))
   obtain⟨j,hj,hj2⟩:=nat_mod (n:=on/7) (cs.length+1) (by omega)
   obtain⟨ρ,hρ⟩: ∃ρ:Rho,ρ=[some (.sh (dP r0 cs)),some (.sh (tR rs)),some (.sh (.int num)),some (.sh (.int on)),some (.sh (tS r)),some (.sh (.int (j:Int))),none,none]:=⟨_,rfl⟩
   have l3:look 3 ρ=ok (.int on):=by rw[hρ];rfl
   have l5:look 5 ρ=ok (.int (j:Int)):=by rw[hρ];rfl
   have ix2:b2 gIx (look 0) (con (.int 2)) ρ=ok (.tup cs):=by rw[hρ];rfl
   have l51:b2 aAv (look 5) (con (.int 1)) ρ=ok (.int ((j+1:Nat):Int)):=by
    rw[show ((j+1:Nat):Int)=(j:Int)+1 by omega]
    exact add_ok l5 (j:=1) rfl
   have t6:andB (aAt (b2 gLt (look 5) (f1 aEa (b2 gIx (look 0) (con (.int 2)))))) (aAt (b2 gGt (b2 aCf (look 2) (con (.int 4))) (con (.int 0)))) ρ=ok (decide ((j:Int)<cs.length)&&decide (0<num%4)):=by
    refine andB_ok (aAp (aBj l5 (aDr ix2 (r:=ok (.int cs.length)) rfl) rfl)) ?_
    rw[hρ]
    exact aAp (gti_ok (aB1 (i:=num) (j:=4) rfl rfl (by decide)) rfl)
   have ltk:(cs.take j).length≤12:=by rw[List.length_take];omega
   have ldr: ∀i,(cs.drop i).length=cs.length-i:=fun i=>List.length_drop
   have mtk: ∀c∈cs.take j,Tr 13 (n+1) c:=fun c hc=>up c (List.mem_of_mem_take hc)
   have mdr: ∀i,∀c∈cs.drop i,Tr 13 (n+1) c:=fun i c hc=>up c (List.mem_of_mem_drop hc)
   have two: ∀{x y:List D},(∀r∈x,Tr 13 (n+1) r)→(∀r∈y,Tr 13 (n+1) r)→∀r∈x++y,Tr 13 (n+1) r:=fun hx hy r hr=>by
    rcases List.mem_append.mp hr with hr | hr
    ·exact hx r hr
    ·exact hy r hr
   have sp: ∀(q:List Str) (xs:List D),Ok1 q→xs.length≤13→(∀c∈xs,Tr 13 (n+1) c)→Tr 13 (n+1+1) (dP q xs):=fun q xs a1 a2 a3=> .inr ⟨q,xs,rfl,a1,a2,a3⟩
   have head: ∀x,(∀S:Rho→Option Out,aAr (S ρ)=ok x→aAr (aAm (aDl 5 (b2 aCf (b2 aCo (look 3) (con (.int 7))) (b2 aAv (f1 aEa (b2 gIx (look 0) (con (.int 2)))) (con (.int 1))))) S [some (.sh (dP r0 cs)),some (.sh (tR rs)),some (.sh (.int num)),some (.sh (.int on)),some (.sh (tS r)),none,none,none])=ok x):=fun x S hS=>by
    have m5:b2 aCf (b2 aCo (look 3) (con (.int 7))) (b2 aAv (f1 aEa (b2 gIx (look 0) (con (.int 2)))) (con (.int 1))) [some (.sh (dP r0 cs)),some (.sh (tR rs)),some (.sh (.int num)),some (.sh (.int on)),some (.sh (tS r)),none,none,none]=ok (.int (j:Int)):=by
     rw[←hj]
     refine aB1 (fdiv_ok (i:=on) (j:=7) rfl rfl (by decide) (by decide)) ?_ (by omega)
     exact add_ok (i:=cs.length) (j:=1) rfl rfl
    rw[aAf (aA3 m5 rfl)]
    show aAr (S [some (.sh (dP r0 cs)),some (.sh (tR rs)),some (.sh (.int num)),some (.sh (.int on)),some (.sh (tS r)),some (.sh (.int (j:Int))),none,none])=_
    rw[←hρ]
    exact hS
   have q:=aAp (eqs_ok (f:=b2 gIx (look 0) (con (.int 0))) (ρ:=[some (.sh (dP r0 cs)),some (.sh (tR rs)),some (.sh (.int num)),some (.sh (.int on)),none,none,none,none]) (x:="split") "apart" rfl)
   rw[decide_eq_false nsa] at q
   have q5:=aAp (eqs_ok (f:=b2 gIx (look 0) (con (.int 0))) (ρ:=[some (.sh (dP r0 cs)),some (.sh (tR rs)),some (.sh (.int num)),some (.sh (.int on)),some (.sh (tS r)),none,none,none]) (x:="split") "fast" rfl)
   rw[decide_eq_false nsf] at q5
   by_cases c6:(decide ((j:Int)<cs.length)&&decide (0<num%4))=true
   ·rw[c6] at t6
    rw[Bool.and_eq_true,decide_eq_true_eq,decide_eq_true_eq] at c6
    have hjl:j<cs.length:=by omega
    obtain⟨c,hc⟩: ∃c,cs[j]? =some c:=⟨cs[j],List.getElem?_eq_getElem hjl⟩
    obtain⟨c',p1,p2⟩:=ih (d:=c) on (hcs c (List.mem_of_getElem? hc)) o0 (by omega)
    refine⟨dP r0 ((cs.take j++ [c'])++cs.drop (j+1)),aBs (n:=3) rfl ?_,sp _ _ h1 (by rw[List.length_append,List.length_append,ldr,List.length_take];simp only[List.length_singleton];omega) (two (two mtk fun y hy=>by rw[List.mem_singleton] at hy;subst hy;exact p2) (mdr _))⟩
    rw[e0]
    unfold aBr
    rw[aAf (s1 _),aAf ((aCd q).trans rfl),aAf (aA3 (d:=tS r0) rfl (aDj r0))]
    show aAr (aAm _ _ [some (.sh (dP r0 cs)),some (.sh (tR rs)),some (.sh (.int num)),some (.sh (.int on)),some (.sh (tS r0)),none,none,none])=_
    rw[aAf s3,aAf ((aCd q5).trans rfl)]
    refine head _ _ ?_
    have b1:mkT (aAe (app (fSpoil t (n+1)) (aAe (b2 gIx (b2 gIx (look 0) (con (.int 2))) (look 5)) (aAe (look 1) (aAe (look 3) aAs)))) aAs) ρ=ok (.tup [c']):=
     mkT_ok (aAc ((aBn (aAc (aBj ix2 l5 (ix_tup hc)) (aAc (d:=tR rs) (by rw[hρ];rfl) (aAc l3 aAn)))).trans p1) aAn)
    have hi:(D.tup [c']).imm=true:=by
     show (c'.imm&&true)=true
     rw[p2.imm];rfl
    have b2':aEg (b2 gIx (look 0) (con (.int 2))) aBu (aBk (look 5)) (ρ.set 6 (some (.sh (.tup [c']))))=ok (.tup (cs.take j)):=by
     rw[hρ]
     exact cutT_to (ds:=cs) (j:=j) rfl rfl
    have b3:aEg (b2 gIx (look 0) (con (.int 2))) (aBk (b2 aAv (look 5) (con (.int 1)))) aBu (ρ.set 6 (some (.sh (.tup [c']))))=ok (.tup (cs.drop (j+1))):=by
     rw[hρ]
     refine cutT_from (ds:=cs) (j:=j+1) rfl ?_
     rw[show ((j+1:Nat):Int)=(j:Int)+1 by omega]
     exact add_ok (i:=(j:Int)) (j:=1) rfl rfl
    have b4:look 6 (ρ.set 6 (some (.sh (.tup [c']))))=ok (.tup [c']):=by rw[hρ];rfl
    have b5:b2 gIx (look 0) (con (.int 1)) (ρ.set 6 (some (.sh (.tup [c']))))=ok (tS r0):=by rw[hρ];rfl
    rw[aAl ((aEb t6).trans ((aAf (aA3 b1 hi)).trans (aAl (aAz (mkT_ok (aAc (f:=con (.str "split")) (d:= .str "split") rfl (aAc b5 (aAc (catT (catT b2' b4 (by rw[List.length_singleton];omega)) b3 (by rw[List.length_append,List.length_singleton,ldr];omega)) aAn))))))))]
    rfl
   ·rw[Bool.eq_false_iff.mpr c6] at t6
    have ix1:b2 gIx (look 0) (con (.int 1)) ρ=ok (tS r0):=by rw[hρ];rfl
    have l4:look 4 ρ=ok (tS r):=by rw[hρ];rfl
    have x1:=mkT_ok (aAc (f:=con (.str "split")) (d:= .str "split") (ρ:=ρ) rfl (aAc l4 (aAc ix2 aAn)))
    have x2:=mkT_ok (aAc (f:=con (.str "split")) (d:= .str "split") (ρ:=ρ) rfl (aAc ix1 (aAc (catT (cutT_to ix2 l5) (cutT_from ix2 l51) (by rw[ldr];omega)) aAn)))
    have x3:=mkT_ok (aAc (f:=con (.str "fast")) (d:= .str "fast") (ρ:=ρ) rfl (aAc ix1 aAn))
    have s7:=aDc (i:=7) (mkL_ok (aAc x1 (aAc x2 (aAc x3 aAn)))) (by rw[hρ];rfl)
    obtain⟨ρ',hρ'⟩: ∃ρ':Rho,ρ'=ρ.set 7 (some (.sh (.lst [dP r cs,dP r0 (cs.take j++cs.drop (j+1)),dF r0]))):=⟨_,rfl⟩
    have l5':look 5 ρ'=ok (.int (j:Int)):=by rw[hρ',hρ];rfl
    have ix2':b2 gIx (look 0) (con (.int 2)) ρ'=ok (.tup cs):=by rw[hρ',hρ];rfl
    have ix1':b2 gIx (look 0) (con (.int 1)) ρ'=ok (tS r0):=by rw[hρ',hρ];rfl
    have l7':look 7 ρ'=ok (.lst [dP r cs,dP r0 (cs.take j++cs.drop (j+1)),dF r0]):=by rw[hρ',hρ];rfl
    have l1:(cs.take 1).length≤1:=by rw[List.length_take];omega
    have x4:=mkT_ok (aAc (f:=con (.str "split")) (d:= .str "split") (ρ:=ρ') rfl (aAc ix1' (aAc (catT (cutT_from ix2' l5') (cutT_to ix2' l5') (by rw[ldr];omega)) aAn)))
    have x5:=mkT_ok (aAc (f:=con (.str "split")) (d:= .str "split") (ρ:=ρ') rfl (aAc ix1' (aAc (catT ix2' (cutT_to ix2' (g:=con (.int 1)) (j:=1) rfl) (by omega)) aAn)))
    have x6:b2 aAv (look 7) (mkL (aAe (mkT (aAe (con (.str "split")) (aAe (b2 gIx (look 0) (con (.int 1))) (aAe (b2 aAv (aEg (b2 gIx (look 0) (con (.int 2))) (aBk (look 5)) aBu) (aEg (b2 gIx (look 0) (con (.int 2))) aBu (aBk (look 5)))) aAs)))) (aAe (mkT (aAe (con (.str "split")) (aAe (b2 gIx (look 0) (con (.int 1))) (aAe (b2 aAv (b2 gIx (look 0) (con (.int 2))) (aEg (b2 gIx (look 0) (con (.int 2))) aBu (aBk (con (.int 1))))) aAs)))) aAs))) ρ'=ok (.lst [dP r cs,dP r0 (cs.take j++cs.drop (j+1)),dF r0,dP r0 (cs.drop j++cs.take j),dP r0 (cs++cs.take 1)]):=
     aBj l7' (mkL_ok (aAc x4 (aAc x5 aAn))) rfl
    have s8:=aDc (i:=7) x6 (by rw[hρ',hρ];rfl)
    obtain⟨d',hd,i1⟩:=pick_lst (ds:=[dP r cs,dP r0 (cs.take j++cs.drop (j+1)),dF r0,dP r0 (cs.drop j++cs.take j),dP r0 (cs++cs.take 1)]) (i:=on/77%5) (by omega) (by show on/77%5<5;omega)
    refine⟨d',aBs (n:=3) rfl ?_,?_⟩
    ·rw[e0]
     unfold aBr
     rw[aAf (s1 _),aAf ((aCd q).trans rfl),aAf (aA3 (d:=tS r0) rfl (aDj r0))]
     show aAr (aAm _ _ [some (.sh (dP r0 cs)),some (.sh (tR rs)),some (.sh (.int num)),some (.sh (.int on)),some (.sh (tS r0)),none,none,none])=_
     rw[aAf s3,aAf ((aCd q5).trans rfl)]
     refine head _ _ ?_
     rw[aAf ((aCd t6).trans rfl),aAf s7]
     show aAr (aAm _ _ (ρ.set 7 (some (.sh (.lst [dP r cs,dP r0 (cs.take j++cs.drop (j+1)),dF r0])))))=_
     rw[←hρ',aAf s8]
     have m9:b2 aCf (b2 aCo (look 3) (con (.int 77))) (con (.int 5)) (ρ'.set 7 (some (.sh (.lst [dP r cs,dP r0 (cs.take j++cs.drop (j+1)),dF r0,dP r0 (cs.drop j++cs.take j),dP r0 (cs++cs.take 1)]))))=ok (.int (on/77%5)):=by
      rw[hρ',hρ]
      exact aB1 (fdiv_ok (i:=on) (j:=77) rfl rfl (by decide) (by decide)) rfl (by decide)
     rw[aAl (aAz (aBj (x:= .lst [dP r cs,dP r0 (cs.take j++cs.drop (j+1)),dF r0,dP r0 (cs.drop j++cs.take j),dP r0 (cs++cs.take 1)]) (by rw[hρ',hρ];rfl) m9 i1))]
     rfl
    ·simp only[List.mem_cons,List.not_mem_nil,or_false] at hd
     rcases hd with rfl | rfl | rfl | rfl | rfl
     ·exact sp _ _ hok (by omega) up
     ·exact sp _ _ h1 (by rw[List.length_append,ldr,List.length_take];omega) (two mtk (mdr _))
     ·exact .inl (.inr ⟨r0,rfl,h1⟩)
     ·exact sp _ _ h1 (by rw[List.length_append,ldr,List.length_take];omega) (two (mdr _) mtk)
     ·exact sp _ _ h1 (by rw[List.length_append];omega) (two up fun c hc=>up c (List.mem_of_mem_take hc))
noncomputable abbrev lI (ns:List Int):D:= .lst (ns.map D.int)
theorem rng_mid {n:Nat} {p q:List D} {d:D} (e:rng 0 n=p++d::q):d= .int (p.length:Int)∧p.length<n:=by
 have hpl:p.length<n:=by
  have:=congrArg List.length e
  unfold rng at this
  rw[List.length_map,List.length_range,List.length_append,List.length_cons] at this
  omega
 refine⟨?_,hpl⟩
 have:=congrArg (fun l=>l[p.length]?) e
 replace this:(rng 0 n)[p.length]? =(p++d::q)[p.length]? :=this
 rw[List.getElem?_append_right (Nat.le_refl _),Nat.sub_self] at this
 unfold rng at this
 rw[List.getElem?_map,List.getElem?_range hpl] at this
 have:=Option.some.inj this
 rw[←this]
 show D.int (0+(p.length:Int))=_
 rw[Int.zero_add]
theorem rng_len (n:Nat):(rng 0 n).length=n:=by unfold rng;rw[List.length_map,List.length_range]
noncomputable def aEe (t:Adr):List D→M D:=viaD 2 fun ds=>aAr (den_law_stream t (aB7 N_law_stream ds))
noncomputable def bodyS:Rho→Option Out:=(aAm (aDl 3 (b2 aCf (b2 aAv (b2 aAv (b2 aCu (look 3) (look 3)) (b2 aCu (con (.int 48271)) (look 3))) (look 4)) (con (.int 2147483647))))
  (aAm (sOwn lApp 2 (aAe (look 3) aAs))
  aBd))
theorem stream_sp (t:Adr) (c:Int) (m:Nat) (hm:m≤100): ∃ns:List Int,aEe t [.int c,.int (m:Int)]=ok (lI ns)∧ns.length=m∧∀x∈ns,0≤x∧x<2147483647:=by
 have e0:aB7 N_law_stream [.int c,.int (m:Int)]=[some (.sh (.int c)),some (.sh (.int (m:Int))),none,none,none]:=rfl
 have lp:=loop_inv0 (G:=gN 4) (F:=bodyS) (fun p ρ=> ∃(ns:List Int) (a:Int) (o:Option SV),ρ=[some (.sh (.int c)),some (.sh (.int (m:Int))),some (.own (ns.map D.int)),some (.sh (.int a)),o]∧ns.length=p.length∧(0≤a∧a<1099511627776)∧∀x∈ns,0≤x∧x<2147483647) (rng 0 (m+1))
  [some (.sh (.int c)),some (.sh (.int (m:Int))),some (.own []),some (.sh (.int (c%2147483647+48271))),none] ⟨[],_,none,rfl,rfl,by omega,fun x h=>by cases h⟩ (fun p d p' ρ e hI=>by
   obtain⟨ns,a,o,rfl,q1,q2,q3⟩:=hI
   obtain⟨rfl,hp⟩:=rng_mid e
   have m1:b2 aCf (b2 aAv (b2 aAv (b2 aCu (look 3) (look 3)) (b2 aCu (con (.int 48271)) (look 3))) (look 4)) (con (.int 2147483647)) [some (.sh (.int c)),some (.sh (.int (m:Int))),some (.own (ns.map D.int)),some (.sh (.int a)),some (.sh (.int (p.length:Int)))]=ok (.int ((a*a+48271*a+(p.length:Int))%2147483647)):=
    aB1 (add_ok (add_ok (mul_ok (i:=a) (j:=a) rfl rfl (mul_small q2 q2)) (mul_ok (i:=48271) (j:=a) rfl rfl (mul_small ⟨by decide,by decide⟩ q2))) rfl) rfl (by decide)
   have z0:0≤(a*a+48271*a+(p.length:Int))%2147483647:=Int.emod_nonneg _ (by decide)
   have z1:(a*a+48271*a+(p.length:Int))%2147483647<2147483647:=Int.emod_lt_of_pos _ (by decide)
   generalize (a*a+48271*a+(p.length:Int))%2147483647=a' at m1 z0 z1
   have b:bodyS [some (.sh (.int c)),some (.sh (.int (m:Int))),some (.own (ns.map D.int)),some (.sh (.int a)),some (.sh (.int (p.length:Int)))]=some (.nx [some (.sh (.int c)),some (.sh (.int (m:Int))),some (.own ((ns++ [a']).map D.int)),some (.sh (.int a')),some (.sh (.int (p.length:Int)))]):=by
    unfold bodyS
    rw[aAf (aA3 m1 rfl)]
    show aAm _ _ [some (.sh (.int c)),some (.sh (.int (m:Int))),some (.own (ns.map D.int)),some (.sh (.int a')),some (.sh (.int (p.length:Int)))]=_
    rw[aAf (own_app (i:=2) (acc:=ns.map D.int) (d:= .int a') rfl rfl rfl (by rw[List.length_map];omega) rfl),List.map_append]
    rfl
   exact⟨_,_,rfl,.inl b,ns++ [a'],a',_,rfl,by rw[List.length_append,List.length_append,q1];rfl,⟨z0,by omega⟩,fun x hx=>by
    rcases List.mem_append.mp hx with hx | hx
    ·exact q3 x hx
    ·rw[List.mem_singleton] at hx;subst hx;exact⟨z0,z1⟩⟩)
 obtain⟨ρ',l1,ns,a,o,rfl,l2,l3,l4⟩:=lp
 rw[rng_len] at l2
 refine⟨ns.drop 1,aBs rfl ?_,by rw[List.length_drop];omega,fun x hx=>l4 x (List.mem_of_mem_drop hx)⟩
 rw[e0]
 unfold den_law_stream
 rw[aAf new_ok]
 show aAr (aAm _ _ [some (.sh (.int c)),some (.sh (.int (m:Int))),some (.own []),none,none])=_
 rw[aAf (aA3 (add_ok (aB1 (i:=c) (j:=2147483647) rfl rfl (by decide)) (j:=48271) rfl) rfl)]
 show aAr (aAm (sForR1 (b2 aAv (look 1) (con (.int 1))) (gN 4) bodyS) _ [some (.sh (.int c)),some (.sh (.int (m:Int))),some (.own []),some (.sh (.int (c%2147483647+48271))),none])=_
 have e1:b2 aAv (look 1) (con (.int 1)) [some (.sh (.int c)),some (.sh (.int (m:Int))),some (.own []),some (.sh (.int (c%2147483647+48271))),none]=ok (.int ((m:Int)+1)):=add_ok (i:=(m:Int)) (j:=1) rfl rfl
 have e2:=sForR1_ok (G:=gN 4) (F:=bodyS) e1 (by omega) (by omega)
 rw[show ((m:Int)+1).toNat=m+1 by omega] at e2
 have c1:aEg (look 2) (aBk (con (.int 1))) aBu [some (.sh (.int c)),some (.sh (.int (m:Int))),some (.own (ns.map D.int)),some (.sh (.int a)),o]=ok (lI (ns.drop 1)):=by
  show ok (D.lst (L2.PU.cutD (ns.map D.int) (some ((1:Nat):Int)) none))=_
  rw[cutD_from,←List.map_drop]
 rw[aAf (e2.trans l1),aAl (aAz c1)]
 rfl
noncomputable def Tx (n:Nat) (x:Str):Prop:=(∀c∈L x,c<1114112)∧x.length≤n
theorem Tx.ok {n:Nat} {x:Str} (h:Tx n x):PyData.strOk x=true:=by
 unfold PyData.strOk
 rw[←Array.all_toList]
 exact List.all_eq_true.mpr fun c hc=>decide_eq_true (h.1 c hc)
noncomputable def al:Str:=" !\"#$&'()*+,-./0123456789:;<=>?@ABCDEFGHIJKLMNOPQRSTUVWXYZ[\\]^_`"++"abcdefghijklmnopqrstuvwxyz{|}~"
theorem al_len:(L al).length=94:=by decide+kernel
theorem al_tx: ∀c∈L al,c<1114112:=by
 have:(L al).all (fun c=>decide (c<1114112))=true:=by decide+kernel
 exact fun c hc=>of_decide_eq_true (List.all_eq_true.mp this c hc)
theorem al_le:al.length≤1000:=by
 have:al.length=(L al).length:=rfl
 rw[this,al_len];decide
theorem ch_ok {f g:Rho→M D} {ρ:Rho} {i:Int} (h1:f ρ=ok (.str al)) (h2:g ρ=ok (.int i)) (h0:0≤i) (hi:i<94): ∃x,Tx 1 x∧b2 gIx f g ρ=ok (.str x):=by
 have hn:i.toNat<(L al).length:=by rw[al_len];omega
 have ea:=atI_nat (xs:=L al) (j:=i.toNat) (v:=(L al)[i.toNat]) (List.getElem?_eq_getElem hn)
 rw[show ((i.toNat:Nat):Int)=i by omega] at ea
 refine⟨⟨#[(L al)[i.toNat]]⟩,⟨fun c hc=> ?_,Nat.le_refl 1⟩,aBj h1 h2 ?_⟩
 ·have:c=(L al)[i.toNat]:=by simpa[L] using hc
  rw[this]
  exact al_tx _ (List.getElem_mem hn)
 ·show (if al.length≤1000 then (match atI al.cps.toList i with | some c=>ok (D.str ⟨#[c]⟩) | none=>none) else none)=_
  rw[if_pos al_le]
  show (match atI (L al) i with | some c=>ok (D.str ⟨#[c]⟩) | none=>none)=_
  rw[ea]
theorem rep_ok {f g:Rho→M D} {ρ:Rho} {x:Str} {k:Int} (h1:f ρ=ok (.str x)) (hx:Tx 1 x) (h2:g ρ=ok (.int k)) (h0:0≤k) (hk:k≤10): ∃y,Tx 10 y∧b2 aCu f g ρ=ok (.str y):=by
 refine⟨repS x k.toNat,⟨fun c hc=>hx.1 c (L_rep x _ c hc),?_⟩,aBj h1 h2 ?_⟩
 ·rw[rep_len]
  have:=hx.2
  have:k.toNat*x.length≤10*1:=Nat.mul_le_mul (by omega) this
  omega
 ·show (if 0≤k∧x.length≤1000∧k≤1000 then ok (D.str (repS x k.toNat)) else none)=_
  rw[if_pos ⟨h0,by have:=hx.2;omega,by omega⟩]
theorem plusS {a b:Str} (h:a.length+b.length≤100000):aAv (.str a) (.str b)=ok (.str (a++b)):=by
 show (if a.length+b.length≤100000 then ok (D.str (a++b)) else none)=_
 rw[if_pos h]
theorem catX_ok {f g:Rho→M D} {ρ:Rho} {x y:Str} {a b:Nat} (h1:f ρ=ok (.str x)) (h2:g ρ=ok (.str y)) (hx:Tx a x) (hy:Tx b y) (hl:a+b≤1000):Tx (a+b) (x++y)∧b2 aAv f g ρ=ok (.str (x++y)):=by
 have l1:=hx.2
 have l2:=hy.2
 refine⟨⟨fun c hc=> ?_,by rw[len_app];omega⟩,aBj h1 h2 ?_⟩
 ·rw[L_app] at hc
  rcases List.mem_append.mp hc with hc | hc
  ·exact hx.1 c hc
  ·exact hy.1 c hc
 ·exact plusS (by omega)
noncomputable def fWords (t:Adr):List D→M D:=viaD 2 fun ds=>aAr (den_law_words t (aEe t) (aB7 N_law_words ds))
noncomputable def bodyX:Rho→Option Out:=(aAm (sIf (aAt (b2 gEq (b2 aCf (b2 gIx (look 3) (con (.int 4))) (con (.int 4))) (con (.int 0)))) (aAm (sOwn lApp 6 (aAe (b2 aAv (look 4) (b2 aCu (b2 gIx (look 2) (b2 aCf (b2 gIx (look 3) (con (.int 2))) (con (.int 94)))) (look 7))) aAs))
  aBd) (aAm (sOwn lApp 6 (aAe (b2 aAv (b2 aAv (look 4) (b2 gIx (look 2) (b2 aCf (b2 aAv (b2 aCo (b2 gIx (look 3) (con (.int 4))) (con (.int 4))) (look 7)) (con (.int 94))))) (look 5)) aAs))
  aBd))
  aBd)
theorem words_sp (t:Adr) (c:Int): ∃ws:List Str,fWords t [.int c,.int 7]=ok (lS ws)∧ws.length=7∧∀w∈ws,PyData.strOk w=true:=by
 have e0:aB7 N_law_words [.int c,.int 7]=[some (.sh (.int c)),some (.sh (.int 7)),none,none,none,none,none,none]:=rfl
 obtain⟨ns,st,sl,sb⟩:=stream_sp t c 5 (by decide)
 obtain⟨x0,x1,x2,x3,x4,rfl⟩: ∃x0 x1 x2 x3 x4,ns=[x0,x1,x2,x3,x4]:=by
  match ns,sl with
  | [x0,x1,x2,x3,x4],_=>exact⟨x0,x1,x2,x3,x4,rfl⟩
 have b1:=sb x1 (by simp)
 have b3:=sb x3 (by simp)
 obtain⟨ρ0,hρ0⟩: ∃ρ0:Rho,ρ0=[some (.sh (.int c)),some (.sh (.int 7)),some (.sh (.str al)),some (.sh (lI [x0,x1,x2,x3,x4])),none,none,none,none]:=⟨_,rfl⟩
 obtain⟨p,hp,cp⟩:=ch_ok (f:=look 2) (g:=b2 aCf (b2 gIx (look 3) (con (.int 0))) (con (.int 94))) (ρ:=ρ0) (i:=x0%94) (by rw[hρ0];rfl) (by rw[hρ0];exact aB1 (i:=x0) rfl rfl (by decide)) (by omega) (by omega)
 obtain⟨ah,hah,cah⟩:=rep_ok (g:=b2 aCf (b2 gIx (look 3) (con (.int 1))) (con (.int 3))) (k:=x1%3) cp hp (by rw[hρ0];exact aB1 (i:=x1) rfl rfl (by decide)) (by omega) (by omega)
 obtain⟨ρ1,hρ1⟩: ∃ρ1:Rho,ρ1=[some (.sh (.int c)),some (.sh (.int 7)),some (.sh (.str al)),some (.sh (lI [x0,x1,x2,x3,x4])),some (.sh (.str ah)),none,none,none]:=⟨_,rfl⟩
 obtain⟨q,hq,cq⟩:=ch_ok (f:=look 2) (g:=b2 aCf (b2 gIx (look 3) (con (.int 2))) (con (.int 94))) (ρ:=ρ1) (i:=x2%94) (by rw[hρ1];rfl) (by rw[hρ1];exact aB1 (i:=x2) rfl rfl (by decide)) (by omega) (by omega)
 obtain⟨bh,hbh,cbh⟩:=rep_ok (g:=b2 aCf (b2 gIx (look 3) (con (.int 3))) (con (.int 3))) (k:=x3%3) cq hq (by rw[hρ1];exact aB1 (i:=x3) rfl rfl (by decide)) (by omega) (by omega)
 have lp:=loop_inv0 (G:=gN 7) (F:=bodyX) (fun pr ρ=> ∃(ws:List Str) (o:Option SV),ρ=[some (.sh (.int c)),some (.sh (.int 7)),some (.sh (.str al)),some (.sh (lI [x0,x1,x2,x3,x4])),some (.sh (.str ah)),some (.sh (.str bh)),some (.own (ws.map D.str)),o]∧ws.length=pr.length∧∀w∈ws,PyData.strOk w=true) (rng 0 7)
  [some (.sh (.int c)),some (.sh (.int 7)),some (.sh (.str al)),some (.sh (lI [x0,x1,x2,x3,x4])),some (.sh (.str ah)),some (.sh (.str bh)),some (.own []),none] ⟨[],none,rfl,rfl,fun x h=>by cases h⟩ (fun pr d pr' ρ e hI=>by
   obtain⟨ws,o,rfl,q1,q2⟩:=hI
   obtain⟨rfl,hpr⟩:=rng_mid e
   obtain⟨ρ,hρ⟩: ∃ρ:Rho,ρ=[some (.sh (.int c)),some (.sh (.int 7)),some (.sh (.str al)),some (.sh (lI [x0,x1,x2,x3,x4])),some (.sh (.str ah)),some (.sh (.str bh)),some (.own (ws.map D.str)),some (.sh (.int (pr.length:Int)))]:=⟨_,rfl⟩
   have key: ∃w,PyData.strOk w=true∧bodyX ρ=some (.nx (ρ.set 6 (some (.own (ws.map D.str++ [.str w]))))):=by
    have hb:aAt (b2 gEq (b2 aCf (b2 gIx (look 3) (con (.int 4))) (con (.int 4))) (con (.int 0))) ρ=ok (decide (x4%4=0)):=by
     rw[hρ]
     exact aAp (eqi_ok (aB1 (i:=x4) (j:=4) rfl rfl (by decide)) rfl)
    have l4:look 4 ρ=ok (.str ah):=by rw[hρ];rfl
    have l5:look 5 ρ=ok (.str bh):=by rw[hρ];rfl
    have l2:look 2 ρ=ok (.str al):=by rw[hρ];rfl
    have l7:look 7 ρ=ok (.int (pr.length:Int)):=by rw[hρ];rfl
    have own: ∀{g:Rho→M D} {w:Str},g ρ=ok (.str w)→sOwn lApp 6 (aAe g aAs) ρ=some (.nx (ρ.set 6 (some (.own (ws.map D.str++ [.str w]))))):=fun hg=>own_app (acc:=ws.map D.str) (by rw[hρ];rfl) hg rfl (by rw[List.length_map];omega) rfl
    by_cases c4:x4%4=0
    ·rw[decide_eq_true c4] at hb
     obtain⟨u,hu,cu⟩:=ch_ok (g:=b2 aCf (b2 gIx (look 3) (con (.int 2))) (con (.int 94))) l2 (i:=x2%94) (by rw[hρ];exact aB1 (i:=x2) rfl rfl (by decide)) (by omega) (by omega)
     obtain⟨v,hv,cv⟩:=rep_ok cu hu l7 (by omega) (by omega)
     obtain⟨h1,h2⟩:=catX_ok l4 cv hah hv (by decide)
     refine⟨_,h1.ok,?_⟩
     unfold bodyX
     rw[aAf ((aEb hb).trans (aAf (own h2)))]
     rfl
    ·rw[decide_eq_false c4] at hb
     obtain⟨u,hu,cu⟩:=ch_ok (g:=b2 aCf (b2 aAv (b2 aCo (b2 gIx (look 3) (con (.int 4))) (con (.int 4))) (look 7)) (con (.int 94))) l2 (i:=(x4/4+(pr.length:Int))%94) (aB1 (add_ok (fdiv_ok (i:=x4) (j:=4) (by rw[hρ];rfl) rfl (by decide) (by decide)) l7) rfl (by decide)) (by omega) (by omega)
     obtain⟨h1,h2⟩:=catX_ok l4 cu hah hu (by decide)
     obtain⟨h3,h4⟩:=catX_ok h2 l5 h1 hbh (by decide)
     refine⟨_,h3.ok,?_⟩
     unfold bodyX
     rw[aAf ((aCd hb).trans (aAf (own h4)))]
     rfl
   obtain⟨w,hw,b⟩:=key
   rw[hρ] at b
   refine⟨_,_,rfl,.inl b,ws++ [w],some (.sh (.int (pr.length:Int))),by rw[List.map_append];rfl,by rw[List.length_append,List.length_append,q1];rfl,fun x hx=> ?_⟩
   rcases List.mem_append.mp hx with hx | hx
   ·exact q2 x hx
   ·rw[List.mem_singleton] at hx;subst hx;exact hw)
 obtain⟨ρ',l1,ws,o,rfl,l2,l3⟩:=lp
 rw[rng_len] at l2
 refine⟨ws,aBs rfl ?_,l2,l3⟩
 rw[e0]
 unfold den_law_words
 rw[aAf (aA3 (d:= .str " !\"#$&'()*+,-./0123456789:;<=>?@ABCDEFGHIJKLMNOPQRSTUVWXYZ[\\]^_`") rfl rfl)]
 show aAr (aAm _ _ [some (.sh (.int c)),some (.sh (.int 7)),some (.sh (.str " !\"#$&'()*+,-./0123456789:;<=>?@ABCDEFGHIJKLMNOPQRSTUVWXYZ[\\]^_`")),none,none,none,none,none])=_
 have a1:b2 aAv (look 2) (con (.str "abcdefghijklmnopqrstuvwxyz{|}~")) [some (.sh (.int c)),some (.sh (.int 7)),some (.sh (.str " !\"#$&'()*+,-./0123456789:;<=>?@ABCDEFGHIJKLMNOPQRSTUVWXYZ[\\]^_`")),none,none,none,none,none]=ok (.str al):=by
  refine aBj (x:= .str " !\"#$&'()*+,-./0123456789:;<=>?@ABCDEFGHIJKLMNOPQRSTUVWXYZ[\\]^_`") (y:= .str "abcdefghijklmnopqrstuvwxyz{|}~") rfl rfl ?_
  exact plusS (by have:=al_le;unfold al at this;rw[len_app] at this;omega)
 rw[aAf (aA3 a1 rfl)]
 show aAr (aAm _ _ [some (.sh (.int c)),some (.sh (.int 7)),some (.sh (.str al)),none,none,none,none,none])=_
 rw[aAf (aDc ((aBn (aAc (d:= .int c) rfl (aAc (d:= .int 5) rfl aAn))).trans st) rfl)]
 show aAr (aAm _ _ [some (.sh (.int c)),some (.sh (.int 7)),some (.sh (.str al)),some (.sh (lI [x0,x1,x2,x3,x4])),none,none,none,none])=_
 rw[←hρ0,aAf (aA3 cah rfl),hρ0]
 show aAr (aAm _ _ [some (.sh (.int c)),some (.sh (.int 7)),some (.sh (.str al)),some (.sh (lI [x0,x1,x2,x3,x4])),some (.sh (.str ah)),none,none,none])=_
 rw[←hρ1,aAf (aA3 cbh rfl),hρ1,aAf new_ok]
 show aAr (aAm (sForR1 (look 1) (gN 7) bodyX) _ [some (.sh (.int c)),some (.sh (.int 7)),some (.sh (.str al)),some (.sh (lI [x0,x1,x2,x3,x4])),some (.sh (.str ah)),some (.sh (.str bh)),some (.own []),none])=_
 have e2:=sForR1_ok (G:=gN 7) (F:=bodyX) (f:=look 1) (ρ:=[some (.sh (.int c)),some (.sh (.int 7)),some (.sh (.str al)),some (.sh (lI [x0,x1,x2,x3,x4])),some (.sh (.str ah)),some (.sh (.str bh)),some (.own []),none]) (j:=7) rfl (by decide) (by decide)
 rw[aAf (e2.trans l1),aAl (aAz (d:=lS ws) rfl)]
 rfl
theorem ix_ws {ws:List Str} {i:Int} (h0:0≤i) (hi:i<ws.length):gIx (lS ws) (.int i)=ok (.str (ws.getD i.toNat ""))∧ws.getD i.toNat ""∈ws:=by
 have hn:i.toNat<ws.length:=by omega
 have e:ws.getD i.toNat ""=ws[i.toNat]:=by rw[List.getD_eq_getElem?_getD,List.getElem?_eq_getElem hn];rfl
 rw[e]
 have:=ix_lst (ds:=ws.map D.str) (j:=i.toNat) (d:= .str ws[i.toNat]) (by rw[List.getElem?_map,List.getElem?_eq_getElem hn];rfl)
 rw[show ((i.toNat:Nat):Int)=i by omega] at this
 exact⟨this,List.getElem_mem hn⟩
theorem ix_ns {ns:List Int} {j:Nat} (hn:j<ns.length):gIx (lI ns) (.int (j:Int))=ok (.int (ns.getD j 0))∧ns.getD j 0∈ns:=by
 have e:ns.getD j 0=ns[j]:=by rw[List.getD_eq_getElem?_getD,List.getElem?_eq_getElem hn];rfl
 rw[e]
 exact⟨ix_lst (d:= .int ns[j]) (by rw[List.getElem?_map,List.getElem?_eq_getElem hn];rfl),List.getElem_mem hn⟩
noncomputable def fFast (t:Adr):List D→M D:=viaD 2 fun ds=>aAr (den_law_fast t (aEe t) (aB7 N_law_fast ds))
theorem fast_sp (t:Adr) (c:Int) {ws:List Str} (hl:ws.length=7): ∃k:List Str,fFast t [.int c,lS ws]=ok (lS k)∧k.length≤7:=by
 have e0:aB7 N_law_fast [.int c,lS ws]=[some (.sh (.int c)),some (.sh (lS ws)),none]:=rfl
 obtain⟨ns,st,sl,sb⟩:=stream_sp t c 7 (by decide)
 have ln: ∀ρ:Rho,look 1 ρ=ok (lS ws)→f1 aEa (look 1) ρ=ok (.int 7):=fun ρ h=>aDr h (by show ok (D.int ((ws.map D.str).length:Int))=_;rw[List.length_map,hl];rfl)
 have s1:aDl 2 (app (aEe t) (aAe (look 0) (aAe (f1 aEa (look 1)) aAs))) [some (.sh (.int c)),some (.sh (lS ws)),none]=some (.nx [some (.sh (.int c)),some (.sh (lS ws)),some (.sh (lI ns))]):=
  aDc ((aBn (aAc (d:= .int c) rfl (aAc (ln _ rfl) aAn))).trans st) rfl
 have q:=aAp (eqi_ok (f:=b2 aCf (look 0) (con (.int 2))) (g:=con (.int 0)) (ρ:=[some (.sh (.int c)),some (.sh (lS ws)),some (.sh (lI ns))]) (aB1 (i:=c) (j:=2) rfl rfl (by decide)) (j:=0) rfl)
 by_cases c2:c%2=0
 ·rw[decide_eq_true c2] at q
  refine⟨[],aBs rfl ?_,Nat.zero_le _⟩
  rw[e0]
  unfold den_law_fast
  rw[aAf s1,aAl ((aEb q).trans (aAl (aAz (d:= .lst []) rfl)))]
  rfl
 ·rw[decide_eq_false c2] at q
  have i1:itR (f1 aEa (look 1)) [some (.sh (.int c)),some (.sh (lS ws)),some (.sh (lI ns))]=ok ((List.range 7).map fun (j:Nat)=>D.int (0+(j:Int))):=by
   unfold itR
   rw[ln _ rfl]
   rfl
  have c1:=cmp_f (m:=1) (k:=3) (ρ:=[some (.sh (.int c)),some (.sh (lS ws)),some (.sh (lI ns))]) (ft:=aAt (b2 gEq (b2 aCf (b2 gIx (look 2) (look 3)) (con (.int 4))) (con (.int 0)))) (fe:=b2 gIx (look 1) (look 3)) (p:=fun j=>decide (ns.getD j 0%4=0)) (g:=fun j=> .str (ws.getD j "")) i1 (by rw[List.length_range];decide)
   (fun j hj=>by
    rw[List.mem_range] at hj
    rw[Int.zero_add]
    exact aAp (eqi_ok (aB1 (aBj (x:=lI ns) (y:= .int (j:Int)) rfl rfl (ix_ns (by omega)).1) rfl (by decide)) rfl))
   (fun j hj _=>by
    rw[List.mem_range] at hj
    rw[Int.zero_add]
    have:=(ix_ws (ws:=ws) (i:=(j:Int)) (by omega) (by omega)).1
    rw[Int.toNat_natCast] at this
    exact⟨aBj (x:=lS ws) (y:= .int (j:Int)) rfl rfl this,rfl⟩)
  have c3:(((List.range 7).filter fun j=>decide (ns.getD j 0%4=0)).map fun j=>D.str (ws.getD j ""))=(((List.range 7).filter fun j=>decide (ns.getD j 0%4=0)).map fun j=>ws.getD j "").map D.str:=by rw[List.map_map];rfl
  rw[c3] at c1
  refine⟨((List.range 7).filter fun j=>decide (ns.getD j 0%4=0)).map fun j=>ws.getD j "",aBs rfl ?_,?_⟩
  ·rw[e0]
   unfold den_law_fast
   rw[aAf s1,aAf ((aCd q).trans rfl),aAl (aAz c1)]
   rfl
  ·rw[List.length_map]
   exact Nat.le_trans (List.length_filter_le _ _) (by rw[List.length_range];decide)
noncomputable def fLeast (t:Adr):List D→M D:=viaD 1 fun ds=>aAr (den_law_least t (aB7 N_law_least ds))
structure Row1 (ws:List Str) (x:List Str):Prop where
 ne:x≠[]
 few:x.length≤7
 txt: ∀y∈x,y∈ws
theorem metS_mem {xs:List Str} {x:Str}:x∈metS xs↔x∈xs:=by
 have:=metS_has xs x
 rw[Bool.eq_iff_iff,List.contains_iff_mem,List.contains_iff_mem] at this
 exact this
theorem row_set {ws x:List Str} (hw: ∀w∈ws,PyData.strOk w=true) (h:Row1 ws x):Ok1 (srtS (metS x))∧srtS (metS x)≠[]:=by
 have hp:=srtS_perm (metS x)
 have hl:=metS_le x
 refine⟨⟨by rw[hp.length_eq];have:=h.few;omega,hp.nodup_iff.mpr (metS_nodup x),fun y hy=>hw y (h.txt y (metS_mem.mp (hp.mem_iff.mp hy)))⟩,fun e=> ?_⟩
 obtain⟨y,hy⟩:=List.exists_mem_of_ne_nil x h.ne
 have:y∈srtS (metS x):=hp.mem_iff.mpr (metS_mem.mpr hy)
 rw[e] at this
 cases this
theorem neS_t {a b:List Str} (ha: ∀x∈a,PyData.strOk x=true) (hb: ∀x∈b,PyData.strOk x=true):gNeS (tS a) (tS b)=ok (.bl (!decide (a=b))):=by
 show (match strL (a.map D.str),strL (b.map D.str) with | some x,some y=>if x.all PyData.strOk=true∧y.all PyData.strOk=true then ok (D.bl (!decide (x=y))) else none | _,_=>none)=_
 rw[strL_map,strL_map]
 show (if a.all PyData.strOk=true∧b.all PyData.strOk=true then ok (D.bl (!decide (a=b))) else none)=_
 rw[if_pos ⟨List.all_eq_true.mpr ha,List.all_eq_true.mpr hb⟩]
noncomputable def bodyL:Rho→Option Out:=(aAm (sSetK 4 (cmp 1 (itE (look 1)) [5] h1 (andB (aAt (b2 gNeS (look 5) (look 3))) (aAt (b2 gEqS (cmp 1 (itE (look 5)) [6] h1 (aAt (b2 (gIn true) (look 6) (look 3))) (look 6)) (mkL aAs)))) (look 5)))
  (aAm (sIf (aAt (b2 gEqNilL (look 4) (mkL aAs))) (aAm (sOwn lApp 2 (aAe (look 3) aAs))
  aBd) aBd)
  aBd))
theorem least_sp (t:Adr) {ws:List Str} (hw: ∀w∈ws,PyData.strOk w=true) {xs:List (List Str)} (hl:xs.length≤12) (hx: ∀x∈xs,Row1 ws x): ∃rs,fLeast t [.lst (xs.map lS)]=ok (tR rs)∧rs.length≤12∧∀r∈rs,Ok1 r:=by
 have e0:aB7 N_law_least [.lst (xs.map lS)]=[some (.sh (.lst (xs.map lS))),none,none,none,none]:=rfl
 obtain⟨ys,hys⟩: ∃ys,ys=xs.map fun x=>srtS (metS x):=⟨_,rfl⟩
 have hyl:ys.length≤12:=by rw[hys,List.length_map];exact hl
 have hyo: ∀y∈ys,Ok1 y∧y≠[]:=fun y hy=>by
  rw[hys] at hy
  obtain⟨x,h1,rfl⟩:=List.mem_map.mp hy
  exact row_set hw (hx x h1)
 have c1:cmp 1 (itE (look 0)) [5] h1 (fun _=>ok true) (f1 toT (f1 srtD (f1 toS (look 5)))) [some (.sh (.lst (xs.map lS))),none,none,none,none]=ok (lR ys):=by
  have c:=cmp_one (m:=1) (k:=5) (it:=itE (look 0)) (fe:=f1 toT (f1 srtD (f1 toS (look 5)))) (ρ:=[some (.sh (.lst (xs.map lS))),none,none,none,none]) (l:=xs) (e:=lS) (g:=fun x=>tS (srtS (metS x))) rfl (by omega) fun x h=>by
   have q1:=toS_lS x (by have:=(hx x h).few;omega)
   have q2:srtD (.set (metS x))=ok (lS (srtS (metS x))):=by
    show (if (metS x).length<64∧(metS x).Nodup then ok (D.lst ((srtS (metS x)).map .str)) else none)=_
    rw[if_pos ⟨by have:=metS_le x;have:=(hx x h).few;omega,metS_nodup x⟩]
   exact⟨aDr (g:=toT) (aDr (g:=srtD) (aDr (g:=toS) (d:=lS x) rfl q1) q2) rfl,aDj _⟩
  rw[c]
  show ok (D.lst (xs.map fun x=>tS (srtS (metS x))))=ok (D.lst (ys.map tS))
  rw[hys,List.map_map]
  rfl
 obtain⟨S,hS⟩: ∃S,S=srtT (metT ys):=⟨_,rfl⟩
 have hSm: ∀s∈S,s∈ys:=fun s hs=>by
  rw[hS] at hs
  exact (metT_mem ys s).mp ((srtT_perm _).mem_iff.mp hs)
 have hSl:S.length≤12:=by
  rw[hS,(srtT_perm _).length_eq]
  have:=metT_le ys
  omega
 have c2:f1 srtST (cmp 1 (itE (look 0)) [5] h1 (fun _=>ok true) (f1 toT (f1 srtD (f1 toS (look 5))))) [some (.sh (.lst (xs.map lS))),none,none,none,none]=ok (lR S):=by
  refine aDr c1 ?_
  show (match tupsL (ys.map tS) with | some l=>if l.length<18∧∀k∈l,k≠[] then ok (D.lst ((srtT (metT l)).map fun (x:List Str)=>D.tup (x.map D.str))) else none | none=>none)=_
  rw[tups_R]
  show (if ys.length<18∧∀k∈ys,k≠[] then ok (D.lst ((srtT (metT ys)).map fun (x:List Str)=>D.tup (x.map D.str))) else none)=_
  rw[if_pos ⟨by omega,fun y hy=>(hyo y hy).2⟩,←hS]
 have lp:=loop_inv0 (G:=gN 3) (F:=bodyL) (fun p ρ=> ∃(acc:List (List Str)) (o3 o4:Option SV),ρ=[some (.sh (.lst (xs.map lS))),some (.sh (lR S)),some (.own (acc.map tS)),o3,o4]∧acc.length≤p.length∧∀r∈acc,r∈S) (S.map tS)
  [some (.sh (.lst (xs.map lS))),some (.sh (lR S)),some (.own []),none,none] ⟨[],none,none,rfl,by simp,fun r h=>by cases h⟩ (fun p d p' ρ e hI=>by
   obtain⟨acc,o3,o4,rfl,u1,u2⟩:=hI
   have hd:d∈S.map tS:=by rw[e];exact List.mem_append_right _ List.mem_cons_self
   have hp:p.length<S.length:=by
    have:=congrArg List.length e
    rw[List.length_map,List.length_append,List.length_cons] at this
    omega
   obtain⟨r,hm,rfl⟩:=List.mem_map.mp hd
   have hr:=(hyo r (hSm r hm)).1
   have g:gN 3 (tS r) [some (.sh (.lst (xs.map lS))),some (.sh (lR S)),some (.own (acc.map tS)),o3,o4]=some [some (.sh (.lst (xs.map lS))),some (.sh (lR S)),some (.own (acc.map tS)),some (.sh (tS r)),o4]:=by
    show some (setV 3 (tS r) _)=_
    rw[setV_imm (aDj r)]
    rfl
   have w:=cmp_f (m:=1) (k:=5) (it:=itE (look 1)) (ft:=andB (aAt (b2 gNeS (look 5) (look 3))) (aAt (b2 gEqS (cmp 1 (itE (look 5)) [6] h1 (aAt (b2 (gIn true) (look 6) (look 3))) (look 6)) (mkL aAs)))) (fe:=look 5) (ρ:=[some (.sh (.lst (xs.map lS))),some (.sh (lR S)),some (.own (acc.map tS)),some (.sh (tS r)),o4]) (l:=S) (e:=tS) (p:=fun s=> !decide (s=r)&&decide ((s.filter fun x=> !r.contains x)=[])) (g:=tS) rfl (by omega)
    (fun s hs=>andB_ok (aAp (aBj (x:=tS s) (y:=tS r) rfl rfl (neS_t (hyo s (hSm s hs)).1.txt hr.txt))) (aAp (aBj (cmp_f (l:=s) (e:=D.str) (p:=fun x=> !r.contains x) (g:=D.str) rfl (by have:=(hyo s (hSm s hs)).1.few;omega) (fun x _=>aAp (aBj (x:= .str x) (y:=tS r) rfl rfl (in_tS true x r))) (fun x _ _=>⟨rfl,rfl⟩)) (y:= .lst []) rfl eqS_nil)))
    (fun s hs _=>⟨rfl,aDj s⟩)
   generalize (S.filter fun s=> !decide (s=r)&&decide ((s.filter fun x=> !r.contains x)=[]))=W at w
   have q:=aAp (aBj (g:=gEqNilL) (fa:=look 4) (fb:=mkL aAs) (ρ:=[some (.sh (.lst (xs.map lS))),some (.sh (lR S)),some (.own (acc.map tS)),some (.sh (tS r)),some (.sh (lR W))]) (x:=lR W) (y:= .lst []) (r:=ok (.bl (W.map tS).isEmpty)) rfl rfl rfl)
   cases hb:(W.map tS).isEmpty with
   | true=>
    rw[hb] at q
    have b:bodyL [some (.sh (.lst (xs.map lS))),some (.sh (lR S)),some (.own (acc.map tS)),some (.sh (tS r)),o4]=some (.nx [some (.sh (.lst (xs.map lS))),some (.sh (lR S)),some (.own ((acc++ [r]).map tS)),some (.sh (tS r)),some (.sh (lR W))]):=by
     unfold bodyL
     rw[aAf (sSetK_ok w)]
     show aAm _ _ [some (.sh (.lst (xs.map lS))),some (.sh (lR S)),some (.own (acc.map tS)),some (.sh (tS r)),some (.sh (lR W))]=_
     rw[aAf ((aEb q).trans (aAf (own_app (i:=2) (acc:=acc.map tS) (d:=tS r) rfl rfl (aDj r) (by rw[List.length_map];omega) rfl))),List.map_append]
     rfl
    refine⟨_,_,g,.inl b,acc++ [r],_,_,rfl,by rw[List.length_append,List.length_append,List.length_singleton,List.length_singleton];omega,fun q hq=> ?_⟩
    rcases List.mem_append.mp hq with hq | hq
    ·exact u2 q hq
    ·rw[List.mem_singleton] at hq;subst hq;exact hm
   | false=>
    rw[hb] at q
    have b:bodyL [some (.sh (.lst (xs.map lS))),some (.sh (lR S)),some (.own (acc.map tS)),some (.sh (tS r)),o4]=some (.nx [some (.sh (.lst (xs.map lS))),some (.sh (lR S)),some (.own (acc.map tS)),some (.sh (tS r)),some (.sh (lR W))]):=by
     unfold bodyL
     rw[aAf (sSetK_ok w)]
     show aAm _ _ [some (.sh (.lst (xs.map lS))),some (.sh (lR S)),some (.own (acc.map tS)),some (.sh (tS r)),some (.sh (lR W))]=_
     rw[aAf ((aCd q).trans rfl)]
     rfl
    exact⟨_,_,g,.inl b,acc,_,_,rfl,by rw[List.length_append,List.length_singleton];omega,u2⟩)
 obtain⟨ρ',l1,acc,o3,o4,rfl,l2,l3⟩:=lp
 rw[List.length_map] at l2
 refine⟨acc,aBs rfl ?_,by omega,fun r hr=>(hyo r (hSm r (l3 r hr))).1⟩
 rw[e0]
 unfold den_law_least
 rw[aAf (aDc c2 rfl)]
 show aAr (aAm _ _ [some (.sh (.lst (xs.map lS))),some (.sh (lR S)),none,none,none])=_
 rw[aAf new_ok]
 show aAr (aAm (sForN 1 (gN 3) bodyL) _ [some (.sh (.lst (xs.map lS))),some (.sh (lR S)),some (.own []),none,none])=_
 have s2:sForN 1 (gN 3) bodyL [some (.sh (.lst (xs.map lS))),some (.sh (lR S)),some (.own []),none,none]=some (.nx [some (.sh (.lst (xs.map lS))),some (.sh (lR S)),some (.own (acc.map tS)),o3,o4]):=l1
 rw[aAf s2,aAl (aAz (aDr (g:=toT) (d:=lR acc) (r:=ok (tR acc)) rfl rfl))]
 rfl
theorem imm_ints: ∀(xs:List Int),immL (xs.map D.int)=true
 | []=>rfl
 | x::xs=>by
  show ((D.int x).imm&&immL (xs.map D.int))=true
  rw[imm_ints xs];rfl
theorem sSetX_ok {i:Nat} {f:Rho→M D} {ρ:Rho} {d:D} (h:f ρ=ok d) (ha:ap d ρ=true):sSetX i f ρ=some (.nx (ρ.set i (some (.sh d)))):=by
 unfold sSetX
 rw[h,lft_ok,if_pos ha]
theorem sForX_ok {f:Rho→M D} {G:D→Rho→Option Rho} {F:Rho→Option Out} {ρ:Rho} {ds:List D} (h:f ρ=ok (.lst ds)) (ha:ap (.lst ds) ρ=true):sForX f G F ρ=loop G F ds ρ:=by
 unfold sForX
 rw[h,lft_ok]
 show (if ap (.lst ds) ρ=true then loop G F ds ρ else none)=_
 rw[if_pos ha]
noncomputable def fReasons (t:Adr):List D→M D:=viaD 3 fun ds=>aAr (aD5 t (fLeast t) (aEe t) (aB7 aD6 ds))
noncomputable def bodyR (t:Adr):Rho→Option Out:=(aAm (sSetX 5 (app (aEe t) (aAe (look 4) (aAe (con (.int 7)) aAs))))
  (aAm (sOwnL 3 (aAe (cmp 1 (itR (b2 aAv (con (.int 1)) (b2 aCf (b2 gIx (look 5) (con (.int 6))) (look 2)))) [6] h1 (fun _=>ok true) (b2 gIx (look 1) (b2 aCf (b2 gIx (look 5) (look 6)) (f1 aEa (look 1))))) aAs))
  aBd))
theorem reasons_sp (t:Adr) {ws:List Str} (hwl:ws.length=7) (hw: ∀w∈ws,PyData.strOk w=true) {cs:List Int} (hl:cs.length≤12): ∃rs,fReasons t [lI cs,lS ws,.int 4]=ok (tR rs)∧rs.length≤12∧∀r∈rs,Ok1 r:=by
 have e0:aB7 aD6 [lI cs,lS ws,.int 4]=[some (.sh (lI cs)),some (.sh (lS ws)),some (.sh (.int 4)),none,none,none]:=rfl
 have lp:=loop_inv0 (G:=gN 4) (F:=bodyR t) (fun p ρ=> ∃(acc:List (List Str)) (o4 o5:Option D),ρ=[some (.sh (lI cs)),some (.sh (lS ws)),some (.sh (.int 4)),some (.own (acc.map lS)),o4.map SV.sh,o5.map SV.sh]∧acc.length=p.length∧∀x∈acc,Row1 ws x) (cs.map D.int)
  [some (.sh (lI cs)),some (.sh (lS ws)),some (.sh (.int 4)),some (.own []),none,none] ⟨[],none,none,rfl,rfl,fun x h=>by cases h⟩ (fun p d p' ρ e hI=>by
   obtain⟨acc,o4,o5,rfl,u1,u2⟩:=hI
   have hd:d∈cs.map D.int:=by rw[e];exact List.mem_append_right _ List.mem_cons_self
   have hp:p.length<cs.length:=by
    have:=congrArg List.length e
    rw[List.length_map,List.length_append,List.length_cons] at this
    omega
   obtain⟨c,_,rfl⟩:=List.mem_map.mp hd
   obtain⟨ns,st,sl,sb⟩:=stream_sp t c 7 (by decide)
   have g:gN 4 (.int c) [some (.sh (lI cs)),some (.sh (lS ws)),some (.sh (.int 4)),some (.own (acc.map lS)),o4.map SV.sh,o5.map SV.sh]=some [some (.sh (lI cs)),some (.sh (lS ws)),some (.sh (.int 4)),some (.own (acc.map lS)),some (.sh (.int c)),o5.map SV.sh]:=rfl
   have s1:sSetX 5 (app (aEe t) (aAe (look 4) (aAe (con (.int 7)) aAs))) [some (.sh (lI cs)),some (.sh (lS ws)),some (.sh (.int 4)),some (.own (acc.map lS)),some (.sh (.int c)),o5.map SV.sh]=some (.nx [some (.sh (lI cs)),some (.sh (lS ws)),some (.sh (.int 4)),some (.own (acc.map lS)),some (.sh (.int c)),some (.sh (lI ns))]):=by
    refine sSetX_ok ((aBn (aAc (d:= .int c) rfl (aAc (d:= .int 7) rfl aAn))).trans st) ?_
    have a3:apL (ns.map D.int) (some (.own (acc.map lS)))=true:=by
     cases acc with
     | nil=>
      show (decide ((ns.map D.int).length≠0) || _)=true
      rw[decide_eq_true (by rw[List.length_map];omega),Bool.true_or]
     | cons x acc=>
      match ns,sl with
      | n::ns,_=>
       show (decide _ || true)=true
       rw[Bool.or_true]
    have a5:apL (ns.map D.int) (o5.map SV.sh)=true:=by cases o5<;>rfl
    show (immL (ns.map D.int)&&(true&&(true&&(true&&(apL (ns.map D.int) (some (.own (acc.map lS)))&&(true&&(apL (ns.map D.int) (o5.map SV.sh)&&true)))))))=true
    rw[imm_ints,a3,a5]
    rfl
   obtain⟨ρ,hρ⟩: ∃ρ:Rho,ρ=[some (.sh (lI cs)),some (.sh (lS ws)),some (.sh (.int 4)),some (.own (acc.map lS)),some (.sh (.int c)),some (.sh (lI ns))]:=⟨_,rfl⟩
   obtain⟨n,hn⟩: ∃n:Nat,n=1+(ns.getD 6 0%4).toNat:=⟨_,rfl⟩
   have b6:0≤ns.getD 6 0%4:=by omega
   have f1':b2 aAv (con (.int 1)) (b2 aCf (b2 gIx (look 5) (con (.int 6))) (look 2)) ρ=ok (.int (n:Int)):=by
    rw[hρ,show (n:Int)=1+ns.getD 6 0%4 by omega]
    exact add_ok (i:=1) rfl (aB1 (aBj (x:=lI ns) (y:= .int ((6:Nat):Int)) rfl rfl (ix_ns (by omega)).1) (j:=4) rfl (by decide))
   have hn4:n≤4:=by omega
   have cm:=cmp_rng (m:=1) (k:=6) (fe:=b2 gIx (look 1) (b2 aCf (b2 gIx (look 5) (look 6)) (f1 aEa (look 1)))) (g:=fun j=> .str (ws.getD (ns.getD j 0%7).toNat "")) f1' (by omega) fun j hj=>by
    rw[hρ]
    refine⟨aBj (x:=lS ws) (y:= .int (ns.getD j 0%7)) rfl (aB1 (aBj (x:=lI ns) (y:= .int (j:Int)) rfl rfl (ix_ns (by omega)).1) (aDr (d:=lS ws) rfl (by show ok (D.int ((ws.map D.str).length:Int))=_;rw[List.length_map,hwl];rfl)) (by decide)) (ix_ws (by omega) (by omega)).1,rfl⟩
   have c3:((List.range n).map fun j=>D.str (ws.getD (ns.getD j 0%7).toNat ""))=((List.range n).map fun j=>ws.getD (ns.getD j 0%7).toNat "").map D.str:=by rw[List.map_map];rfl
   rw[c3] at cm
   have row:Row1 ws ((List.range n).map fun j=>ws.getD (ns.getD j 0%7).toNat ""):=by
    refine⟨fun z=> ?_,by rw[List.length_map,List.length_range];omega,fun y hy=> ?_⟩
    ·have:=congrArg List.length z
     rw[List.length_map,List.length_range,List.length_nil] at this
     omega
    ·obtain⟨j,_,rfl⟩:=List.mem_map.mp hy
     exact (ix_ws (ws:=ws) (i:=ns.getD j 0%7) (by omega) (by omega)).2
   generalize ((List.range n).map fun j=>ws.getD (ns.getD j 0%7).toNat "")=X at cm row
   have s2:sOwnL 3 (aAe (cmp 1 (itR (b2 aAv (con (.int 1)) (b2 aCf (b2 gIx (look 5) (con (.int 6))) (look 2)))) [6] h1 (fun _=>ok true) (b2 gIx (look 1) (b2 aCf (b2 gIx (look 5) (look 6)) (f1 aEa (look 1))))) aAs) ρ=some (.nx [some (.sh (lI cs)),some (.sh (lS ws)),some (.sh (.int 4)),some (.own ((acc++ [X]).map lS)),some (.sh (.int c)),some (.sh (lI ns))]):=by
    obtain⟨x,X',rfl⟩: ∃x X',X=x::X':=by
     cases X with
     | nil=>exact absurd rfl row.ne
     | cons x X'=>exact⟨x,X',rfl⟩
    unfold sOwnL
    rw[show ρ[3]? =some (some (.own (acc.map lS))) by rw[hρ];rfl]
    have n1:noOwn 3 ρ=true:=by rw[hρ];rfl
    have n2:noTxt (acc.map lS)=true:=by cases acc<;>rfl
    show (if noOwn 3 ρ=true∧noTxt (acc.map lS)=true∧(acc.map lS).length<100000 then _ else _)=_
    rw[if_pos ⟨n1,n2,by rw[List.length_map];omega⟩,aAc cm aAn,lft_ok]
    show (match strL ((x::X').map D.str) with | some (x::xs)=>some (Out.nx (ρ.set 3 (some (.own (acc.map lS++ [D.lst ((x::xs).map D.str)]))))) | _=>none)=_
    rw[strL_map,hρ,List.map_append]
    rfl
   have b:bodyR t [some (.sh (lI cs)),some (.sh (lS ws)),some (.sh (.int 4)),some (.own (acc.map lS)),some (.sh (.int c)),o5.map SV.sh]=some (.nx [some (.sh (lI cs)),some (.sh (lS ws)),some (.sh (.int 4)),some (.own ((acc++ [X]).map lS)),some (.sh (.int c)),some (.sh (lI ns))]):=by
    unfold bodyR
    rw[aAf s1,←hρ,aAf s2]
    rfl
   refine⟨_,_,g,.inl b,acc++ [X],some (.int c),some (lI ns),rfl,by rw[List.length_append,List.length_append,u1];rfl,fun x hx=> ?_⟩
   rcases List.mem_append.mp hx with hx | hx
   ·exact u2 x hx
   ·rw[List.mem_singleton] at hx;subst hx;exact row)
 obtain⟨ρ',l1,acc,o4,o5,rfl,l2,l3⟩:=lp
 rw[List.length_map] at l2
 obtain⟨rs,r1,r2,r3⟩:=least_sp t hw (xs:=acc) (by omega) l3
 refine⟨rs,aBs rfl ?_,r2,r3⟩
 rw[e0]
 unfold aD5
 rw[aAf new_ok]
 show aAr (aAm (sForN 0 (gN 4) (bodyR t)) _ [some (.sh (lI cs)),some (.sh (lS ws)),some (.sh (.int 4)),some (.own []),none,none])=_
 have s2:sForN 0 (gN 4) (bodyR t) [some (.sh (lI cs)),some (.sh (lS ws)),some (.sh (.int 4)),some (.own []),none,none]=some (.nx [some (.sh (lI cs)),some (.sh (lS ws)),some (.sh (.int 4)),some (.own (acc.map lS)),o4.map SV.sh,o5.map SV.sh]):=l1
 rw[aAf s2,aAl (aAz ((aBn (aAc (d:= .lst (acc.map lS)) rfl aAn)).trans r1))]
 rfl
noncomputable def sLawS:List D→Prop:=fun ds=> ∃ns:List Int,ds=[.lst (ns.map D.int)]∧ns.length≤63
theorem cut_ints (ns:List Int) (a b:Nat): ∃ms:List Int,L2.PU.cutD (ns.map D.int) (some (a:Int)) (some (b:Int))=ms.map D.int∧ms.length≤b-a:=by
 refine⟨(ns.drop (min a ns.length)).take (min b ns.length-min a ns.length),?_,?_⟩
 ·unfold L2.PU.cutD
  rw[HT.sIx_nat,HT.sIx_nat,List.length_map,←List.map_drop,←List.map_take]
 ·rw[List.length_take,List.length_drop]
  omega
theorem cells_ok {f:Rho→M D} {ns cs:List Int} {rest:Rho} {a b:Nat} (hf:f (some (.sh (lI ns))::rest)=ok (lI cs)) (hc:cs.length≤100) (hb:b≤100):
  ∃ms:List Int,b2 aAv f (aEg (look 0) (aBk (con (.int (a:Int)))) (aBk (con (.int (b:Int))))) (some (.sh (lI ns))::rest)=ok (lI (cs++ms))∧ms.length≤b-a:=by
 obtain⟨ms,e,hl⟩:=cut_ints ns a b
 refine⟨ms,aBj hf (y:=lI ms) ?_ ?_,hl⟩
 ·show ok (D.lst (L2.PU.cutD (ns.map D.int) (some (a:Int)) (some (b:Int))))=_
  rw[e]
 ·show (if (cs.map D.int).length+(ms.map D.int).length≤100000 then ok (D.lst (cs.map D.int++ms.map D.int)) else none)=_
  rw[if_pos (by rw[List.length_map,List.length_map];omega),←List.map_append]
noncomputable abbrev sh1 (d:D):Option SV:=some (.sh d)
noncomputable abbrev Rl (ns:List Int) (ws:List Str) (n:Int) (rs:List (List Str)) (k:List Str) (s5:Option SV) (o6 o7 o8 o9 o10 o11:Option D):Rho:=
 [sh1 (lI ns),sh1 (lS ws),sh1 (.int n),sh1 (tR rs),sh1 (lS k),s5,o6.map SV.sh,o7.map SV.sh,o8.map SV.sh,o9.map SV.sh,o10.map SV.sh,o11.map SV.sh]
theorem Rl_free {ns:List Int} {ws:List Str} {n:Int} {rs:List (List Str)} {k:List Str} {s5:Option SV} {o6 o7 o8 o9 o10 o11:Option D}:free (Rl ns ws n rs k s5 o6 o7 o8 o9 o10 o11)=Rl ns ws n rs k (s5.map SV.rel) o6 o7 o8 o9 o10 o11:=by
 have e: ∀o:Option D,(o.map SV.sh).map SV.rel=o.map SV.sh:=fun o=>by cases o<;>rfl
 show [sh1 (lI ns),sh1 (lS ws),sh1 (.int n),sh1 (tR rs),sh1 (lS k),s5.map SV.rel,(o6.map SV.sh).map SV.rel,(o7.map SV.sh).map SV.rel,(o8.map SV.sh).map SV.rel,(o9.map SV.sh).map SV.rel,(o10.map SV.sh).map SV.rel,(o11.map SV.sh).map SV.rel]=_
 rw[e,e,e,e,e,e]
theorem Rl_ap {ds es:List D} {ns:List Int} {ws:List Str} {n:Int} {rs:List (List Str)} {k:List Str} {o6 o7 o8 o9 o10 o11:Option D} (hi:immL ds=true) (hl:ds.length≠es.length):ap (.lst ds) (Rl ns ws n rs k (some (.own es)) o6 o7 o8 o9 o10 o11)=true:=by
 have e: ∀o:Option D,apL ds (o.map SV.sh)=true:=fun o=>by cases o<;>rfl
 show (immL ds&&(true&&(true&&(true&&(true&&(true&&((decide (ds.length≠es.length) || hdNe ds es)&&(apL ds (o6.map SV.sh)&&(apL ds (o7.map SV.sh)&&(apL ds (o8.map SV.sh)&&(apL ds (o9.map SV.sh)&&(apL ds (o10.map SV.sh)&&(apL ds (o11.map SV.sh)&&true)))))))))))))=true
 rw[e,e,e,e,e,e,hi,decide_eq_true hl]
 rfl
noncomputable def Ask (d:D):Prop:= ∃x z,d= .tup [x,.int z]∧Tr 13 13 x
theorem Ask.imm {d:D} (h:Ask d):d.imm=true:=by
 obtain⟨x,z,rfl,hx⟩:=h
 show (x.imm&&(true&&true))=true
 rw[hx.imm];rfl
noncomputable def body2:Rho→Option Out:=(aAm (sOwn lApp 5 (aAe (mkT (aAe (look 9) (aAe (look 7) aAs))) aAs))
  (aAm (sOwn lApp 5 (aAe (mkT (aAe (look 9) (aAe (b2 gSub (b2 aAv (look 7) (con (.int 1))) (b2 aCu (con (.int 2)) (b2 aCf (b2 aCo (look 6) (con (.int 10))) (con (.int 2))))) aAs))) aAs))
  aBd))
theorem body2_ok {ns:List Int} {ws:List Str} {n:Int} {rs:List (List Str)} {k:List Str} {o8 o10 o11:Option D} {asked:List D} {c z:Int} {x:D} (hx:Tr 13 13 x) (hl:asked.length<900):
  ∃q1 q2,Ask q1∧Ask q2∧body2 (Rl ns ws n rs k (some (.own asked)) (some (.int c)) (some (.int z)) o8 (some x) o10 o11)=some (.nx (Rl ns ws n rs k (some (.own (asked++ [q1]++ [q2]))) (some (.int c)) (some (.int z)) o8 (some x) o10 o11)):=by
 have a1:Ask (.tup [x,.int z]):=⟨x,z,rfl,hx⟩
 have a2:Ask (.tup [x,.int (z+1-2*(c/10%2))]):=⟨x,_,rfl,hx⟩
 refine⟨_,_,a1,a2,?_⟩
 unfold body2
 rw[aAf (own_app (i:=5) (acc:=asked) (d:= .tup [x,.int z]) rfl (mkT_ok (aAc (d:=x) rfl (aAc (d:= .int z) rfl aAn))) a1.imm (by omega) rfl)]
 show aAm _ _ (Rl ns ws n rs k (some (.own (asked++ [.tup [x,.int z]]))) (some (.int c)) (some (.int z)) o8 (some x) o10 o11)=_
 have m:mulB 2 (c/10%2)=true:=mul_small ⟨by decide,by decide⟩ ⟨by omega,by omega⟩
 rw[aAf (own_app (i:=5) (acc:=asked++ [.tup [x,.int z]]) (d:= .tup [x,.int (z+1-2*(c/10%2))]) rfl (mkT_ok (aAc (d:=x) rfl (aAc (sub_ok (add_ok (i:=z) (j:=1) rfl rfl) (mul_ok (i:=2) rfl (aB1 (fdiv_ok (i:=c) (j:=10) rfl rfl (by decide) (by decide)) rfl (by decide)) m)) aAn))) a2.imm (by rw[List.length_append,List.length_singleton];omega) rfl)]
 rfl
noncomputable def body1 (t:Adr):Rho→Option Out:=(aAm (aDl 7 (b2 gSub (b2 aCf (look 6) (con (.int 5))) (con (.int 1))))
  (aAm (aDl 8 (app (fBuild t 13) (aAe (look 3) (aAe (look 7) (aAe (look 4) (aAe (b2 aCf (b2 aCo (look 6) (con (.int 5))) (con (.int 2147483647))) aAs))))))
  (aAm (sForX (mkL (aAe (look 8) (aAe (app (fSpoil t 13) (aAe (look 8) (aAe (look 3) (aAe (b2 aCf (b2 aCo (look 6) (con (.int 35))) (con (.int 2147483647))) aAs)))) aAs))) (gN 9) body2)
  aBd)))
theorem body1_ok (t:Adr) {ns:List Int} {ws:List Str} {n:Int} {rs:List (List Str)} {k:List Str} {o7 o8 o9 o10 o11:Option D} {asked:List D} {c:Int} (hrl:rs.length≤12) (hr: ∀r∈rs,Ok1 r) (hl:asked.length<800) (h2:asked.length≠2) (ha: ∀q∈asked,Ask q):
  ∃(qs:List D) (z:Int) (d d':D),qs.length=4∧(∀q∈qs,Ask q)∧body1 t (Rl ns ws n rs k (some (.own asked)) (some (.int c)) o7 o8 o9 o10 o11)=some (.nx (Rl ns ws n rs k (some (.own (asked++qs))) (some (.int c)) (some (.int z)) (some d) (some d') o10 o11)):=by
 obtain⟨d,b1,b2'⟩:=build_sp t (k:=k) 12 (rs:=rs) (c%5-1) (c/5%2147483647) hrl hrl hr (by omega) (by omega)
 obtain⟨d',p1,p2⟩:=spoil_sp t hr 12 (c/35%2147483647) b2' (by omega) (by omega)
 have hd:Tr 13 13 d:=Tr.more (by decide) (Tr.up (by decide) b2')
 obtain⟨q1,q2,a1,a2,e1⟩:=body2_ok (ns:=ns) (ws:=ws) (n:=n) (rs:=rs) (k:=k) (o8:=some d) (o10:=o10) (o11:=o11) (asked:=asked) (c:=c) (z:=c%5-1) (x:=d) hd (by omega)
 obtain⟨q3,q4,a3,a4,e2⟩:=body2_ok (ns:=ns) (ws:=ws) (n:=n) (rs:=rs) (k:=k) (o8:=some d) (o10:=o10) (o11:=o11) (asked:=asked++ [q1]++ [q2]) (c:=c) (z:=c%5-1) (x:=d') p2 (by simp only[List.length_append,List.length_singleton];omega)
 refine⟨[q1,q2,q3,q4],c%5-1,d,d',rfl,fun q hq=> ?_,?_⟩
 ·simp only[List.mem_cons,List.not_mem_nil,or_false] at hq
  rcases hq with rfl | rfl | rfl | rfl<;>assumption
 unfold body1
 rw[aAf (aA3 (sub_ok (aB1 (f:=look 6) (g:=con (.int 5)) (ρ:=Rl ns ws n rs k (some (.own asked)) (some (.int c)) o7 o8 o9 o10 o11) (i:=c) (j:=5) rfl rfl (by decide)) (g:=con (.int 1)) (j:=1) rfl) rfl)]
 show aAm _ _ (Rl ns ws n rs k (some (.own asked)) (some (.int c)) (some (.int (c%5-1))) o8 o9 o10 o11)=_
 rw[aAf (aA3 ((aBn (aAc (f:=look 3) (ρ:=Rl ns ws n rs k (some (.own asked)) (some (.int c)) (some (.int (c%5-1))) o8 o9 o10 o11) (d:=tR rs) rfl (aAc (d:= .int (c%5-1)) rfl (aAc (d:=lS k) rfl (aAc (aB1 (fdiv_ok (i:=c) (j:=5) rfl rfl (by decide) (by decide)) rfl (by decide)) aAn))))).trans b1) hd.imm)]
 show aAm _ _ (Rl ns ws n rs k (some (.own asked)) (some (.int c)) (some (.int (c%5-1))) (some d) o9 o10 o11)=_
 have m1:=mkL_ok (aAc (f:=look 8) (ρ:=Rl ns ws n rs k (some (.own asked)) (some (.int c)) (some (.int (c%5-1))) (some d) o9 o10 o11) (d:=d) rfl (aAc ((aBn (aAc (f:=look 8) (d:=d) rfl (aAc (f:=look 3) (d:=tR rs) rfl (aAc (aB1 (f:=b2 aCo (look 6) (con (.int 35))) (g:=con (.int 2147483647)) (fdiv_ok (i:=c) (j:=35) rfl rfl (by decide) (by decide)) rfl (by decide)) aAn)))).trans p1) aAn))
 have im:immL [d,d']=true:=by
  show (d.imm&&(d'.imm&&true))=true
  rw[hd.imm,p2.imm];rfl
 have e0:=sForX_ok (G:=gN 9) (F:=body2) m1 (Rl_ap im (by intro z;exact h2 z.symm))
 have g1:gN 9 d (Rl ns ws n rs k (some (.own asked)) (some (.int c)) (some (.int (c%5-1))) (some d) o9 o10 o11)=some (Rl ns ws n rs k (some (.own asked)) (some (.int c)) (some (.int (c%5-1))) (some d) (some d) o10 o11):=by
  show some (setV 9 d _)=_
  rw[setV_imm hd.imm]
  rfl
 have g2:gN 9 d' (Rl ns ws n rs k (some (.own (asked++ [q1]++ [q2]))) (some (.int c)) (some (.int (c%5-1))) (some d) (some d) o10 o11)=some (Rl ns ws n rs k (some (.own (asked++ [q1]++ [q2]))) (some (.int c)) (some (.int (c%5-1))) (some d) (some d') o10 o11):=by
  show some (setV 9 d' _)=_
  rw[setV_imm p2.imm]
  rfl
 rw[loop_cons g1 e1,loop_cons g2 e2] at e0
 rw[aAf e0]
 show some (Out.nx (Rl ns ws n rs k (some (.own (asked++ [q1]++ [q2]++ [q3]++ [q4]))) (some (.int c)) (some (.int (c%5-1))) (some d) (some d') o10 o11))=_
 rw[List.append_assoc,List.append_assoc,List.append_assoc]
 rfl
theorem isi_b {f:Rho→M D} {ρ:Rho} {b:Bool} (h:f ρ=ok (.bl b)):isi "bool" f ρ=ok (.bl true):=by
 unfold isi
 rw[h]
 rfl
theorem ne_same {f g:Rho→M D} {ρ:Rho} {b:Bool} (h1:f ρ=ok (.bl b)) (h2:g ρ=ok (.bl b)):b2 gNe f g ρ=ok (.bl false):=by
 refine aBj h1 h2 ?_
 show ok (D.bl (!decide (b=b)))=_
 rw[decide_eq_true rfl]
 rfl
noncomputable def body3 (t:Adr):Rho→Option Out:=(aAm (aDl 11 (app (fSA t 27).1 (aAe (look 9) (aAe (look 3) (aAe (look 7) (aAe (look 10) aAs))))))
  (aAm (sIf (orB (notB (test (isi "bool" (look 11)))) (aAt (b2 gNe (look 11) (app (fShown t 14) (aAe (look 9) (aAe (look 3) (aAe (look 7) (aAe (look 4) aAs)))))))) (aAm (aD8 (con (.bl false)))
  aBd) aBd)
  aBd))
theorem body3_ok (t:Adr) {ns:List Int} {ws:List Str} {n:Int} {rs:List (List Str)} {k:List Str} {d5:D} {o6 o8 o11:Option D} {x:D} {z:Int} (hrl:rs.length≤12) (hr: ∀r∈rs,Ok1 r) (hx:Tr 13 13 x):
  ∃b,body3 t (Rl ns ws n rs k (sh1 d5) o6 (some (.int z)) o8 (some x) (some (lS k)) o11)=some (.nx (Rl ns ws n rs k (sh1 d5) o6 (some (.int z)) o8 (some x) (some (lS k)) (some (.bl b)))):=by
 obtain⟨b,e1,e2⟩:=both t (k:=k) 13 (rs:=rs) (z:=z) hx (by omega) fun r h=>(hr r h).nd
 refine⟨b,?_⟩
 unfold body3
 rw[aAf (aA3 ((aBn (aAc (f:=look 9) (ρ:=Rl ns ws n rs k (sh1 d5) o6 (some (.int z)) o8 (some x) (some (lS k)) o11) (d:=x) rfl (aAc (d:=tR rs) rfl (aAc (d:= .int z) rfl (aAc (d:=lS k) rfl aAn))))).trans e1) rfl)]
 show aAm _ _ (Rl ns ws n rs k (sh1 d5) o6 (some (.int z)) o8 (some x) (some (lS k)) (some (.bl b)))=_
 have q:=orB_ok (notB_ok (test_ok (isi_b (f:=look 11) (ρ:=Rl ns ws n rs k (sh1 d5) o6 (some (.int z)) o8 (some x) (some (lS k)) (some (.bl b))) (b:=b) rfl) rfl)) (aAp (ne_same (f:=look 11) (ρ:=Rl ns ws n rs k (sh1 d5) o6 (some (.int z)) o8 (some x) (some (lS k)) (some (.bl b))) rfl ((aBn (aAc (f:=look 9) (d:=x) rfl (aAc (f:=look 3) (d:=tR rs) rfl (aAc (f:=look 7) (d:= .int z) rfl (aAc (f:=look 4) (d:=lS k) rfl aAn))))).trans e2)))
 rw[aAf ((aCd q).trans rfl)]
 rfl
noncomputable def body4 (t:Adr):Rho→Option Out:=(aAm (sIf (aAt (b2 gNe (app (fSA t 27).1 (aAe (look 9) (aAe (look 3) (aAe (look 7) (aAe (mkL aAs) aAs))))) (app (fShown t 14) (aAe (look 9) (aAe (look 3) (aAe (look 7) (aAe (mkL aAs) aAs))))))) (aAm (aD8 (con (.bl false)))
  aBd) aBd)
  (aAm (sIf (aAt (b2 gNe (app (fSA t 27).1 (aAe (look 9) (aAe (look 3) (aAe (look 7) (aAe (f1 toL (look 1)) aAs))))) (app (fShown t 14) (aAe (look 9) (aAe (look 3) (aAe (look 7) (aAe (look 1) aAs))))))) (aAm (aD8 (con (.bl false)))
  aBd) aBd)
  aBd))
theorem body4_ok (t:Adr) {ns:List Int} {ws:List Str} {n:Int} {rs:List (List Str)} {k:List Str} {s5:Option SV} {o6 o8 o10 o11:Option D} {x:D} {z:Int} (hrl:rs.length≤12) (hr: ∀r∈rs,Ok1 r) (hx:Tr 13 13 x):
  body4 t (Rl ns ws n rs k s5 o6 (some (.int z)) o8 (some x) o10 o11)=some (.nx (Rl ns ws n rs k s5 o6 (some (.int z)) o8 (some x) o10 o11)):=by
 obtain⟨b,e1,e2⟩:=both t (k:=[]) 13 (rs:=rs) (z:=z) hx (by omega) fun r h=>(hr r h).nd
 obtain⟨b',e3,e4⟩:=both t (k:=ws) 13 (rs:=rs) (z:=z) hx (by omega) fun r h=>(hr r h).nd
 unfold body4
 generalize hρ:Rl ns ws n rs k s5 o6 (some (.int z)) o8 (some x) o10 o11=ρ
 have l9:look 9 ρ=ok x:=by rw[←hρ];rfl
 have l3:look 3 ρ=ok (tR rs):=by rw[←hρ];rfl
 have l7:look 7 ρ=ok (.int z):=by rw[←hρ];rfl
 have l1:look 1 ρ=ok (lS ws):=by rw[←hρ];rfl
 have m0:mkL aAs ρ=ok (lS []):=rfl
 have w1:f1 toL (look 1) ρ=ok (lS ws):=aDr (g:=toL) l1 rfl
 have q1:=aAp (ne_same ((aBn (aAc l9 (aAc l3 (aAc l7 (aAc m0 aAn))))).trans e1) ((aBn (aAc l9 (aAc l3 (aAc l7 (aAc m0 aAn))))).trans e2))
 have q2:=aAp (ne_same ((aBn (aAc l9 (aAc l3 (aAc l7 (aAc w1 aAn))))).trans e3) ((aBn (aAc l9 (aAc l3 (aAc l7 (aAc l1 aAn))))).trans e4))
 rw[aAf ((aCd q1).trans rfl),aAf ((aCd q2).trans rfl)]
 rfl
theorem loop3 (t:Adr) {ns:List Int} {ws:List Str} {n:Int} {rs:List (List Str)} {k:List Str} {d5:D} {o6 o8:Option D} (hrl:rs.length≤12) (hr: ∀r∈rs,Ok1 r): ∀(l:List D) (o7 o9 o11:Option D),(∀q∈l,Ask q)→
  ∃o7' o9' o11',loop (gN2 9 7) (body3 t) l (Rl ns ws n rs k (sh1 d5) o6 o7 o8 o9 (some (lS k)) o11)=some (.nx (Rl ns ws n rs k (sh1 d5) o6 o7' o8 o9' (some (lS k)) o11')):=by
 intro l
 induction l with
 | nil=>intro o7 o9 o11 _;exact⟨o7,o9,o11,rfl⟩
 | cons q l ih=>
  intro o7 o9 o11 h
  obtain⟨x,z,rfl,hx⟩:=h q List.mem_cons_self
  obtain⟨b,e⟩:=body3_ok t (ns:=ns) (ws:=ws) (n:=n) (k:=k) (d5:=d5) (o6:=o6) (o8:=o8) (o11:=o11) (z:=z) hrl hr hx
  have g:gN2 9 7 (.tup [x,.int z]) (Rl ns ws n rs k (sh1 d5) o6 o7 o8 o9 (some (lS k)) o11)=some (Rl ns ws n rs k (sh1 d5) o6 (some (.int z)) o8 (some x) (some (lS k)) o11):=by
   show some (setV 7 (.int z) (setV 9 x _))=_
   rw[setV_imm hx.imm,setV_imm rfl]
   rfl
  rw[loop_cons g e]
  exact ih _ _ _ fun q hq=>h q (List.mem_cons_of_mem _ hq)
theorem loop4 (t:Adr) {ns:List Int} {ws:List Str} {n:Int} {rs:List (List Str)} {k:List Str} {s5:Option SV} {o6 o8 o10 o11:Option D} (hrl:rs.length≤12) (hr: ∀r∈rs,Ok1 r): ∀(l:List D) (o7 o9:Option D),(∀q∈l,Ask q)→
  ∃o7' o9',loop (gN2 9 7) (body4 t) l (Rl ns ws n rs k s5 o6 o7 o8 o9 o10 o11)=some (.nx (Rl ns ws n rs k s5 o6 o7' o8 o9' o10 o11)):=by
 intro l
 induction l with
 | nil=>intro o7 o9 _;exact⟨o7,o9,rfl⟩
 | cons q l ih=>
  intro o7 o9 h
  obtain⟨x,z,rfl,hx⟩:=h q List.mem_cons_self
  have e:=body4_ok t (ns:=ns) (ws:=ws) (n:=n) (k:=k) (s5:=s5) (o6:=o6) (o8:=o8) (o10:=o10) (o11:=o11) (z:=z) hrl hr hx
  have g:gN2 9 7 (.tup [x,.int z]) (Rl ns ws n rs k s5 o6 o7 o8 o9 o10 o11)=some (Rl ns ws n rs k s5 o6 (some (.int z)) o8 (some x) o10 o11):=by
   show some (setV 7 (.int z) (setV 9 x _))=_
   rw[setV_imm hx.imm,setV_imm rfl]
   rfl
  rw[loop_cons g e]
  exact ih _ _ fun q hq=>h q (List.mem_cons_of_mem _ hq)
theorem p30:(10:Int)^(30:Int).toNat=1000000000000000000000000000000:=by decide
theorem at_0 {ns:List Int} {rest:Rho}:app fAt (aAe (look 0) (aAe (con (.int 0)) aAs)) (some (.sh (lI ns))::rest)=ok (.int (atZ ns 0)):=at_app 0
theorem at_1 {ns:List Int} {rest:Rho}:app fAt (aAe (look 0) (aAe (con (.int 1)) aAs)) (some (.sh (lI ns))::rest)=ok (.int (atZ ns 1)):=at_app 1
theorem at_2 {ns:List Int} {rest:Rho}:app fAt (aAe (look 0) (aAe (con (.int 2)) aAs)) (some (.sh (lI ns))::rest)=ok (.int (atZ ns 2)):=at_app 2
theorem at_3 {ns:List Int} {rest:Rho}:app fAt (aAe (look 0) (aAe (con (.int 3)) aAs)) (some (.sh (lI ns))::rest)=ok (.int (atZ ns 3)):=at_app 3
theorem ask_ix {asked:List D} {j:Nat} (h:j<asked.length) (ha: ∀q∈asked,Ask q): ∃x z,Tr 13 13 x∧gIx (.lst asked) (.int (j:Int))=ok (.tup [x,.int z]):=by
 obtain⟨x,z,e,hx⟩:=ha asked[j] (List.getElem_mem h)
 exact⟨x,z,hx,by rw[←e];exact ix_lst (List.getElem?_eq_getElem h)⟩
theorem law_den (t:Adr): ∀ds r,tt sLawS ds=some r→∃d,r= .ok d∧aAr (den_law t (fBuild t 13) fAt (fFast t) (fReasons t) (fShown t 14) (fSpoil t 13) (aEe t) (fWords t) (fSA t 27).1 (aB7 N_law ds))=ok d:=by
 intro ds r hr
 obtain⟨hS,e⟩:=tt_inv hr
 clear hr
 subst e
 obtain⟨ns,rfl,hns⟩:=hS
 refine⟨_,rfl,?_⟩
 have e0:aB7 N_law [.lst (ns.map D.int)]=[sh1 (lI ns),none,none,none,none,none,none,none,none,none,none,none]:=rfl
 rw[e0]
 unfold den_law
 obtain⟨ws,w1,w2,w3⟩:=words_sp t (atZ ns 0)
 rw[aAf (aDc ((aBn (aAc at_0 (aAc (f:=con (.int 7)) (d:= .int 7) rfl aAn))).trans w1) rfl)]
 show aAr (aAm _ _ [sh1 (lI ns),sh1 (lS ws),none,none,none,none,none,none,none,none,none,none])=_
 rw[aAf (aA3 at_1 rfl)]
 generalize atZ ns 1=n
 show aAr (aAm _ _ [sh1 (lI ns),sh1 (lS ws),sh1 (.int n),none,none,none,none,none,none,none,none,none])=_
 obtain⟨m,hm,hm2⟩:=nat_mod (n:=n) 5 (by decide)
 obtain⟨cs,c1,c2,_⟩:=stream_sp t n m (by omega)
 have c3:app (aEe t) (aAe (look 2) (aAe (b2 aCf (look 2) (con (.int 5))) aAs)) [sh1 (lI ns),sh1 (lS ws),sh1 (.int n),none,none,none,none,none,none,none,none,none]=ok (lI cs):=by
  refine (aBn (aAc (d:= .int n) rfl (aAc (d:= .int (m:Int)) ?_ aAn))).trans c1
  rw[←hm]
  exact aB1 (i:=n) (j:=5) rfl rfl (by decide)
 obtain⟨ms,c4,c5⟩: ∃ms:List Int,b2 aAv (app (aEe t) (aAe (look 2) (aAe (b2 aCf (look 2) (con (.int 5))) aAs))) (aEg (look 0) (aBk (con (.int 4))) (aBk (con (.int 12)))) [sh1 (lI ns),sh1 (lS ws),sh1 (.int n),none,none,none,none,none,none,none,none,none]=ok (lI (cs++ms))∧ms.length≤12-4:=cells_ok (a:=4) (b:=12) c3 (by omega) (by decide)
 obtain⟨rs0,r1,r2,r3⟩:=reasons_sp t w2 w3 (cs:=cs++ms) (by rw[List.length_append];omega)
 rw[aAf (aA3 ((aBn (aAc c4 (aAc (f:=look 1) (d:=lS ws) rfl (aAc (f:=con (.int 4)) (d:= .int 4) rfl aAn)))).trans r1) (imm_tR rs0))]
 show aAr (aAm _ _ [sh1 (lI ns),sh1 (lS ws),sh1 (.int n),sh1 (tR rs0),none,none,none,none,none,none,none,none])=_
 obtain⟨rs,q1,q2,q3⟩: ∃rs,rs.length≤12∧(∀r∈rs,Ok1 r)∧sIf (aAt (b2 gEq (b2 aCf (b2 aCo (look 2) (con (.int 5))) (con (.int 16))) (con (.int 1)))) (aAm (aDl 3 (mkT (aAe (mkT aAs) aAs))) aBd) aBd [sh1 (lI ns),sh1 (lS ws),sh1 (.int n),sh1 (tR rs0),none,none,none,none,none,none,none,none]=some (.nx [sh1 (lI ns),sh1 (lS ws),sh1 (.int n),sh1 (tR rs),none,none,none,none,none,none,none,none]):=by
  have q:=aAp (eqi_ok (f:=b2 aCf (b2 aCo (look 2) (con (.int 5))) (con (.int 16))) (g:=con (.int 1)) (ρ:=[sh1 (lI ns),sh1 (lS ws),sh1 (.int n),sh1 (tR rs0),none,none,none,none,none,none,none,none]) (aB1 (fdiv_ok (i:=n) (j:=5) rfl rfl (by decide) (by decide)) (j:=16) rfl (by decide)) (j:=1) rfl)
  by_cases h:n/5%16=1
  ·rw[decide_eq_true h] at q
   exact⟨[[]],by decide,fun r hr=>by rw[List.mem_singleton] at hr;subst hr;exact Ok1.nil,(aEb q).trans ((aAf (aA3 (d:=tR [[]]) rfl rfl)).trans rfl)⟩
  ·rw[decide_eq_false h] at q
   exact⟨rs0,r2,r3,(aCd q).trans rfl⟩
 rw[aAf q3]
 obtain⟨k,k1,k2⟩:=fast_sp t (atZ ns 2) w2
 rw[aAf (aDc ((aBn (aAc at_2 (aAc (f:=look 1) (d:=lS ws) rfl aAn))).trans k1) rfl)]
 show aAr (aAm _ _ (Rl ns ws n rs k none none none none none none none))=_
 rw[aAf new_ok]
 obtain⟨es,d1,d2,_⟩:=stream_sp t (atZ ns 3) 5 (by decide)
 have d3:app (aEe t) (aAe (app fAt (aAe (look 0) (aAe (con (.int 3)) aAs))) (aAe (con (.int 5)) aAs)) (Rl ns ws n rs k (some (.own [])) none none none none none none)=ok (lI es):=
  (aBn (aAc at_3 (aAc (d:= .int 5) rfl aAn))).trans d1
 obtain⟨ms2,d4,d5⟩: ∃ms:List Int,b2 aAv (app (aEe t) (aAe (app fAt (aAe (look 0) (aAe (con (.int 3)) aAs))) (aAe (con (.int 5)) aAs))) (aEg (look 0) (aBk (con (.int 14))) (aBk (con (.int 22)))) (Rl ns ws n rs k (some (.own [])) none none none none none none)=ok (lI (es++ms))∧ms.length≤22-14:=cells_ok (a:=14) (b:=22) d3 (by omega) (by decide)
 have hcl:(es++ms2).length≤13:=by rw[List.length_append];omega
 have hcl2:5≤(es++ms2).length:=by rw[List.length_append];omega
 generalize es++ms2=cl at d4 hcl hcl2
 have f0:=sForX_ok (G:=gN 6) (F:=body1 t) d4 (Rl_ap (imm_ints cl) (by rw[List.length_map,List.length_nil];omega))
 have lp:=loop_inv0 (G:=gN 6) (F:=body1 t) (fun p ρ=> ∃(asked:List D) (o6 o7 o8 o9:Option D),ρ=Rl ns ws n rs k (some (.own asked)) o6 o7 o8 o9 none none∧asked.length=4*p.length∧∀q∈asked,Ask q) (cl.map D.int)
  (Rl ns ws n rs k (some (.own [])) none none none none none none) ⟨[],none,none,none,none,rfl,rfl,fun q h=>by cases h⟩ (fun p d p' ρ e hI=>by
   obtain⟨asked,o6,o7,o8,o9,rfl,u1,u2⟩:=hI
   have hd:d∈cl.map D.int:=by rw[e];exact List.mem_append_right _ List.mem_cons_self
   have hp:p.length<cl.length:=by
    have:=congrArg List.length e
    rw[List.length_map,List.length_append,List.length_cons] at this
    omega
   obtain⟨c,_,rfl⟩:=List.mem_map.mp hd
   obtain⟨qs,z,x,x',b1,b2',b3⟩:=body1_ok t (ns:=ns) (ws:=ws) (n:=n) (rs:=rs) (k:=k) (o7:=o7) (o8:=o8) (o9:=o9) (o10:=none) (o11:=none) (asked:=asked) (c:=c) q1 q2 (by omega) (by omega) u2
   refine⟨_,_,rfl,.inl b3,asked++qs,_,_,_,_,rfl,by rw[List.length_append,List.length_append,List.length_singleton];omega,fun q hq=> ?_⟩
   rcases List.mem_append.mp hq with hq | hq
   ·exact u2 q hq
   ·exact b2' q hq)
 obtain⟨ρ',l1,asked,o6,o7,o8,o9,rfl,l2,l3⟩:=lp
 rw[List.length_map] at l2
 show aAr (aAm (sForX _ (gN 6) (body1 t)) _ (Rl ns ws n rs k (some (.own [])) none none none none none none))=_
 rw[aAf (f0.trans l1)]
 have pw: ∀ρ,b2 gPow (con (.int 10)) (con (.int 30)) ρ=ok (.int 1000000000000000000000000000000):=fun ρ=>by simp[b2,con,bnd,ok,gPow,p30]
 obtain⟨x0,z0,hx0,i0⟩:=ask_ix (j:=0) (by omega) l3
 have a0:Ask (.tup [x0,.int 1000000000000000000000000000000]):=⟨x0,_,rfl,hx0⟩
 rw[aAf (own_app (i:=5) (acc:=asked) (ρ:=Rl ns ws n rs k (some (.own asked)) o6 o7 o8 o9 none none) (d:= .tup [x0,.int 1000000000000000000000000000000]) rfl (mkT_ok (aAc (aBj (aBj (x:= .lst asked) (y:= .int ((0:Nat):Int)) rfl rfl i0) (y:= .int 0) rfl (ix_tup (j:=0) rfl)) (aAc (pw _) aAn))) a0.imm (by omega) rfl)]
 obtain⟨asked1,hasked1⟩: ∃a,a=asked++ [.tup [x0,.int 1000000000000000000000000000000]]:=⟨_,rfl⟩
 have m3: ∀q∈asked1,Ask q:=fun q hq=>by
  rw[hasked1] at hq
  rcases List.mem_append.mp hq with hq | hq
  ·exact l3 q hq
  ·rw[List.mem_singleton] at hq;subst hq;exact a0
 have m2:asked1.length=asked.length+1:=by rw[hasked1,List.length_append,List.length_singleton]
 show aAr (aAm _ _ (Rl ns ws n rs k (some (.own (asked++ [.tup [x0,.int 1000000000000000000000000000000]]))) o6 o7 o8 o9 none none))=_
 rw[←hasked1]
 obtain⟨x1,z1,hx1,i1⟩:=ask_ix (j:=1) (by omega) m3
 have a1:Ask (.tup [x1,.int (0-1000000000000000000000000000000)]):=⟨x1,_,rfl,hx1⟩
 rw[aAf (own_app (i:=5) (acc:=asked1) (ρ:=Rl ns ws n rs k (some (.own asked1)) o6 o7 o8 o9 none none) (d:= .tup [x1,.int (0-1000000000000000000000000000000)]) rfl (mkT_ok (aAc (aBj (aBj (x:= .lst asked1) (y:= .int ((1:Nat):Int)) rfl rfl i1) (y:= .int 0) rfl (ix_tup (j:=0) rfl)) (aAc (sub_ok (i:=0) rfl (pw _)) aAn))) a1.imm (by omega) rfl)]
 obtain⟨aBm,hasked2⟩: ∃a,a=asked1++ [.tup [x1,.int (0-1000000000000000000000000000000)]]:=⟨_,rfl⟩
 have n3: ∀q∈aBm,Ask q:=fun q hq=>by
  rw[hasked2] at hq
  rcases List.mem_append.mp hq with hq | hq
  ·exact m3 q hq
  ·rw[List.mem_singleton] at hq;subst hq;exact a1
 have n2:aBm.length=asked1.length+1:=by rw[hasked2,List.length_append,List.length_singleton]
 show aAr (aAm _ _ (Rl ns ws n rs k (some (.own (asked1++ [.tup [x1,.int (0-1000000000000000000000000000000)]]))) o6 o7 o8 o9 none none))=_
 rw[←hasked2]
 have h10:aDl 10 (f1 toL (look 4)) (Rl ns ws n rs k (some (.own aBm)) o6 o7 o8 o9 none none)=some (.nx (Rl ns ws n rs k (sh1 (.lst aBm)) o6 o7 o8 o9 (some (lS k)) none)):=by
  rw[sSet_ok (aDr (g:=toL) (d:=lS k) (r:=ok (lS k)) rfl rfl)]
  show some (Out.nx ((free (Rl ns ws n rs k (some (.own aBm)) o6 o7 o8 o9 none none)).set 10 (some (.sh (lS k)))))=_
  rw[Rl_free]
  rfl
 rw[aAf h10]
 have g1:b2 aAv (look 5) (aEg (look 5) aBu (aBk (con (.int 2)))) (Rl ns ws n rs k (sh1 (.lst aBm)) o6 o7 o8 o9 (some (lS k)) none)=ok (.lst (aBm++aBm.take 2)):=by
  refine aBj (x:= .lst aBm) (y:= .lst (aBm.take 2)) rfl ?_ ?_
  ·show ok (D.lst (L2.PU.cutD aBm none (some ((2:Nat):Int))))=_
   rw[cutD_to]
  ·have:(aBm.take 2).length≤2:=by rw[List.length_take];omega
   show (if aBm.length+(aBm.take 2).length≤100000 then ok (D.lst (aBm++aBm.take 2)) else none)=_
   rw[if_pos (by omega)]
 obtain⟨p7,p9,p11,lp3⟩:=loop3 t (ns:=ns) (ws:=ws) (n:=n) (k:=k) (d5:= .lst aBm) (o6:=o6) (o8:=o8) q1 q2 (aBm++aBm.take 2) o7 o9 none (fun q hq=>by
  rcases List.mem_append.mp hq with hq | hq
  ·exact n3 q hq
  ·exact n3 q (List.mem_of_mem_take hq))
 have f3:=sForE_ok (G:=gN2 9 7) (F:=body3 t) g1 (ds:=aBm++aBm.take 2) rfl
 have fr: ∀(o7 o9 o11:Option D),(if (D.lst (aBm++aBm.take 2)).imm=true then Rl ns ws n rs k (sh1 (.lst aBm)) o6 o7 o8 o9 (some (lS k)) o11 else free (Rl ns ws n rs k (sh1 (.lst aBm)) o6 o7 o8 o9 (some (lS k)) o11))=Rl ns ws n rs k (sh1 (.lst aBm)) o6 o7 o8 o9 (some (lS k)) o11:=fun o7 o9 o11=>by
  split
  ·rfl
  ·rw[Rl_free];rfl
 rw[fr] at f3
 show aAr (aAm (sForE _ (gN2 9 7) (body3 t)) _ (Rl ns ws n rs k (sh1 (.lst aBm)) o6 o7 o8 o9 (some (lS k)) none))=_
 rw[aAf (f3.trans lp3)]
 have g2:aEg (look 5) aBu (aBk (con (.int 4))) (Rl ns ws n rs k (sh1 (.lst aBm)) o6 p7 o8 p9 (some (lS k)) p11)=ok (.lst (aBm.take 4)):=by
  show ok (D.lst (L2.PU.cutD aBm none (some ((4:Nat):Int))))=_
  rw[cutD_to]
 obtain⟨s7,s9,lp4⟩:=loop4 t (ns:=ns) (ws:=ws) (n:=n) (k:=k) (s5:=sh1 (.lst aBm)) (o6:=o6) (o8:=o8) (o10:=some (lS k)) (o11:=p11) q1 q2 (aBm.take 4) p7 p9 (fun q hq=>n3 q (List.mem_of_mem_take hq))
 have f4:=sForE_ok (G:=gN2 9 7) (F:=body4 t) g2 (ds:=aBm.take 4) rfl
 have fr2:(if (D.lst (aBm.take 4)).imm=true then Rl ns ws n rs k (sh1 (.lst aBm)) o6 p7 o8 p9 (some (lS k)) p11 else free (Rl ns ws n rs k (sh1 (.lst aBm)) o6 p7 o8 p9 (some (lS k)) p11))=Rl ns ws n rs k (sh1 (.lst aBm)) o6 p7 o8 p9 (some (lS k)) p11:=by
  split
  ·rfl
  ·rw[Rl_free];rfl
 rw[fr2] at f4
 show aAr (aAm (sForE _ (gN2 9 7) (body4 t)) _ (Rl ns ws n rs k (sh1 (.lst aBm)) o6 p7 o8 p9 (some (lS k)) p11))=_
 rw[aAf (f4.trans lp4)]
 have last:gEqS (lS k) (lS k)=ok (.bl true):=by
  show (match strL (k.map D.str),strL (k.map D.str) with | some x,some y=>ok (D.bl (decide (x=y))) | _,_=>none)=_
  rw[strL_map]
  show ok (D.bl (decide (k=k)))=_
  rw[decide_eq_true rfl]
 rw[aAl (aAz (aBj (x:=lS k) (y:=lS k) rfl rfl last))]
 rfl
section
variable {P:Program} {w:World} {K:PySem.W.Frag} {mg:Str→Option Value} {base:Heap} {t:Adr}
theorem free_ok (X:Txt K mg t) (j:Nat):Def P w K mg base (j+1) "free_names" (fFree t):=ok_free_names X aBv aDt
theorem loose_ok (X:Txt K mg t) (j:Nat):Def P w K mg base (j+1) "_law_loose" (fLoose t):=ok_law_loose X aBv aDt
theorem left_ok (X:Txt K mg t) (j:Nat):Def P w K mg base (j+1) "_law_left" (fLeft t):=ok_law_left X aBv aDt
theorem apart_ok (X:Txt K mg t) (j:Nat):Def P w K mg base (j+2) "are_apart" (fApart t):=ok_are_apart X (free_ok X j) (ok_has_each_once X aBv aDt) aBv aDt
theorem lawA_ok (X:Txt K mg t) (j:Nat):Def P w K mg base (j+2) "_law_are_apart" (fLawA t):=ok_law_are_apart X (loose_ok X j) aBv aDt
theorem greedy_ok (X:Txt K mg t) (j:Nat):Def P w K mg base (j+3) "_law_greedy" (fGreedy t):=ok_law_greedy X (lawA_ok X j) aBv aDt
theorem stream_ok (X:Txt K mg t) (j:Nat):Def P w K mg base (j+1) "_law_stream" (aEe t):=ok_law_stream X aBv aDt
theorem none1_len {n:Nat}: ∀ds r,none1 ds=some r→ds.length=n:=fun ds r h=>by cases h
theorem sa_ok (X:Txt K mg t): ∀n,Def P w K mg base (n+7) "shows" (fSA t n).1∧Def P w K mg base (n+7) "all_show" (fSA t n).2
 | 0=>by
  obtain⟨fd,Fu,bi⟩:=X.aB9
  obtain⟨fd2,Fu2,bi2⟩:=X.aCk
  exact⟨⟨_,_,_,X.g_shows,Fu.kp,bi,none1_len,fn_none fun _=>rfl⟩,⟨_,_,_,X.g_all_show,Fu2.kp,bi2,none1_len,fn_none fun _=>rfl⟩⟩
 | n+1=>by
  obtain⟨h1,h2⟩:=sa_ok X n
  rw[fSA]
  exact⟨ok_shows X (k:=n+7) h2 (apart_ok X (n+5)) (free_ok X (n+6)) aBv aDt,ok_all_show X (k:=n+7) h1 (ok_without X (k:=n+6) aBv aDt) aBv aDt⟩
theorem shown_ok (X:Txt K mg t): ∀n,Def P w K mg base (n+20) "_law_shown" (fShown t n)
 | 0=>by
  obtain⟨fd,Fu,bi⟩:=X.aAy
  exact⟨_,_,_,X.g_law_shown,Fu.kp,bi,none1_len,fn_none fun _=>rfl⟩
 | n+1=>by
  rw[fShown]
  exact ok_law_shown X (k:=n+20) (lawA_ok X (n+18)) (left_ok X (n+19)) (loose_ok X (n+19)) (shown_ok X n) aBv aDt
theorem build_ok (X:Txt K mg t): ∀n,Def P w K mg base (n+21) "_law_build" (fBuild t n)
 | 0=>by
  obtain⟨fd,Fu,bi⟩:=X.aA5
  exact⟨_,_,_,X.g_law_build,Fu.kp,bi,none1_len,fn_none fun _=>rfl⟩
 | n+1=>by
  rw[fBuild]
  exact ok_law_build X (k:=n+21) (build_ok X n) (greedy_ok X (n+18)) (left_ok X (n+20)) (loose_ok X (n+20)) aBv aDt
theorem spoil_ok (X:Txt K mg t): ∀n,Def P w K mg base (n+21) "_law_spoiled" (fSpoil t n)
 | 0=>by
  obtain⟨fd,Fu,bi⟩:=X.aAu
  exact⟨_,_,_,X.g_law_spoiled,Fu.kp,bi,none1_len,fn_none fun _=>rfl⟩
 | n+1=>by
  rw[fSpoil]
  exact ok_law_spoiled X (k:=n+21) (ok_law_other_apart X (k:=n+20) aBv aDt) (spoil_ok X n) aBv aDt
theorem law_fn (X:Txt K mg t) {fd:FuncData} (Fu:Fun K "law" "law" s_law t.f_law fd):FnD P w K mg base 35 t.f_law fd ["_law_script"] (tt sLawS):=
 fnd_law X Fu (k:=34) (build_ok X 13) (ok_law_cell_at X (k:=33) fAt_len (at_den N_law_cell_at rfl)) (ok_law_fast X (k:=33) (stream_ok X 32) aBv aDt)
  (ok_law_reasons X (k:=33) (ok_law_least X (k:=32) aBv aDt) (stream_ok X 32) aBv aDt) (shown_ok X 14) (spoil_ok X 13) (stream_ok X 33) (ok_law_words X (k:=33) (stream_ok X 32) aBv aDt) (sa_ok X 27).1
  (by intro ds r h;obtain⟨ns,rfl,_⟩:=(tt_inv h).1;rfl) (law_den t)
end
end K71
namespace K71
open PySem PySem.W L2 L2.HD
noncomputable def frag:Params→Frag:=fun P=>
 (nat_lit 2,⟨.none,none,.dict #[] 0,#[]⟩)::
 (nat_lit 3,od 30 [de P "__name__" 165 (vs "law_whence_k71_shows" 238),
  de P "__doc__" 166 .none,
  de P "__package__" 167 .none,
  de P "__loader__" 168 (.builtin "__main__.__loader__#opaque"),
  de P "__spec__" 169 .none,
  de P "__annotations__" 170 (.ref 6),
  de P "__builtins__" 171 (.ref 4),
  de P "__file__" 173 (vs "/claim/cut.py" 172),
  de P "__cached__" 174 .none,
  de P "shows" 201 (.ref 21),
  de P "are_apart" 212 (.ref 28),
  de P "has_each_once" 219 (.ref 35),
  de P "all_show" 225 (.ref 40),
  de P "free_names" 231 (.ref 45),
  de P "without" 237 (.ref 50),
  de P "_law_cell_at" 247 (.ref 57),
  de P "_law_stream" 258 (.ref 64),
  de P "_law_words" 272 (.ref 71),
  de P "_law_least" 278 (.ref 76),
  de P "_law_loose" 284 (.ref 81),
  de P "_law_left" 290 (.ref 86),
  de P "_law_are_apart" 296 (.ref 91),
  de P "_law_shown" 308 (.ref 98),
  de P "_law_reasons" 314 (.ref 103),
  de P "_law_fast" 320 (.ref 108),
  de P "_law_greedy" 332 (.ref 115),
  de P "_law_build" 348 (.ref 122),
  de P "_law_other_apart" 359 (.ref 129),
  de P "_law_spoiled" 373 (.ref 136),
  de P "law" 391 (.ref 143)])::
 (nat_lit 20,oc "shows" 189 "shows" 190 191 2 4 3 [(.ref 15),(.bool true),(vi 181),(.ref 16),.none,(.ref 17),(.ref 18),(.ref 19)] 199 2 200)::
 (nat_lit 21,of "shows" "shows" (top 1) "whence.cuts" 187 20)::
 (nat_lit 27,oc "are_apart" 202 "are_apart" 203 204 13 3 3 [(.ref 22),(.bool true),(vi 181),(.ref 23),.none,(.ref 24),(.ref 25),(.ref 26)] 210 13 211)::
 (nat_lit 28,of "are_apart" "are_apart" (top 2) "whence.cuts" 187 27)::
 (nat_lit 34,oc "has_each_once" 213 "has_each_once" 214 215 18 1 3 [(.ref 29),(.bool true),(vi 181),(.ref 30),.none,(.ref 31),(.ref 32),(.ref 33)] 217 18 218)::
 (nat_lit 35,of "has_each_once" "has_each_once" (top 3) "whence.cuts" 187 34)::
 (nat_lit 39,oc "all_show" 220 "all_show" 221 222 20 5 3 [(.ref 36),(.bool true),(vi 181),(.ref 37),.none,.none,.none,(.ref 38)] 223 20 224)::
 (nat_lit 40,of "all_show" "all_show" (top 4) "whence.cuts" 187 39)::
 (nat_lit 44,oc "free_names" 226 "free_names" 227 228 23 2 3 [(.ref 41),(.bool true),(vi 181),(.ref 42),.none,.none,.none,(.ref 43)] 229 23 230)::
 (nat_lit 45,of "free_names" "free_names" (top 5) "whence.cuts" 187 44)::
 (nat_lit 49,oc "without" 232 "without" 233 234 25 2 3 [(.ref 46),(.bool true),(vi 181),(.ref 47),.none,.none,.none,(.ref 48)] 235 25 236)::
 (nat_lit 50,of "without" "without" (top 6) "whence.cuts" 187 49)::
 (nat_lit 56,oc "_law_cell_at" 240 "_law_cell_at" 241 242 28 2 3 [(.ref 51),(.bool true),(vi 181),(.ref 52),.none,(.ref 53),(.ref 54),(.ref 55)] 245 28 246)::
 (nat_lit 57,of "_law_cell_at" "_law_cell_at" (top 8) "law_whence_k71_shows" 238 56)::
 (nat_lit 63,oc "_law_stream" 248 "_law_stream" 249 250 32 2 3 [(.ref 58),(.bool true),(vi 181),(.ref 59),.none,(.ref 60),(.ref 61),(.ref 62)] 256 32 257)::
 (nat_lit 64,of "_law_stream" "_law_stream" (top 9) "law_whence_k71_shows" 238 63)::
 (nat_lit 70,oc "_law_words" 259 "_law_words" 260 261 39 2 3 [(.ref 65),(.bool true),(vi 181),(.ref 66),.none,(.ref 67),(.ref 68),(.ref 69)] 270 39 271)::
 (nat_lit 71,of "_law_words" "_law_words" (top 10) "law_whence_k71_shows" 238 70)::
 (nat_lit 75,oc "_law_least" 273 "_law_least" 274 275 52 1 3 [(.ref 72),(.bool true),(vi 181),(.ref 73),.none,.none,.none,(.ref 74)] 276 52 277)::
 (nat_lit 76,of "_law_least" "_law_least" (top 11) "law_whence_k71_shows" 238 75)::
 (nat_lit 80,oc "_law_loose" 279 "_law_loose" 280 281 60 2 3 [(.ref 77),(.bool true),(vi 181),(.ref 78),.none,.none,.none,(.ref 79)] 282 60 283)::
 (nat_lit 81,of "_law_loose" "_law_loose" (top 12) "law_whence_k71_shows" 238 80)::
 (nat_lit 85,oc "_law_left" 285 "_law_left" 286 287 62 2 3 [(.ref 82),(.bool true),(vi 181),(.ref 83),.none,.none,.none,(.ref 84)] 288 62 289)::
 (nat_lit 86,of "_law_left" "_law_left" (top 13) "law_whence_k71_shows" 238 85)::
 (nat_lit 90,oc "_law_are_apart" 291 "_law_are_apart" 292 293 64 3 3 [(.ref 87),(.bool true),(vi 181),(.ref 88),.none,.none,.none,(.ref 89)] 294 64 295)::
 (nat_lit 91,of "_law_are_apart" "_law_are_apart" (top 14) "law_whence_k71_shows" 238 90)::
 (nat_lit 97,oc "_law_shown" 297 "_law_shown" 298 299 72 4 3 [(.ref 92),(.bool true),(vi 181),(.ref 93),.none,(.ref 94),(.ref 95),(.ref 96)] 306 72 307)::
 (nat_lit 98,of "_law_shown" "_law_shown" (top 15) "law_whence_k71_shows" 238 97)::
 (nat_lit 102,oc "_law_reasons" 309 "_law_reasons" 310 311 86 3 3 [(.ref 99),(.bool true),(vi 181),(.ref 100),.none,.none,.none,(.ref 101)] 312 86 313)::
 (nat_lit 103,of "_law_reasons" "_law_reasons" (top 16) "law_whence_k71_shows" 238 102)::
 (nat_lit 107,oc "_law_fast" 315 "_law_fast" 316 317 92 2 3 [(.ref 104),(.bool true),(vi 181),(.ref 105),.none,.none,.none,(.ref 106)] 318 92 319)::
 (nat_lit 108,of "_law_fast" "_law_fast" (top 17) "law_whence_k71_shows" 238 107)::
 (nat_lit 114,oc "_law_greedy" 321 "_law_greedy" 322 323 97 3 3 [(.ref 109),(.bool true),(vi 181),(.ref 110),.none,(.ref 111),(.ref 112),(.ref 113)] 330 97 331)::
 (nat_lit 115,of "_law_greedy" "_law_greedy" (top 18) "law_whence_k71_shows" 238 114)::
 (nat_lit 121,oc "_law_build" 333 "_law_build" 334 335 104 4 3 [(.ref 116),(.bool true),(vi 181),(.ref 117),.none,(.ref 118),(.ref 119),(.ref 120)] 346 104 347)::
 (nat_lit 122,of "_law_build" "_law_build" (top 19) "law_whence_k71_shows" 238 121)::
 (nat_lit 128,oc "_law_other_apart" 349 "_law_other_apart" 350 351 119 3 3 [(.ref 123),(.bool true),(vi 181),(.ref 124),.none,(.ref 125),(.ref 126),(.ref 127)] 357 119 358)::
 (nat_lit 129,of "_law_other_apart" "_law_other_apart" (top 20) "law_whence_k71_shows" 238 128)::
 (nat_lit 135,oc "_law_spoiled" 360 "_law_spoiled" 361 362 131 3 3 [(.ref 130),(.bool true),(vi 181),(.ref 131),.none,(.ref 132),(.ref 133),(.ref 134)] 371 131 372)::
 (nat_lit 136,of "_law_spoiled" "_law_spoiled" (top 21) "law_whence_k71_shows" 238 135)::
 (nat_lit 142,oc "law" 374 "law" 375 376 147 1 3 [(.ref 137),(.bool true),(vi 181),(.ref 138),.none,(.ref 139),(.ref 140),(.ref 141)] 389 147 390)::
 (nat_lit 143,of "law" "law" (top 22) "law_whence_k71_shows" 238 142)::[]
noncomputable def fas:List Addr:=[2,3,20,21,27,28,34,35,39,40,44,45,49,50,56,57,63,64,70,71,75,76,80,81,85,86,90,91,97,98,102,103,107,108,114,115,121,122,128,129,135,136,142,143]
theorem fas_ok: ∀P,fas=(frag P).map (·.1):=fun P=>by kernel_rfl
noncomputable def vw:Program:=view PySem.Challenge.pw_whence_k71_shows [1,2,3,4,5,6,8,9,10,11,12,13,14,15,16,17,18,19,20,21,22]
noncomputable abbrev hook:Hook:=kHook frag fas fas_ok
set_option maxHeartbeats 0 in
theorem left:LeftO PySem.Challenge.pw_whence_k71_shows vw [] (fun s=>xlAt vw [] s&&recOk (RowW.records PySem.Challenge.rw_whence_k71_shows.row.toRowW) s) (Hook.obs hook) (Hook.val hook) 1452:=by
 refine left_of (boot_open (by kernel_rfl) (by decide+kernel) (fun s=>by kernel_rfl)) fun w=> ?_
 rw[Fast.te5923862056798008813,Fast.te4187177175401517315,Fast.te6613529449190102663,Fast.te10156331382660048174,Fast.te11892475500146522536,Fast.te14364793385576792824]
 kernel_rfl
noncomputable def adr:Adr:={f_shows:=21,f_are_apart:=28,aC5:=35,f_all_show:=40,f_free_names:=45,f_without:=50,aD4:=57,f_law_stream:=64,f_law_words:=71,f_law_least:=76,f_law_loose:=81,f_law_left:=86,aC4:=91,f_law_shown:=98,aD3:=103,f_law_fast:=108,f_law_greedy:=115,f_law_build:=122,aCi:=129,aD2:=136,f_law:=143}
set_option maxHeartbeats 0 in
theorem txt {P:Params} {h:Heap} {mg:Str→Option Value} (X:(frag P).In h) (G:h.Ns mainGlobals mg):Txt (frag P) mg adr where
 aB9:=fo (m:="whence.cuts") (mt:=187) (c:=20) ["tree","reasons","budget","kept"] (by kernel_rfl) (by kernel_rfl) (by kernel_rfl) fun _ _ _ _ _ _ us hl=>by obtain⟨_,_,_,_,rfl⟩:=PU.ar4 us hl;rfl
 g_shows:=mg_of X G (by kernel_rfl)
 aCc:=fo (m:="whence.cuts") (mt:=187) (c:=27) ["some","reasons","kept"] (by kernel_rfl) (by kernel_rfl) (by kernel_rfl) fun _ _ _ _ _ _ us hl=>by obtain⟨_,_,_,rfl⟩:=PU.ar3 us hl;rfl
 g_are_apart:=mg_of X G (by kernel_rfl)
 aA9:=fo (m:="whence.cuts") (mt:=187) (c:=34) ["things"] (by kernel_rfl) (by kernel_rfl) (by kernel_rfl) fun _ _ _ _ _ _ us hl=>by obtain⟨_,rfl⟩:=PU.ar1 us hl;rfl
 g_has_each_once:=mg_of X G (by kernel_rfl)
 aCk:=fo (m:="whence.cuts") (mt:=187) (c:=39) ["cases","names","reasons","budget","kept"] (by kernel_rfl) (by kernel_rfl) (by kernel_rfl) fun _ _ _ _ _ _ us hl=>by obtain⟨_,_,_,_,_,rfl⟩:=PU.ar5 us hl;rfl
 g_all_show:=mg_of X G (by kernel_rfl)
 aA0:=fo (m:="whence.cuts") (mt:=187) (c:=44) ["reason","kept"] (by kernel_rfl) (by kernel_rfl) (by kernel_rfl) fun _ _ _ _ _ _ us hl=>by obtain⟨_,_,rfl⟩:=PU.ar2 us hl;rfl
 g_free_names:=mg_of X G (by kernel_rfl)
 aDk:=fo (m:="whence.cuts") (mt:=187) (c:=49) ["name","reasons"] (by kernel_rfl) (by kernel_rfl) (by kernel_rfl) fun _ _ _ _ _ _ us hl=>by obtain⟨_,_,rfl⟩:=PU.ar2 us hl;rfl
 g_without:=mg_of X G (by kernel_rfl)
 aBb:=fo (m:="law_whence_k71_shows") (mt:=238) (c:=56) ["_law_script","_law_k"] (by kernel_rfl) (by kernel_rfl) (by kernel_rfl) fun _ _ _ _ _ _ us hl=>by obtain⟨_,_,rfl⟩:=PU.ar2 us hl;rfl
 g_law_cell_at:=mg_of X G (by kernel_rfl)
 aAk:=fo (m:="law_whence_k71_shows") (mt:=238) (c:=63) ["_law_cell","_law_many"] (by kernel_rfl) (by kernel_rfl) (by kernel_rfl) fun _ _ _ _ _ _ us hl=>by obtain⟨_,_,rfl⟩:=PU.ar2 us hl;rfl
 g_law_stream:=mg_of X G (by kernel_rfl)
 aCa:=fo (m:="law_whence_k71_shows") (mt:=238) (c:=70) ["_law_cell","_law_many"] (by kernel_rfl) (by kernel_rfl) (by kernel_rfl) fun _ _ _ _ _ _ us hl=>by obtain⟨_,_,rfl⟩:=PU.ar2 us hl;rfl
 g_law_words:=mg_of X G (by kernel_rfl)
 aCb:=fo (m:="law_whence_k71_shows") (mt:=238) (c:=75) ["_law_some"] (by kernel_rfl) (by kernel_rfl) (by kernel_rfl) fun _ _ _ _ _ _ us hl=>by obtain⟨_,rfl⟩:=PU.ar1 us hl;rfl
 g_law_least:=mg_of X G (by kernel_rfl)
 aAq:=fo (m:="law_whence_k71_shows") (mt:=238) (c:=80) ["_law_reason","_law_fast_here"] (by kernel_rfl) (by kernel_rfl) (by kernel_rfl) fun _ _ _ _ _ _ us hl=>by obtain⟨_,_,rfl⟩:=PU.ar2 us hl;rfl
 g_law_loose:=mg_of X G (by kernel_rfl)
 aBf:=fo (m:="law_whence_k71_shows") (mt:=238) (c:=85) ["_law_reasons_here","_law_name"] (by kernel_rfl) (by kernel_rfl) (by kernel_rfl) fun _ _ _ _ _ _ us hl=>by obtain⟨_,_,rfl⟩:=PU.ar2 us hl;rfl
 g_law_left:=mg_of X G (by kernel_rfl)
 aAo:=fo (m:="law_whence_k71_shows") (mt:=238) (c:=90) ["_law_some","_law_reasons_here","_law_fast_here"] (by kernel_rfl) (by kernel_rfl) (by kernel_rfl) fun _ _ _ _ _ _ us hl=>by obtain⟨_,_,_,rfl⟩:=PU.ar3 us hl;rfl
 g_law_are_apart:=mg_of X G (by kernel_rfl)
 aAy:=fo (m:="law_whence_k71_shows") (mt:=238) (c:=97) ["_law_tree","_law_reasons_here","_law_budget","_law_fast_here"] (by kernel_rfl) (by kernel_rfl) (by kernel_rfl) fun _ _ _ _ _ _ us hl=>by obtain⟨_,_,_,_,rfl⟩:=PU.ar4 us hl;rfl
 g_law_shown:=mg_of X G (by kernel_rfl)
 aBp:=fo (m:="law_whence_k71_shows") (mt:=238) (c:=102) ["_law_cells","_law_names","_law_most"] (by kernel_rfl) (by kernel_rfl) (by kernel_rfl) fun _ _ _ _ _ _ us hl=>by obtain⟨_,_,_,rfl⟩:=PU.ar3 us hl;rfl
 g_law_reasons:=mg_of X G (by kernel_rfl)
 aCw:=fo (m:="law_whence_k71_shows") (mt:=238) (c:=107) ["_law_cell","_law_names"] (by kernel_rfl) (by kernel_rfl) (by kernel_rfl) fun _ _ _ _ _ _ us hl=>by obtain⟨_,_,rfl⟩:=PU.ar2 us hl;rfl
 g_law_fast:=mg_of X G (by kernel_rfl)
 aB2:=fo (m:="law_whence_k71_shows") (mt:=238) (c:=114) ["_law_reasons_here","_law_fast_here","_law_number"] (by kernel_rfl) (by kernel_rfl) (by kernel_rfl) fun _ _ _ _ _ _ us hl=>by obtain⟨_,_,_,rfl⟩:=PU.ar3 us hl;rfl
 g_law_greedy:=mg_of X G (by kernel_rfl)
 aA5:=fo (m:="law_whence_k71_shows") (mt:=238) (c:=121) ["_law_reasons_here","_law_budget","_law_fast_here","_law_number"] (by kernel_rfl) (by kernel_rfl) (by kernel_rfl) fun _ _ _ _ _ _ us hl=>by obtain⟨_,_,_,_,rfl⟩:=PU.ar4 us hl;rfl
 g_law_build:=mg_of X G (by kernel_rfl)
 aA7:=fo (m:="law_whence_k71_shows") (mt:=238) (c:=128) ["_law_some","_law_reasons_here","_law_number"] (by kernel_rfl) (by kernel_rfl) (by kernel_rfl) fun _ _ _ _ _ _ us hl=>by obtain⟨_,_,_,rfl⟩:=PU.ar3 us hl;rfl
 g_law_other_apart:=mg_of X G (by kernel_rfl)
 aAu:=fo (m:="law_whence_k71_shows") (mt:=238) (c:=135) ["_law_tree","_law_reasons_here","_law_number"] (by kernel_rfl) (by kernel_rfl) (by kernel_rfl) fun _ _ _ _ _ _ us hl=>by obtain⟨_,_,_,rfl⟩:=PU.ar3 us hl;rfl
 g_law_spoiled:=mg_of X G (by kernel_rfl)
 F_law:=fo (m:="law_whence_k71_shows") (mt:=238) (c:=142) ["_law_script"] (by kernel_rfl) (by kernel_rfl) (by kernel_rfl) fun _ _ _ _ _ _ us hl=>by obtain⟨_,rfl⟩:=PU.ar1 us hl;rfl
 g_law:=mg_of X G (by kernel_rfl)
 b_all:=mg_none_of X G (by kernel_rfl)
 b_bool:=mg_none_of X G (by kernel_rfl)
 b_isinstance:=mg_none_of X G (by kernel_rfl)
 b_len:=mg_none_of X G (by kernel_rfl)
 b_list:=mg_none_of X G (by kernel_rfl)
 b_min:=mg_none_of X G (by kernel_rfl)
 b_range:=mg_none_of X G (by kernel_rfl)
 b_set:=mg_none_of X G (by kernel_rfl)
 b_sorted:=mg_none_of X G (by kernel_rfl)
 b_tuple:=mg_none_of X G (by kernel_rfl)
 b_zip:=mg_none_of X G (by kernel_rfl)
end K71
namespace K71
open PySem PySem.Spec PyProof.Rows L2 L2.PU
noncomputable def spLaw (K:PySem.W.Frag):Sp:=fun vs H Q _=> ∃(a:Addr) (ns:List Int),vs=[.ref a]∧SqL K H a (ns.map V.int)∧ns.length≤63∧∀H',Q (.bl true) H'
theorem walk {l:PySem.W.OpenLaw} {q:Program} {loose:List Str} {XP:(Str→Option Value)→Heap→Prop} {YP:World→Heap→Prop} {d:DefRec} {K:Params→PySem.W.Frag} (hn:l.most=some 63) (hdf:d.params.defaults=[]) (hnm:d.name="law")
  (hY: ∀(w:World) (h:Heap),YP w h→(K w.params).In h)
  (T: ∀(w:World) (mg:Str→Option Value) (h:Heap),(K w.params).In h→h.Ns mainGlobals mg→∃t,Txt (K w.params) mg t):
  PySem.W.WalkO q loose XP YP l.row.toRowW d [] (fun f vs=>PySem.call f vs):=by
 refine L2.walk_of (n:=63) (k:=35) (x:="_law_script") (CX:=fun w=>CXD l.prog w) (sp:=fun w=>spLaw (K w.params)) hn (by decide) hdf ⟨rfl,by decide,by decide⟩ hY (fun w mg fa h KX G hmg=> ?_) (fun _ _ a ns hl _ hS=>⟨a,ns,rfl,hS,hl,fun _=>rfl⟩) (fun w H s e s' ⟨_,_,_,_,_,_,_,_,z⟩=>z)
 obtain⟨t,T⟩:=T w mg h KX G
 have e:=hmg.symm.trans ((congrArg mg hnm).trans T.g_law)
 cases e
 obtain⟨fd,Fu,bi⟩:=T.F_law
 refine⟨fd,fun s v=> ?_,fun base _ _=> ?_⟩
 ·obtain⟨oc,od,kV,doc,pm,an,cdv,ct,osl,rfl,lk,hcd⟩:=Fu.ex
  exact .of_eq rfl
 ·refine (law_fn (P:=l.prog) (w:=w) (base:=base) T Fu).imp fun vs H Q E ⟨a,ns,e1,hS,hl,q⟩=> ?_
  subst e1
  refine⟨[.lst (ns.map D.int)],.cons (.lst hS (isL_ints ns)) .nil,rfl,?_⟩
  rw[tt_ok (show sLawS _ from⟨ns,rfl,hl⟩)]
  intro v H' s' i'
  cases i'
  exact q H'
end K71
open PySem PySem.W PyProof.Rows
set_option maxRecDepth 100000 in
set_option maxHeartbeats 0 in
theorem PySem.Challenge.cw_whence_k71_shows_holds : PySem.Challenge.rw_whence_k71_shows.Holds := by
 w_on;o_law
 refine L2.HD.holds_of (l:=PySem.Challenge.rw_whence_k71_shows) (q:=K71.vw) K71.left (by first | assumption | decide+kernel) (by rfl) (by rfl) (by rfl) (by rfl) (by decide+kernel) ⟨rfl,rfl,rfl,rfl,rfl,by decide+kernel⟩ ?hw ?hc
 (case hw=>w_witness2)
 exact K71.walk (l:=PySem.Challenge.rw_whence_k71_shows) rfl rfl rfl (fun w h Y=>PySem.W.kIn_of Y) fun w mg h KX G=>⟨_,K71.txt KX G⟩
