import PyProof.Rows.All
import Wide.All
import OpenK.AllK
import Wide.FinOn
import Lean
import PyProof.EqAt
import PyProof.EqKinds
import PyProof.TupleCall
import PySem.Challenge.RW_whence_k12_least_reasons
set_option Elab.async false
set_option linter.all false
set_option bootstrap.genMatcherCode false
set_option maxRecDepth 100000
namespace L2
open PySem PySem.Spec PyProof.Rows
noncomputable abbrev Key:=Sum Int Str
noncomputable def keyIs:Key→Value→Bool
 | .inl k,v=>Value.isInt k v
 | .inr x,v=>Value.isStrOf x v
noncomputable def keyH (w:World):Key→Int
 | .inl k=>hashInt k
 | .inr x=>hashStr w x
theorem aBu: ∀{k:Key} {v:Value},keyIs k v=true→(∃i t,k=Sum.inl i∧v=Value.int i t)∨(∃x t,k=Sum.inr x∧v=Value.str x t)
 | .inl i,v,h=>by
  obtain⟨t,e⟩:=Value.isInt_shape (k:=i) (v:=v) h
  exact .inl ⟨i,t,rfl,e⟩
 | .inr x,v,h=>by
  obtain⟨t,e⟩:=Value.isStrOf_shape (x:=x) (v:=v) h
  exact .inr ⟨x,t,rfl,e⟩
theorem keyIs_int (i:Int) (t:Tok):keyIs (.inl i) (.int i t)=true:=by simp[keyIs,Value.isInt]
theorem keyIs_str (x:Str) (t:Tok):keyIs (.inr x) (.str x t)=true:=by simp[keyIs,Value.isStrOf]
theorem key_ll (a b:Int):decide ((Sum.inl a:Key)=Sum.inl b)=(a==b):=by
 by_cases e:a=b
 ·subst e;simp
 ·have h:¬(Sum.inl a:Key)=Sum.inl b:=fun q=>e (Sum.inl.inj q)
  rw[decide_eq_false h]
  exact (beq_eq_false_iff_ne.mpr e).symm
theorem key_rr (a b:Str):decide ((Sum.inr a:Key)=Sum.inr b)=decide (a=b):=by
 by_cases e:a=b
 ·subst e;simp
 ·have h:¬(Sum.inr a:Key)=Sum.inr b:=fun q=>e (Sum.inr.inj q)
  rw[decide_eq_false h,decide_eq_false e]
theorem key_lr (a:Int) (b:Str):decide ((Sum.inl a:Key)=Sum.inr b)=false:=decide_eq_false (fun q=>nomatch q)
theorem key_rl (a:Str) (b:Int):decide ((Sum.inr a:Key)=Sum.inl b)=false:=decide_eq_false (fun q=>nomatch q)
noncomputable def aBh (prog:Program) (w:World):PySem.KeyKind prog w Key where
 is:=keyIs
 hash:=keyH w
 inj:=fun v a b ha hb=>by
  rcases aBu ha with⟨i,t,rfl,rfl⟩ |⟨x,t,rfl,rfl⟩
  ·rcases aBu hb with⟨j,u,rfl,e⟩ |⟨y,u,rfl,e⟩
   ·injection e with e1 _;rw[e1]
   ·exact nomatch e
  ·rcases aBu hb with⟨j,u,rfl,e⟩ |⟨y,u,rfl,e⟩
   ·exact nomatch e
   ·injection e with e1 _;rw[e1]
 byValue:=fun k v h=>by
  rcases aBu h with⟨i,t,rfl,rfl⟩ |⟨x,t,rfl,rfl⟩<;>rfl
 pyHash:=fun hv h=>by
  rcases aBu hv with⟨i,t,rfl,rfl⟩ |⟨x,t,rfl,rfl⟩
  ·exact wpAny_pyHash_int h
  ·exact wpAny_pyHash_str h
 eqBool:=fun hu hv h=>by
  rcases aBu hu with⟨i,t,rfl,rfl⟩ |⟨x,t,rfl,rfl⟩
  ·rcases aBu hv with⟨j,u,rfl,rfl⟩ |⟨y,u,rfl,rfl⟩
   ·rw[key_ll] at h;exact wpAny_eqBool_int h
   ·rw[key_lr] at h;exact SeqAt.EqAt.int_str i t y u _ _ _ _ h
  ·rcases aBu hv with⟨j,u,rfl,rfl⟩ |⟨y,u,rfl,rfl⟩
   ·rw[key_rl] at h;exact SeqAt.EqAt.str_int x t j u _ _ _ _ h
   ·rw[key_rr] at h;exact wpAny_eqBool_str h
 «strs»:=fun k x t v h=>by
  rcases aBu h with⟨i,u,rfl,e⟩ |⟨y,u,rfl,e⟩
  ·exact nomatch e
  ·injection e with e1 _
   subst e1
   cases v<;>rfl
theorem mixKind_int (prog:Program) (w:World) (i:Int) (t:Tok):(aBh prog w).is (.inl i) (.int i t)=true:=keyIs_int i t
theorem mixKind_str (prog:Program) (w:World) (x:Str) (t:Tok):(aBh prog w).is (.inr x) (.str x t)=true:=keyIs_str x t
inductive V where
 | non | bl (b:Bool) | int (i:Int) | str (x:Str) | byt (b:Array UInt8) | flt (b:UInt64) | ref (a:Addr) | ty (n:String)
 deriving DecidableEq
noncomputable def RelV:V→Value→Prop
 | .non,u=>u=Value.none
 | .bl b,u=>u=Value.bool b
 | .int i,u=> ∃t,u=Value.int i t
 | .str x,u=> ∃t,u=Value.str x t
 | .byt b,u=> ∃t,u=Value.bytes b t
 | .flt b,u=> ∃t,u=Value.float b t
 | .ref a,u=>u=Value.ref a
 | .ty n,u=>u=Value.type n
noncomputable abbrev Vals:List V→List Value→Prop:=Paired RelV
theorem Vals.length {xs:List V} {us:List Value} (r:Vals xs us):xs.length=us.length:=Paired.length r
theorem Vals.get: ∀{xs:List V} {us:List Value} {i:Nat} {x:V},Vals xs us→xs[i]? =some x→∃u,us[i]? =some u∧RelV x u
 | _,_,_,_,.nil,e=>by simp at e
 | _,_,0,_,.cons r _,e=>by simp at e;subst e;exact⟨_,rfl,r⟩
 | _,_,i+1,x,.cons _ t,e=>by
  obtain⟨u,h1,h2⟩:=Vals.get (i:=i) (x:=x) t (by simpa using e)
  exact⟨u,by simpa using h1,h2⟩
theorem Vals.append: ∀{xs ys:List V} {us ws:List Value},Vals xs us→Vals ys ws→Vals (xs++ys) (us++ws)
 | _,_,_,_,.nil,s=>s
 | _,_,_,_,.cons r t,s=> .cons r (Vals.append t s)
theorem Vals.take: ∀{xs:List V} {us:List Value} (n:Nat),Vals xs us→Vals (xs.take n) (us.take n)
 | _,_,0,_=> .nil
 | _,_,_+1,.nil=> .nil
 | _,_,n+1,.cons r t=> .cons r (Vals.take n t)
theorem Vals.drop: ∀{xs:List V} {us:List Value} (n:Nat),Vals xs us→Vals (xs.drop n) (us.drop n)
 | _,_,0,r=>r
 | _,_,_+1,.nil=> .nil
 | _,_,n+1,.cons _ t=>Vals.drop n t
noncomputable def RelO:Option V→Option Value→Prop
 | some v,some u=>RelV v u
 | none,none=>True
 | _,_=>False
noncomputable def KV {κ:Type}:List (κ×V)→List (κ×Value)→Prop:=Paired fun (p:κ×V) (q:κ×Value)=>p.1=q.1∧RelV p.2 q.2
noncomputable def kV:Key→V
 | .inl i=> .int i
 | .inr x=> .str x
inductive HO where
 | lst (xs:List V)
 | tup (xs:List V)
 | dK (kvs:List (Key×V)) | dT (kvs:List (List Key×V))
 | set (S:Str→Bool) (n:Nat)
 | ins (C dx:Addr) (fs:List (Str×V))
 | own (x:Addr)
 | xd (fs:List (Str×V))
 | met (f x:Addr)
 | rng (lo hi:Int)
 | frz (o:Obj) (u:HO)
 | tbl (ps:Array Value)
 | ext (φ:Heap→Prop)
noncomputable abbrev Hp:=Addr→Option HO
noncomputable def upd (H:Hp) (a:Addr) (o:HO):Hp:=fun b=>if b=a then some o else H b
theorem aAi {H:Hp} {a:Addr} {o:HO}:upd H a o a=some o:=by unfold upd;rw[if_pos rfl]
theorem aAk {H:Hp} {a b:Addr} {o:HO} (h:b≠a):upd H a o b=H b:=by unfold upd;rw[if_neg h]
theorem ne_of {H:Hp} {a b:Addr} {o u:HO} (h:H a=some o) (h':H b=some u) (d:o≠u):a≠b:=by
 intro e;subst e;rw[h] at h';exact d (Option.some.inj h')
theorem aCc {H:Hp} {a b:Addr} {o:HO} (h:H a=some o) (h':H b=none):a≠b:=by
 intro e;subst e;rw[h] at h';cases h'
noncomputable def TxtO (w:World) (o:Obj):Prop:= ∃es ep t,o.data= .set es ep t∧(w.params.followText "set-order"=true∨t.led=true)∧(es.size=0∨t.plain=false)
noncomputable def Txts (w:World) (h:Heap) (a:Addr):Prop:= ∃o,h.get? a=some o∧TxtO w o
noncomputable def TupD (h:Heap) (a:Addr) (its:Array Value):Prop:= ∃o,h.get? a=some o∧o.cls= .type "tuple"∧(∃n,o.data= .seq its n)∧o.dict=none
theorem TupD.tup {h:Heap} {a:Addr} {its:Array Value} (x:TupD h a its):IsTup h a its:=let ⟨o,e,c,d,_⟩:=x;⟨o,e,c,d⟩
theorem TupD.lt {h:Heap} {a:Addr} {its:Array Value} (x:TupD h a its):a<h.objs.size:=let ⟨_,e,_⟩:=x;Heap.lt_size e
theorem TupD.new (h:Heap) (its:Array Value):TupD (h.push {cls:= .type "tuple",data:= .seq its}) h.objs.size its:=⟨_,Heap.get?_push_size _ rfl,rfl,⟨_,rfl⟩,rfl⟩
section
variable (P:Program) (w:World)
noncomputable def aBw (H:Hp) (h:Heap) (a:Addr):HO→Prop
 | .lst xs=>xs.length≤sizeLine∧∃(its:List Value) (n:Nat),Vals xs its∧h.get? a=some {cls:= .type "list",data:= .seq its.toArray n}
 | .tup xs=>xs.length≤sizeLine∧∃its:List Value,Vals xs its∧TupD h a its.toArray
 | .dK kvs=>kvs.length≤sizeLine∧(a==sysModules)=false∧∃vs,KV kvs vs∧h.DictOf (aBh P w) a vs
 | .dT kvs=>kvs.length≤sizeLine∧(a==sysModules)=false∧∃xs:List (List Key×Addr×Value),
   Paired (fun (p:List Key×V) (q:List Key×Addr×Value)=>p.1=q.1∧H q.2.1=some (.tup (p.1.map kV))∧RelV p.2 q.2.2) kvs xs∧
   ∃o es ep,h.get? a=some o∧o.ExactDict∧o.data= .dict es ep∧es.toList=xs.map (entryOfKey (tupleKind (aBh P w)))∧(xs.map (·.1)).Nodup
 | .set S n=>h.SetOf (PySem.strKind P w) a S n∧Txts w h a
 | .ins C dx fs=>H dx=some (.own a)∧fs.length≤1000∧dx≠a∧h.get? a=some (PySem.W.instObj C dx)∧
   ∃mA,h.Ns1 dx mA∧(∀f,RelO (fs.lookup f) (mA f))∧PySem.Within mA (fs.map (·.1))
 | .own _=> ∃o,h.get? a=some o
 | .xd fs=> ∃mA,h.Ns1 a mA∧∀f,RelO (fs.lookup f) (mA f)
 | .rng lo hi=> ∃t u v,h.get? a=some {cls:= .type "range",data:= .fields #[.int lo t,.int hi u,.int 1 v]}
 | .frz o u=>h.get? a=some o∧aBw H h a u
 | .tbl ps=>h.get? a=some {cls:= .none,data:= .fields ps}
 | .met f x=>h.get? a=some (PySem.W.methodObj (.ref f) (.ref x))
 | .ext φ=>φ h∧(∃o,h.get? a=some o)∧∀h1 h2:Heap,φ h1→(∀o,h1.get? a=some o→h2.get? a=some o)→φ h2
noncomputable def HOk (H:Hp) (h:Heap):Prop:= ∀a o,H a=some o→aBw P w H h a o
end
section
variable {P:Program} {w:World} {H H':Hp} {h h':Heap} {a:Addr} {o:HO}
theorem aBw.lt (x:aBw P w H h a o):a<h.objs.size:=by
 cases o with
 | lst xs=>obtain⟨_,_,_,_,e⟩:=x;exact Heap.lt_size e
 | tup xs=>obtain⟨_,_,_,p⟩:=x;exact p.lt
 | dK kvs=>obtain⟨_,_,_,_,o,_,_,e,_⟩:=x;exact Heap.lt_size e
 | dT kvs=>obtain⟨_,_,_,_,o,_,_,e,_⟩:=x;exact Heap.lt_size e
 | set S n=>obtain⟨⟨o,_,_,_,e,_⟩,_⟩:=x;exact Heap.lt_size e
 | ins C dx fs=>obtain⟨_,_,_,e,_⟩:=x;exact Heap.lt_size e
 | own y=>obtain⟨_,e⟩:=x;exact Heap.lt_size e
 | xd fs=>obtain⟨_,⟨_,_,_,e,_⟩,_⟩:=x;exact Heap.lt_size e
 | rng lo hi=>obtain⟨_,_,_,e⟩:=x;exact Heap.lt_size e
 | frz ob u=>obtain⟨e,_⟩:=x;exact Heap.lt_size e
 | tbl ps=>exact Heap.lt_size (show h.get? a=some _ from x)
 | met f y=>exact Heap.lt_size (show h.get? a=some _ from x)
 | ext φ=>obtain⟨_,⟨_,e⟩,_⟩:=x;exact Heap.lt_size e
theorem Paired.mapP {α β:Type} {F G:α→β→Prop}: ∀{l₁:List α} {l₂:List β},Paired F l₁ l₂→(∀a b,F a b→G a b)→Paired G l₁ l₂
 | _,_,.nil,_=> .nil
 | _,_,.cons r t,f=> .cons (f _ _ r) (Paired.mapP t f)
theorem aBw.stay (x:aBw P w H h a o) (k: ∀b u,(b=a∨H b=some (.own a))→h.get? b=some u→h'.get? b=some u)
  (ho: ∀b,H b=some (.own a)→H' b=some (.own a)) (ht: ∀b xs,H b=some (.tup xs)→H' b=some (.tup xs)):aBw P w H' h' a o:=by
 induction o with
 | lst xs=>obtain⟨z,its,n,r,e⟩:=x;exact⟨z,its,n,r,k _ _ (.inl rfl) e⟩
 | tup xs=>obtain⟨z,its,r,ob,e,c⟩:=x;exact⟨z,its,r,ob,k _ _ (.inl rfl) e,c⟩
 | dK kvs=>obtain⟨z,y,vs,r,ob,es,ep,e,c⟩:=x;exact⟨z,y,vs,r,ob,es,ep,k _ _ (.inl rfl) e,c⟩
 | dT kvs=>
  obtain⟨z,y,xs,r,ob,es,ep,e,c⟩:=x
  exact⟨z,y,xs,Paired.mapP r fun p q z=>⟨z.1,ht _ _ z.2.1,z.2.2⟩,ob,es,ep,k _ _ (.inl rfl) e,c⟩
 | set S n=>obtain⟨⟨ob,es,ep,t,e,c⟩,o',e',c'⟩:=x;exact⟨⟨ob,es,ep,t,k _ _ (.inl rfl) e,c⟩,o',k _ _ (.inl rfl) e',c'⟩
 | ins C dx fs=>
  obtain⟨d,z,ne,e,mA,⟨od,es,ep,e2,c⟩,r⟩:=x
  exact⟨ho _ d,z,ne,k _ _ (.inl rfl) e,mA,⟨od,es,ep,k _ _ (.inr d) e2,c⟩,r⟩
 | own y=>obtain⟨ob,e⟩:=x;exact⟨ob,k _ _ (.inl rfl) e⟩
 | xd fs=>obtain⟨mA,⟨od,es,ep,e,c⟩,r⟩:=x;exact⟨mA,⟨od,es,ep,k _ _ (.inl rfl) e,c⟩,r⟩
 | rng lo hi=>obtain⟨t,u,v,e⟩:=x;exact⟨t,u,v,k _ _ (.inl rfl) e⟩
 | frz ob u ih=>obtain⟨e,q⟩:=x;exact⟨k _ _ (.inl rfl) e,ih q⟩
 | tbl ps=>
  have e:h.get? a=some {cls:= .none,data:= .fields ps}:=x
  show h'.get? a=some {cls:= .none,data:= .fields ps}
  exact k a _ (.inl rfl) e
 | met f y=>
  have e:h.get? a=some (PySem.W.methodObj (.ref f) (.ref y)):=x
  show h'.get? a=some (PySem.W.methodObj (.ref f) (.ref y))
  exact k a _ (.inl rfl) e
 | ext φ=>obtain⟨p,⟨o,e⟩,st⟩:=x;exact⟨st _ _ p fun o q=>k _ _ (.inl rfl) q,⟨o,k _ _ (.inl rfl) e⟩,st⟩
theorem HOk.lt (x:HOk P w H h) (e:H a=some o):a<h.objs.size:=(x a o e).lt
theorem HOk.fresh (x:HOk P w H h) (e:h.objs.size≤a):H a=none:=by
 cases q:H a with
 | none=>rfl
 | some u=>exact absurd (Nat.lt_of_lt_of_le (x.lt q) e) (Nat.lt_irrefl _)
theorem HOk.kept (x:HOk P w H h) (k: ∀b u,h.get? b=some u→h'.get? b=some u):HOk P w H h':=fun a o e=>
 (x a o e).stay (fun b u _ q=>k b u q) (fun _ q=>q) fun _ _ q=>q
theorem HOk.laid (x:HOk P w H h) (k: ∀b u,h.get? b=some u→h'.get? b=some u) (hp:h.objs.size≤a) (new:aBw P w (upd H a o) h' a o):HOk P w (upd H a o) h':=fun b u e=>by
 have hn:=x.fresh hp
 by_cases hb:b=a
 ·subst hb;rw[aAi] at e;cases e;exact new
 ·rw[aAk hb] at e
  exact (x b u e).stay (fun c v _ q=>k c v q) (fun c q=>by rw[aAk (aCc q hn)];exact q) fun c xs q=>by rw[aAk (aCc q hn)];exact q
end
noncomputable def Rd (H:Hp) (a:Addr) (u:HO):Prop:=H a=some u∨∃o,H a=some (.frz o u)
theorem Rd.ok {P:Program} {w:World} {H:Hp} {h:Heap} {a:Addr} {u:HO} (r:Rd H a u) (x:HOk P w H h):aBw P w H h a u:=by
 rcases r with r |⟨o,r⟩
 ·exact x a u r
 ·obtain⟨_,q⟩:=x a _ r
  exact q
noncomputable def Mut:Option HO→Prop
 | some (.lst _)=>True
 | some (.dK _)=>True
 | some (.dT _)=>True
 | some (.set _ _)=>True
 | some (.ins _ _ _)=>True
 | some (.ext _)=>True
 | _=>False
section
variable {P:Program} {w:World} {H:Hp} {h h':Heap} {x e:Addr} {o':HO}
theorem HOk.write (ok:HOk P w H h) (mu:Mut (H x)) (he:e=x∨H e=some (.own x)) (k: ∀b u,b≠e→h.get? b=some u→h'.get? b=some u) (heo: ∃u,h'.get? e=some u)
  (new:aBw P w (upd H x o') h' x o'):HOk P w (upd H x o') h':=fun b u q=>by
 have nown: ∀c y,H c=some (.own y)→c≠x:=fun c y r z=>by subst z;rw[r] at mu;exact mu
 have ntup: ∀c xs,H c=some (.tup xs)→c≠x:=fun c xs r z=>by subst z;rw[r] at mu;exact mu
 by_cases hb:b=x
 ·subst hb;rw[aAi] at q;cases q;exact new
 ·rw[aAk hb] at q
  by_cases hbe:b=e
  ·have q':H b=some (.own x):=by
    rcases he with z | z
    ·exact absurd (hbe.trans z) hb
    ·rw[hbe];exact z
   rw[q] at q';cases q'
   obtain⟨v,hv⟩:=heo
   exact⟨v,by rw[hbe];exact hv⟩
  ·refine (ok b u q).stay (fun c v hc r=>k c v ?_ r) (fun c r=>by rw[aAk (nown c b r)];exact r) fun c xs r=>by rw[aAk (ntup c xs r)];exact r
   rcases hc with rfl | hc
   ·exact hbe
   ·rintro rfl
    rcases he with z | z
    ·exact nown c b hc z
    ·rw[hc] at z;cases z;exact hb rfl
end
structure Un (fs ex:List Addr) (H H':Hp) (h h':Heap):Prop where
 keep: ∀b o,h.get? b=some o→H b=none→b∉fs→b∉ex→h'.get? b=some o
 slot: ∀b o,h.get? b=some o→H b=none→b∈fs→b∉ex→∃sl,h'.get? b=some {o with slots:=sl}
 free: ∀b o,h.get? b=some o→H b=none→b∉ex→H' b=none
 there: ∀b o,h.get? b=some o→b∉ex→∃o',h'.get? b=some o'
 tups: ∀b xs,H b=some (.tup xs)→H' b=some (.tup xs)
 frzs: ∀b o u,H b=some (.frz o u)→H' b=some (.frz o u)
 tbls: ∀b ps,H b=some (.tbl ps)→∃more,H' b=some (.tbl (ps++more))
section
variable {fs fs' ex ex':List Addr} {H H1 H2:Hp} {h h1 h2 h':Heap} {a x e:Addr} {o:HO}
theorem Un.any (u:Un fs ex H H1 h h1) {b:Addr} {ob:Obj} (q:h.get? b=some ob) (n:H b=none) (hx:b∉ex): ∃sl,h1.get? b=some {ob with slots:=sl}:=by
 by_cases hb:b∈fs
 ·exact u.slot b ob q n hb hx
 ·exact⟨ob.slots,u.keep b ob q n hb hx⟩
theorem Un.trans (a:Un fs ex H H1 h h1) (b:Un fs ex H1 H2 h1 h2):Un fs ex H H2 h h2 where
 keep:=fun c ob q n hc hx=>b.keep c ob (a.keep c ob q n hc hx) (a.free c ob q n hx) hc hx
 slot:=fun c ob q n hc hx=>by
  obtain⟨sl,e1⟩:=a.slot c ob q n hc hx
  obtain⟨sl',e2⟩:=b.slot c _ e1 (a.free c ob q n hx) hc hx
  exact⟨sl',e2⟩
 free:=fun c ob q n hx=>by
  obtain⟨o',e1⟩:=a.there c ob q hx
  exact b.free c o' e1 (a.free c ob q n hx) hx
 there:=fun c ob q hx=>by
  obtain⟨o',e1⟩:=a.there c ob q hx
  exact b.there c o' e1 hx
 tups:=fun c xs q=>b.tups c xs (a.tups c xs q)
 frzs:=fun c ob xs q=>b.frzs c ob xs (a.frzs c ob xs q)
 tbls:=fun c ps q=>by
  obtain⟨m1,e1⟩:=a.tbls c ps q
  obtain⟨m2,e2⟩:=b.tbls c _ e1
  exact⟨m1++m2,by rw[e2,Array.append_assoc]⟩
theorem Un.kept (k: ∀b u,h.get? b=some u→h'.get? b=some u):Un fs ex H H h h':=
 ⟨fun b ob q _ _ _=>k b ob q,fun b ob q _ _ _=>⟨ob.slots,k b ob q⟩,fun _ _ _ n _=>n,fun b ob q _=>⟨ob,k b ob q⟩,fun _ _ q=>q,fun _ _ _ q=>q,fun _ ps q=>⟨#[],by rw[q];simp⟩⟩
theorem Un.refl:Un fs ex H H h h:=Un.kept fun _ _ q=>q
theorem Un.laid (k: ∀b u,h.get? b=some u→h'.get? b=some u) (hp:h.objs.size≤a) (hn:H a=none):Un fs ex H (upd H a o) h h' where
 keep:=fun b u q _ _ _=>k b u q
 slot:=fun b u q _ _ _=>⟨u.slots,k b u q⟩
 free:=fun b u q n _=>by rw[aAk (Nat.ne_of_lt (Nat.lt_of_lt_of_le (Heap.lt_size q) hp))];exact n
 there:=fun b u q _=>⟨u,k b u q⟩
 tups:=fun b xs q=>by rw[aAk (aCc q hn)];exact q
 frzs:=fun b u xs q=>by rw[aAk (aCc q hn)];exact q
 tbls:=fun b ps q=>⟨#[],by rw[aAk (aCc q hn),q];simp⟩
theorem Un.write (mu:Mut (H x)) (he:e=x∨H e=some (.own x)) (k: ∀b u,b≠e→h.get? b=some u→h'.get? b=some u) (heo: ∃u,h'.get? e=some u):Un fs ex H (upd H x o) h h':=by
 have hx: ∀b,H b=none→b≠x:=fun b n z=>by subst z;rw[n] at mu;exact mu
 have hb: ∀b,H b=none→b≠e:=fun b n z=>by
  subst z
  rcases he with r | r
  ·exact hx b n r
  ·rw[n] at r;cases r
 have hm: ∀b u,H b=some u→¬Mut (some u)→b≠x:=fun b u q nm z=>by subst z;rw[q] at mu;exact nm mu
 refine⟨fun b u q n _ _=>k b u (hb b n) q,fun b u q n _ _=>⟨u.slots,k b u (hb b n) q⟩,fun b u q n _=>by rw[aAk (hx b n)];exact n,fun b u q _=> ?_,
  fun b xs q=>by rw[aAk (hm b _ q fun z=>z)];exact q,fun b u xs q=>by rw[aAk (hm b _ q fun z=>z)];exact q,fun b ps q=>⟨#[],by rw[aAk (hm b _ q fun z=>z),q];simp⟩⟩
 by_cases hbe:b=e
 ·subst hbe;exact heo
 ·exact⟨u,k b u hbe q⟩
theorem Un.mono (u:Un fs ex H H1 h h1) (hs: ∀b∈fs,b∈fs') (hx: ∀b∈ex,b∈ex'):Un fs' ex' H H1 h h1:=
 ⟨fun b ob q n hb he=>u.keep b ob q n (fun z=>hb (hs b z)) fun z=>he (hx b z),fun _ _ q n _ he=>u.any q n fun z=>he (hx _ z),fun b ob q n he=>u.free b ob q n fun z=>he (hx b z),fun b ob q he=>u.there b ob q fun z=>he (hx b z),u.tups,u.frzs,u.tbls⟩
end
noncomputable def trk (h:Heap) (H:Hp):List Addr:=(List.range h.objs.size).filter fun a=>(H a).isSome
noncomputable def hidT (h:Heap) (H:Hp):Heap:=PySem.W.hideAll h (trk h H)
theorem hidT_size (h:Heap) (H:Hp):(hidT h H).objs.size=h.objs.size:=PySem.W.hideAll_size _ _
theorem hidT_get {h:Heap} {H:Hp} {b:Addr} {o:Obj} (e:h.get? b=some o) (n:H b=none):(hidT h H).get? b=some o:=
 PySem.W.hideAll_get _ e fun hm=>by
  have q:(H b).isSome=true:=(List.mem_filter.mp hm).2
  rw[n] at q;simp at q
theorem of_hidT {h:Heap} {H:Hp} {b:Addr} {o:Obj} (e:(hidT h H).get? b=some o):h.get? b=some o∧H b=none:=by
 have e':h.get? b=some o:=PySem.W.of_hideAll (trk h H) e
 refine⟨e',?_⟩
 cases q:H b with
 | none=>rfl
 | some x=>
  have hm:b∈trk h H:=List.mem_filter.mpr ⟨List.mem_range.mpr (Heap.lt_size e'),by simp[q]⟩
  have z:(hidT h H).get? b=none:=PySem.W.hideAll_none (trk h H) hm
  rw[z] at e;cases e
noncomputable def allNews (g h:Heap) (L:Addr):List (Addr×Obj):=(List.range h.objs.size).filterMap fun a=>if a=L∨(g.get? a).isSome=true then none else (h.get? a).map fun o=>(a,o)
noncomputable def rest (g h:Heap) (L d:Addr):List (Addr×Obj):=(allNews g h L).filter fun p=>decide (p.1≠d)
structure Mod (K:PySem.W.Frag) (mg:Str→Option Value) (base:Heap):Prop where
 kin:K.In base
 glob:base.Ns mainGlobals mg
 blt: ∃mb,base.Ns builtinsNs mb∧∀x:Str,x≠"__name__"→mb x=bootBuiltins x
 nolimit:base.NoLimit
structure Cx where
 prog:Program
 w:World
 K:PySem.W.Frag
 mg:Str→Option Value
 base:Heap
 A:Around
 N:List Str
 s₀:Shared
 H₀:Hp
 env:Env
 outer:List Env
 stack:List Env
 ex:List Addr
 fn:Str→Bool
 calm:Bool
 pn:List (Addr×Obj)
 xe:Value→Shared→Prop
noncomputable def frs (l:List Env):List Addr:=l.filterMap (·.frame)
noncomputable abbrev Cx.fs (X:Cx):List Addr:=frs X.outer
noncomputable def Vis (sc:Scope) (x:Str):Prop:=sc.names.lookup x=some .local∨sc.names.lookup x=some .cell∨sc.names.lookup x=some .free
noncomputable def Loc (sc:Scope) (x:Str):Prop:=sc.names.lookup x=some .local∨sc.names.lookup x=some .cell
noncomputable def Look (env:Env) (h:Heap) (m:Str→Option Value) (x:Str) (u:Value):Prop:=
 (env.kindOf x=some .local∧m x=some u)∨((env.kindOf x=some .cell∨env.kindOf x=some .free)∧∃c,env.cells.lookup x=some c∧h.IsCell c (some u))
structure Cx.Ok (X:Cx):Prop where
 mod:Mod X.K X.mg X.base
 kind:X.env.scope.kind= .function
 glob:X.env.globals=mainGlobals
 blt:X.env.builtins=builtinsNs
 above:X.s₀.heap.objs.size≤X.env.locals
 inj: ∀x y c,X.env.cells.lookup x=some c→X.env.cells.lookup y=some c→x=y
 has: ∀x,(X.env.kindOf x=some .cell∨X.env.kindOf x=some .free)→∃c,X.env.cells.lookup x=some c
 cab: ∀x c,X.fn x=true→X.env.cells.lookup x=some c→X.s₀.heap.objs.size≤c
 hd:X.calm=true→X.A.handled=none
 frames:X.A.frames=some X.stack
 stk:X.stack=X.outer∨(X.stack=X.env::X.outer∧X.env.frame=some X.env.locals)
 exf: ∀b∈X.ex,b≠X.env.locals∧∀x c,X.env.cells.lookup x=some c→c≠b
 bs: ∀b o,X.base.get? b=some o→X.s₀.heap.get? b=some o∧X.H₀ b=none
 bsz:X.base.objs.size≤X.s₀.heap.objs.size
 noex: ∀b o,X.base.get? b=some o→b∉X.ex
 exfs: ∀b∈X.ex,b∉X.fs
 funs:X.s₀.heap.FunFrames X.base X.outer
 frf: ∀b∈X.fs,X.H₀ b=none
structure Inv (X:Cx) (pins:List (Addr×Obj)) (σ:List (Option V)) (H:Hp) (s:Shared):Prop where
 ok:X.Ok
 os:s.os=X.s₀.os
 bare:AllBare s.gens
 base:Un X.fs X.ex X.H₀ H X.s₀.heap s.heap
 loc: ∃m,s.heap.Ns X.env.locals m∧∀(i:Nat) (x:Str) (v:V),X.N[i]? =some x→σ[i]? =some (some v)→Vis X.env.scope x→∃u,RelV v u∧Look X.env s.heap m x u
 cell: ∀x c,X.env.cells.lookup x=some c→∃v,s.heap.IsCell c v
 free:H X.env.locals=none
 freeC: ∀x c,X.env.cells.lookup x=some c→H c=none
 pin: ∀p∈X.pn++pins,s.heap.get? p.1=some p.2∧H p.1=none∧p.1≠X.env.locals∧p.1∉X.fs∧∀v,p.2.data≠ .cell v
 hok:HOk X.prog X.w H s.heap
 len:σ.length=X.N.length
section
variable {X:Cx} {pins:List (Addr×Obj)} {σ:List (Option V)} {H H':Hp} {s:Shared} {h':Heap}
theorem Cx.Ok.nofr (ok:X.Ok) {b:Addr} {o:Obj} (e:X.base.get? b=some o):b∉X.fs:=fun hb=>by
 have:=(ok.funs.mem hb).1
 rw[e] at this;cases this
theorem Inv.bs (I:Inv X pins σ H s): ∀b o,X.base.get? b=some o→s.heap.get? b=some o∧H b=none:=fun b o e=>
 ⟨I.base.keep b o (I.ok.bs b o e).1 (I.ok.bs b o e).2 (I.ok.nofr e) (I.ok.noex b o e),I.base.free b o (I.ok.bs b o e).1 (I.ok.bs b o e).2 (I.ok.noex b o e)⟩
theorem Inv.bk (I:Inv X pins σ H s): ∀b o,X.base.get? b=some o→s.heap.get? b=some o:=fun b o e=>(I.bs b o e).1
theorem Inv.mod (I:Inv X pins σ H s):Mod X.K X.mg X.base:=I.ok.mod
theorem Inv.kIn (I:Inv X pins σ H s):X.K.In s.heap:=I.ok.mod.kin.keeps I.bk
theorem Inv.lt (I:Inv X pins σ H s):X.env.locals<s.heap.objs.size:=let ⟨_,hn,_⟩:=I.loc;hn.lt
theorem Inv.sz (I:Inv X pins σ H s):X.s₀.heap.objs.size≤s.heap.objs.size:=Nat.le_trans I.ok.above (Nat.le_of_lt I.lt)
theorem Inv.nofs (I:Inv X pins σ H s) {a:Addr} (h:s.heap.objs.size≤a):a∉X.fs:=fun hb=>by
 obtain⟨_,o,ho,_⟩:=I.ok.funs.mem hb
 exact absurd (Nat.lt_of_lt_of_le (Heap.lt_size ho) (Nat.le_trans I.sz h)) (Nat.lt_irrefl _)
theorem Inv.cne (I:Inv X pins σ H s): ∀x c,X.env.cells.lookup x=some c→c≠X.env.locals:=fun x c e z=>by
 obtain⟨v,o,ho,hd⟩:=I.cell x c e
 obtain⟨m,⟨o',es,ep,ho',hd',_⟩,_⟩:=I.loc
 rw[z,ho'] at ho;cases ho;rw[hd'] at hd;cases hd
theorem Inv.funs (I:Inv X pins σ H s):s.heap.FunFrames X.base X.outer:=by
 have all: ∀(l:List Env),(∀b∈frs l,b∈X.fs)→X.s₀.heap.FunFrames X.base l→s.heap.FunFrames X.base l:=by
  intro l
  induction l with
  | nil=>intro _ _;trivial
  | cons env r ih=>
   intro hs hl
   obtain⟨hk,⟨L,o,hf,hn,ho,hd⟩,hr⟩:=hl
   have hL:L∈X.fs:=hs L (by unfold frs;rw[List.filterMap_cons,hf];exact List.mem_cons_self)
   obtain⟨sl,e⟩:=I.base.slot L o ho (I.ok.frf L hL) hL fun z=>I.ok.exfs L z hL
   exact⟨hk,⟨L,_,hf,hn,e,hd⟩,ih (fun b hb=>hs b (by unfold frs;rw[List.filterMap_cons,hf];exact List.mem_cons_of_mem _ hb)) hr⟩
 exact all X.outer (fun _ hb=>hb) I.ok.funs
theorem Inv.stack (I:Inv X pins σ H s):s.heap.FunFrames X.base X.stack:=by
 rcases I.ok.stk with e |⟨e,hf⟩
 ·rw[e];exact I.funs
 ·rw[e]
  obtain⟨m,hn,_⟩:=I.loc
  refine .cons (by rw[I.ok.kind];decide) hf hn ?_ I.funs
  exact Heap.get?_none_of_le (Nat.le_trans I.ok.bsz I.ok.above)
theorem Inv.stkSub (I:Inv X pins σ H s): ∀b∈frs X.stack,b∈X.env.locals::X.fs:=fun b hb=>by
 rcases I.ok.stk with e |⟨e,hf⟩
 ·rw[e] at hb;exact List.mem_cons_of_mem _ hb
 ·rw[e] at hb
  unfold frs at hb
  rw[List.filterMap_cons,hf] at hb
  exact hb
theorem Inv.stkFree (I:Inv X pins σ H s): ∀b∈frs X.stack,H b=none:=fun b hb=>by
 rcases List.mem_cons.mp (I.stkSub b hb) with e | hb
 ·rw[e];exact I.free
 ·obtain⟨_,o,ho,_⟩:=I.ok.funs.mem hb
  exact I.base.free b o ho (I.ok.frf b hb) fun z=>I.ok.exfs b z hb
theorem Inv.step {g':Array GenState} {t':Nat} {d':Drawn} {ch:List Addr} (I:Inv X pins σ H s)
  (hch: ∀b∈ch,(b∈X.ex∨X.s₀.heap.objs.size≤b)∧b≠X.env.locals∧(∀x c,X.env.cells.lookup x=some c→c≠b)∧∀p∈X.pn++pins,p.1≠b)
  (keep: ∀b o,b≠X.env.locals→b∉X.fs→b∉ch→s.heap.get? b=some o→H b=none→h'.get? b=some o)
  (slot: ∀b o,b≠X.env.locals→b∈X.fs→b∉ch→s.heap.get? b=some o→H b=none→∃sl,h'.get? b=some {o with slots:=sl}) (free: ∀b o,b∉ch→s.heap.get? b=some o→H b=none→H' b=none)
  (there: ∀b o,b∉ch→s.heap.get? b=some o→∃o',h'.get? b=some o')
  (tups: ∀b xs,H b=some (.tup xs)→H' b=some (.tup xs)) (frzs: ∀b o u,H b=some (.frz o u)→H' b=some (.frz o u)) (tbls: ∀b ps,H b=some (.tbl ps)→∃more,H' b=some (.tbl (ps++more)))
  (ns: ∀m,s.heap.Ns X.env.locals m→h'.Ns X.env.locals m) (hok:HOk X.prog X.w H' h') (hg:AllBare g'):
  Inv X pins σ H' {s with heap:=h',gens:=g',drawn:=d',toks:=t'}:=by
 have neL: ∀b o,X.s₀.heap.get? b=some o→b≠X.env.locals:=fun b o e=>Nat.ne_of_lt (Nat.lt_of_lt_of_le (Heap.lt_size e) I.ok.above)
 have neC: ∀b o,X.s₀.heap.get? b=some o→b∉X.ex→b∉ch:=fun b o e hx hb=>by
  rcases (hch b hb).1 with z | z
  ·exact hx z
  ·exact absurd (Nat.lt_of_lt_of_le (Heap.lt_size e) z) (Nat.lt_irrefl _)
 have cellK: ∀x c,X.env.cells.lookup x=some c→∀v,s.heap.IsCell c v→h'.IsCell c v:=fun x c e v ⟨o,ho,hd⟩=>by
  have nch:c∉ch:=fun z=>(hch c z).2.2.1 x c e rfl
  by_cases hc:c∈X.fs
  ·obtain⟨sl,q⟩:=slot c o (I.cne x c e) hc nch ho (I.freeC x c e)
   exact⟨_,q,hd⟩
  ·exact⟨o,keep c o (I.cne x c e) hc nch ho (I.freeC x c e),hd⟩
 refine⟨I.ok,I.os,hg,⟨fun b o e n hb hx=> ?_,fun b o e n hb hx=> ?_,fun b o e n hx=> ?_,fun b o e hx=> ?_,fun b xs e=>tups b xs (I.base.tups b xs e),fun b o xs e=>frzs b o xs (I.base.frzs b o xs e),fun b ps e=> ?_⟩,?_,fun x c e=> ?_,?_,fun x c e=> ?_,fun p hp=> ?_,hok,I.len⟩
 ·exact keep b o (neL b o e) hb (neC b o e hx) (I.base.keep b o e n hb hx) (I.base.free b o e n hx)
 ·obtain⟨sl,e1⟩:=I.base.slot b o e n hb hx
  obtain⟨sl',e2⟩:=slot b _ (neL b o e) hb (neC b o e hx) e1 (I.base.free b o e n hx)
  exact⟨sl',e2⟩
 ·obtain⟨o',e1⟩:=I.base.there b o e hx
  exact free b o' (neC b o e hx) e1 (I.base.free b o e n hx)
 ·obtain⟨o',e1⟩:=I.base.there b o e hx
  exact there b o' (neC b o e hx) e1
 ·obtain⟨m1,e1⟩:=I.base.tbls b ps e
  obtain⟨m2,e2⟩:=tbls b _ e1
  exact⟨m1++m2,by rw[e2,Array.append_assoc]⟩
 ·obtain⟨m,hn,hl⟩:=I.loc
  refine⟨m,ns m hn,fun i x v e1 e2 e3=> ?_⟩
  obtain⟨u,r,l⟩:=hl i x v e1 e2 e3
  refine⟨u,r,?_⟩
  rcases l with l |⟨k,c,e,z⟩
  ·exact .inl l
  ·exact .inr ⟨k,c,e,cellK x c e _ z⟩
 ·obtain⟨v,z⟩:=I.cell x c e
  exact⟨v,cellK x c e v z⟩
 ·obtain⟨m,⟨o,_,_,ho,_⟩,_⟩:=I.loc
  exact free _ o (fun z=>(hch _ z).2.1 rfl) ho I.free
 ·obtain⟨v,o,ho,hd⟩:=I.cell x c e
  exact free c o (fun z=>(hch c z).2.2.1 x c e rfl) ho (I.freeC x c e)
 ·obtain⟨e,n,ne,nf,d⟩:=I.pin p hp
  have nch:p.1∉ch:=fun z=>(hch p.1 z).2.2.2 p hp rfl
  exact⟨keep p.1 p.2 ne nf nch e n,free p.1 p.2 nch e n,ne,nf,d⟩
theorem Inv.un {t':Nat} (I:Inv X pins σ H s) (u:Un X.fs [] H H' s.heap h') (hok:HOk X.prog X.w H' h'):Inv X pins σ H' {s with heap:=h',toks:=t'}:=by
 obtain⟨m,⟨o,es,ep,ho,r⟩,_⟩:=id I.loc
 obtain⟨sl,hL⟩:=u.any ho I.free (by simp)
 exact I.step (g':=s.gens) (d':=s.drawn) (ch:=[]) (fun _ z=>nomatch z) (fun b o _ hb _ e n=>u.keep b o e n hb (by simp)) (fun b o _ hb _ e n=>u.slot b o e n hb (by simp)) (fun b o _ e n=>u.free b o e n (by simp)) (fun b o _ e=>u.there b o e (by simp)) u.tups u.frzs u.tbls (fun m' hm=>by
  obtain⟨o',es',ep',ho',r'⟩:=hm
  rw[ho] at ho';cases ho'
  exact⟨_,es',ep',hL,r'⟩) hok I.bare
theorem Inv.call {g':Array GenState} {t':Nat} {d':Drawn} {ch:List Addr} (I:Inv X pins σ H s) (u:Un (frs X.stack) ch H H' s.heap h') (hok:HOk X.prog X.w H' h') (hg:AllBare g')
  (hch: ∀b∈ch,(b∈X.ex∨X.s₀.heap.objs.size≤b)∧b≠X.env.locals∧(∀x c,X.env.cells.lookup x=some c→c≠b)∧∀p∈X.pn++pins,p.1≠b):
  Inv X pins σ H' {s with heap:=h',gens:=g',drawn:=d',toks:=t'}:=by
 obtain⟨m,⟨o,es,ep,ho,r⟩,_⟩:=id I.loc
 obtain⟨sl,hL⟩:=u.any ho I.free fun z=>(hch _ z).2.1 rfl
 exact I.step (ch:=ch) hch (fun b o hL hb hc e n=>u.keep b o e n (fun z=>(List.mem_cons.mp (I.stkSub b z)).elim hL hb) hc) (fun b o _ _ hc e n=>u.any e n hc) (fun b o hc e n=>u.free b o e n hc) (fun b o hc e=>u.there b o e hc) u.tups u.frzs u.tbls (fun m' hm=>by
  obtain⟨o',es',ep',ho',r'⟩:=hm
  rw[ho] at ho';cases ho'
  exact⟨_,es',ep',hL,r'⟩) hok hg
theorem Inv.turned {t':Nat} {it:Addr} (I:Inv X pins σ H s) (k: ∀b o,b≠it→s.heap.get? b=some o→h'.get? b=some o) (hn:H it=none) (hL:it≠X.env.locals)
  (h1:it∈X.ex∨X.s₀.heap.objs.size≤it) (h2: ∀x c,X.env.cells.lookup x=some c→c≠it) (h3: ∀p∈X.pn++pins,p.1≠it):Inv X pins σ H {s with heap:=h',toks:=t'}:=by
 have nit: ∀b u,H b=some u→b≠it:=fun b u e z=>by rw[z,hn] at e;cases e
 refine I.step (g':=s.gens) (d':=s.drawn) (ch:=[it]) (fun b hb=> ?_) (fun b o _ _ hc e _=>k b o (fun z=>hc (by simp[z])) e) (fun b o _ _ hc e _=>⟨o.slots,k b o (fun z=>hc (by simp[z])) e⟩) (fun _ _ _ _ n=>n)
  (fun b o hc e=>⟨o,k b o (fun z=>hc (by simp[z])) e⟩) (fun _ _ e=>e) (fun _ _ _ e=>e) (fun b ps e=>⟨#[],by rw[e];simp⟩) (fun m hm=> ?_) (fun b u e=> ?_) I.bare
 ·have e:b=it:=by simpa using hb
  subst e
  exact⟨h1,hL,h2,h3⟩
 ·obtain⟨o,es,ep,ho,r⟩:=hm
  exact⟨o,es,ep,k _ o (Ne.symm hL) ho,r⟩
 ·refine (I.hok b u e).stay (fun c v hc q=>k c v ?_ q) (fun _ q=>q) fun _ _ q=>q
  rcases hc with z | z
  ·rw[z];exact nit b u e
  ·exact nit c _ z
theorem Inv.tok (I:Inv X pins σ H s) (t:Nat):Inv X pins σ H {s with toks:=t}:=I.un (h':=s.heap) (t':=t) Un.refl I.hok
theorem Inv.kept {t':Nat} (I:Inv X pins σ H s) (k: ∀b u,s.heap.get? b=some u→h'.get? b=some u):Inv X pins σ H {s with heap:=h',toks:=t'}:=I.un (Un.kept k) (I.hok.kept k)
theorem Inv.laid {a:Addr} {o:HO} {t':Nat} (I:Inv X pins σ H s) (k: ∀b u,s.heap.get? b=some u→h'.get? b=some u) (hp:s.heap.objs.size≤a) (new:aBw X.prog X.w (upd H a o) h' a o):
  Inv X pins σ (upd H a o) {s with heap:=h',toks:=t'}:=I.un (Un.laid k hp (I.hok.fresh hp)) (I.hok.laid k hp new)
theorem Inv.write {x e:Addr} {o:HO} {t':Nat} (I:Inv X pins σ H s) (mu:Mut (H x)) (he:e=x∨H e=some (.own x)) (k: ∀b u,b≠e→s.heap.get? b=some u→h'.get? b=some u) (heo: ∃u,h'.get? e=some u)
  (new:aBw X.prog X.w (upd H x o) h' x o):Inv X pins σ (upd H x o) {s with heap:=h',toks:=t'}:=I.un (Un.write mu he k heo) (I.hok.write mu he k heo new)
theorem Inv.weak {σ':List (Option V)} (I:Inv X pins σ H s) (hl:σ'.length=σ.length) (w: ∀(i:Nat) v,σ'[i]? =some (some v)→σ[i]? =some (some v)):Inv X pins σ' H s:=
 ⟨I.ok,I.os,I.bare,I.base,let ⟨m,hn,hl'⟩:=I.loc;⟨m,hn,fun i x v e1 e2 e3=>hl' i x v e1 (w i v e2) e3⟩,I.cell,I.free,I.freeC,I.pin,I.hok,hl.trans I.len⟩
theorem Inv.pins_of {pins':List (Addr×Obj)} (I:Inv X pins σ H s) (h: ∀p∈pins',s.heap.get? p.1=some p.2∧H p.1=none∧p.1≠X.env.locals∧p.1∉X.fs∧∀v,p.2.data≠ .cell v):Inv X pins' σ H s:=
 ⟨I.ok,I.os,I.bare,I.base,I.loc,I.cell,I.free,I.freeC,fun p hp=>(List.mem_append.mp hp).elim (fun z=>I.pin p (List.mem_append_left _ z)) (h p),I.hok,I.len⟩
theorem nodup_ix {N:List Str} (hN:N.Nodup) {i j:Nat} {x:Str} (a:N[i]? =some x) (b:N[j]? =some x):i=j:=by
 obtain⟨h1,e1⟩:=List.getElem?_eq_some_iff.mp a
 obtain⟨h2,e2⟩:=List.getElem?_eq_some_iff.mp b
 exact (List.getElem_inj hN).mp (e1.trans e2.symm)
theorem store_ok2 {M:Model} {A:Around} {E:Value→Shared→Prop} {i:Nat} {x:Str} {v:V} {u:Value} {Q:Unit→Shared→Prop} (I:Inv X pins σ H s) (hN:X.N.Nodup) (hi:X.N[i]? =some x) (hx:Loc X.env.scope x) (r:RelV v u)
  (h: ∀s',Inv X pins (σ.set i (some v)) H s'→(∃a,Heap.SameBut a s.heap s'.heap∧(a=X.env.locals∨X.env.cells.lookup x=some a))→Q () s') (hf:X.fn x=true∨X.env.scope.names.lookup x=some .local):wpAny M A (storeName X.env x u) Q E s:=by
 obtain⟨m,hn,hl⟩:=id I.loc
 have hcls:(X.env.scope.kind== .class ||(X.env.scope.kind== .module&&X.env.locals !=X.env.globals))=false:=by rw[I.ok.kind];rfl
 have hiσ:i<σ.length:=by rw[I.len];exact (List.getElem?_eq_some_iff.mp hi).1
 have cne:=I.cne
 have tracked: ∀{a:Addr} {h':Heap},(∃o,s.heap.get? a=some o∧H a=none)→Heap.SameBut a s.heap h'→HOk X.prog X.w H h':=fun {a h'} ha hs b ob e=>by
  obtain⟨_,_,hfree⟩:=ha
  refine (I.hok b ob e).stay (fun c w' hc q=>(hs.2 c ?_).trans q) (fun _ q=>q) fun _ _ q=>q
  rintro rfl
  rcases hc with rfl | hc
  ·rw[hfree] at e;cases e
  ·rw[hfree] at hc;cases hc
 rcases hx with hk | hk
 ·refine wpAny_storeName_local hk hn (fun h' hn' hs=> ?_) hcls
  obtain⟨oL,_,_,hoL,_⟩:=id hn
  refine h _ ⟨I.ok,I.os,I.bare,⟨fun b o e n hb hx=> ?_,fun b o e n hb hx=> ?_,I.base.free,fun b o e hx=> ?_,I.base.tups,I.base.frzs,I.base.tbls⟩,⟨_,hn',fun j y v' e1 e2 e3=> ?_⟩,fun y c e=> ?_,I.free,I.freeC,fun p hp=> ?_,tracked ⟨oL,hoL,I.free⟩ hs,by simpa using I.len⟩ ⟨_,hs,.inl rfl⟩
  ·exact (hs.2 b (Nat.ne_of_lt (Nat.lt_of_lt_of_le (Heap.lt_size e) I.ok.above))).trans (I.base.keep b o e n hb hx)
  ·obtain⟨sl,e1⟩:=I.base.slot b o e n hb hx
   exact⟨sl,(hs.2 b (Nat.ne_of_lt (Nat.lt_of_lt_of_le (Heap.lt_size e) I.ok.above))).trans e1⟩
  ·obtain⟨o',e1⟩:=I.base.there b o e hx
   exact⟨o',(hs.2 b (Nat.ne_of_lt (Nat.lt_of_lt_of_le (Heap.lt_size e) I.ok.above))).trans e1⟩
  ·by_cases hj:j=i
   ·subst hj
    rw[hi] at e1;cases e1
    rw[List.getElem?_set_self hiσ] at e2
    cases e2
    exact⟨u,r,.inl ⟨hk,by simp⟩⟩
   ·rw[List.getElem?_set_ne (Ne.symm hj)] at e2
    obtain⟨u',r',q⟩:=hl j y v' e1 e2 e3
    refine⟨u',r',?_⟩
    rcases q with⟨k,e⟩ |⟨k,c,e,z⟩
    ·refine .inl ⟨k,?_⟩
     have:y≠x:=fun e=>hj (nodup_ix hN e1 (e▸hi))
     simp[this,e]
    ·exact .inr ⟨k,c,e,z.sameBut hs (cne y c e)⟩
  ·obtain⟨w',z⟩:=I.cell y c e
   exact⟨w',z.sameBut hs (cne y c e)⟩
  ·obtain⟨e,n,ne,nf,d⟩:=I.pin p hp
   exact⟨(hs.2 p.1 ne).trans e,n,ne,nf,d⟩
 ·have hfn:X.fn x=true:=by
   rcases hf with z | z
   ·exact z
   ·rw[z] at hk;cases hk
  obtain⟨c,hc⟩:=I.ok.has x (.inl hk)
  obtain⟨w',z⟩:=I.cell x c hc
  refine wpAny_storeName_cell I.ok.kind hk hc z (fun h' hc' hs=> ?_)
  obtain⟨oc,hoc,hocd⟩:=id z
  refine h {s with heap:=h'} ⟨I.ok,I.os,I.bare,⟨fun b o e n hb hx=> ?_,fun b o e n hb hx=> ?_,I.base.free,fun b o e hx=> ?_,I.base.tups,I.base.frzs,I.base.tbls⟩,⟨m,hn.sameBut hs (Ne.symm (cne x c hc)),fun j y v' e1 e2 e3=> ?_⟩,fun y c' e=> ?_,I.free,I.freeC,fun p hp=> ?_,tracked ⟨oc,hoc,I.freeC x c hc⟩ hs,by simpa using I.len⟩ ⟨c,hs,.inr hc⟩
  ·exact (hs.2 b (Nat.ne_of_lt (Nat.lt_of_lt_of_le (Heap.lt_size e) (I.ok.cab x c hfn hc)))).trans (I.base.keep b o e n hb hx)
  ·obtain⟨sl,e1⟩:=I.base.slot b o e n hb hx
   exact⟨sl,(hs.2 b (Nat.ne_of_lt (Nat.lt_of_lt_of_le (Heap.lt_size e) (I.ok.cab x c hfn hc)))).trans e1⟩
  ·obtain⟨o',e1⟩:=I.base.there b o e hx
   exact⟨o',(hs.2 b (Nat.ne_of_lt (Nat.lt_of_lt_of_le (Heap.lt_size e) (I.ok.cab x c hfn hc)))).trans e1⟩
  ·by_cases hj:j=i
   ·subst hj
    rw[hi] at e1;cases e1
    rw[List.getElem?_set_self hiσ] at e2
    cases e2
    exact⟨u,r,.inr ⟨.inl hk,c,hc,hc'⟩⟩
   ·rw[List.getElem?_set_ne (Ne.symm hj)] at e2
    obtain⟨u',r',q⟩:=hl j y v' e1 e2 e3
    refine⟨u',r',?_⟩
    rcases q with q |⟨k,c',e,z'⟩
    ·exact .inl q
    ·refine .inr ⟨k,c',e,z'.sameBut hs ?_⟩
     rintro rfl
     exact hj (nodup_ix hN e1 (I.ok.inj _ _ _ e hc▸hi))
  ·by_cases hcc:c'=c
   ·subst hcc;exact⟨_,hc'⟩
   ·obtain⟨w2,z2⟩:=I.cell y c' e
    exact⟨w2,z2.sameBut hs hcc⟩
  ·obtain⟨e,n,ne,nf,d⟩:=I.pin p hp
   refine⟨(hs.2 p.1 ?_).trans e,n,ne,nf,d⟩
   intro q
   rw[q,hoc] at e
   have q':oc=p.2:=Option.some.inj e
   exact d w' (by rw[←q'];exact hocd)
theorem store_ok {M:Model} {A:Around} {E:Value→Shared→Prop} {i:Nat} {x:Str} {v:V} {u:Value} {Q:Unit→Shared→Prop} (I:Inv X pins σ H s) (hN:X.N.Nodup) (hi:X.N[i]? =some x) (hx:Loc X.env.scope x) (r:RelV v u)
  (h: ∀s',Inv X pins (σ.set i (some v)) H s'→Q () s') (hf:X.fn x=true∨X.env.scope.names.lookup x=some .local:=by first | exact .inl rfl | exact .inr rfl | assumption):wpAny M A (storeName X.env x u) Q E s:=
 store_ok2 I hN hi hx r (fun s' I' _=>h s' I') hf
theorem Inv.call' {s':Shared} {ch:List Addr} (I:Inv X pins σ H s) (ho:s'.os=s.os) (u:Un (frs X.stack) ch H H' s.heap s'.heap) (hok:HOk X.prog X.w H' s'.heap) (hg:AllBare s'.gens)
  (hch: ∀b∈ch,(b∈X.ex∨X.s₀.heap.objs.size≤b)∧b≠X.env.locals∧(∀x c,X.env.cells.lookup x=some c→c≠b)∧∀p∈X.pn++pins,p.1≠b):Inv X pins σ H' s':=by
 obtain⟨h',g',d',t',o'⟩:=s'
 have e:o'=s.os:=ho
 subst e
 exact I.call (g':=g') (t':=t') (d':=d') u hok hg hch
end
noncomputable abbrev XK:=Value→Option Addr→Hp→Prop
noncomputable abbrev St:=List (Option V)
noncomputable abbrev VK:=V→Hp→Prop
noncomputable abbrev TE:=St→Hp→VK→Prop
noncomputable abbrev TT:=St→Hp→(Bool→Hp→Prop)→Prop
noncomputable abbrev TA:=St→Hp→(List V→Hp→Prop)→Prop
structure Ends where
 nx:St→Hp→Prop
 rt:VK
 bk:St→Hp→Prop:=fun _ _=>False
 ct:St→Hp→Prop:=fun _ _=>False
noncomputable abbrev TS:=Ends→St→Hp→Prop
noncomputable def EP (X:Cx) (pins:List (Addr×Obj)) (σ:St) (Q:VK) (u:Value) (s':Shared):Prop:= ∃v H',Inv X pins σ H' s'∧RelV v u∧Q v H'
noncomputable def TP (X:Cx) (pins:List (Addr×Obj)) (σ:St) (Q:Bool→Hp→Prop) (b:Bool) (s':Shared):Prop:= ∃H',Inv X pins σ H' s'∧Q b H'
noncomputable def AP (X:Cx) (pins:List (Addr×Obj)) (σ:St) (Q:List V→Hp→Prop) (us:List Value) (s':Shared):Prop:= ∃vs H',Inv X pins σ H' s'∧Vals vs us∧Q vs H'
noncomputable def SP (X:Cx) (pins:List (Addr×Obj)) (D:Ends) (f:Flow) (s':Shared):Prop:=
 match f with
 | .next=> ∃σ' H',Inv X pins σ' H' s'∧D.nx σ' H'
 | .brk=> ∃σ' H',Inv X pins σ' H' s'∧D.bk σ' H'
 | .cont=> ∃σ' H',Inv X pins σ' H' s'∧D.ct σ' H'
 | .ret u=> ∃v σ' H',Inv X pins σ' H' s'∧RelV v u∧D.rt v H'
noncomputable def PE (X:Cx) (e:Expr) (t:TE):Prop:=
 ∀(pins:List (Addr×Obj)) (s:Shared) (σ:St) (H:Hp) (Q:VK),Inv X pins σ H s→t σ H Q→wpAny (model X.prog X.w) X.A (eval e X.env) (EP X pins σ Q) X.xe s
noncomputable def PT (X:Cx) (e:Expr) (t:TT):Prop:=
 ∀(pins:List (Addr×Obj)) (s:Shared) (σ:St) (H:Hp) (Q:Bool→Hp→Prop),Inv X pins σ H s→t σ H Q→wpAny (model X.prog X.w) X.A (isTrue e X.env (eval e X.env)) (TP X pins σ Q) X.xe s
noncomputable def PW (X:Cx) (e:Expr) (t:TT):Prop:=
 ∀(whole:Sem Value) (pins:List (Addr×Obj)) (s:Shared) (σ:St) (H:Hp) (Q:Bool→Hp→Prop),Inv X pins σ H s→t σ H Q→wpAny (model X.prog X.w) X.A (isTrue e X.env whole) (TP X pins σ Q) X.xe s
theorem PW.pt {X:Cx} {e:Expr} {t:TT} (h:PW X e t):PT X e t:=h _
noncomputable def PA (X:Cx) (es:List Expr) (t:TA):Prop:=
 ∀(pos:Pos) (pins:List (Addr×Obj)) (s:Shared) (σ:St) (H:Hp) (Q:List V→Hp→Prop),Inv X pins σ H s→t σ H Q→wpAny (model X.prog X.w) X.A (spliced (backTo pos (starEach es X.env))) (AP X pins σ Q) X.xe s
noncomputable def PS (X:Cx) (st:Stmt) (t:TS):Prop:=
 ∀(pins:List (Addr×Obj)) (s:Shared) (σ:St) (H:Hp) (D:Ends),Inv X pins σ H s→t D σ H→wpAny (model X.prog X.w) X.A (exec st X.env) (SP X pins D) X.xe s
noncomputable def PSs (X:Cx) (st:List Stmt) (t:TS):Prop:=
 ∀(pins:List (Addr×Obj)) (s:Shared) (σ:St) (H:Hp) (D:Ends),Inv X pins σ H s→t D σ H→wpAny (model X.prog X.w) X.A (execs st X.env) (SP X pins D) X.xe s
theorem thn {α:Type} {t:Sem α} {Q Q':α→Shared→Prop} {M:Model} {A:Around} {E:Value→Shared→Prop} {s:Shared} (h:wpAny M A t Q E s) (hQ: ∀a s,Q a s→Q' a s):wpAny M A t Q' E s:=wpAny_mono h hQ fun _ _ x=>x
section
variable {X:Cx}
noncomputable def tVar (i:Nat):TE:=fun σ H Q=> ∃v,σ[i]? =some (some v)∧Q v H
noncomputable def tC (v:V):TE:=fun _ H Q=>Q v H
theorem pe_var {i:Nat} {x:Str} {pos:Pos} (hN:X.N[i]? =some x) (hv:Vis X.env.scope x) (hd:(x==("__debug__":Str))=false:=by decide) (hcd:(x==("__classdict__":Str))=false:=by decide):PE X (.Name x pos) (tVar i):=by
 intro pins s σ H Q I h
 obtain⟨v,e,h⟩:=h
 obtain⟨m,hn,hl⟩:=I.loc
 obtain⟨u,r,l⟩:=hl i x v hN e hv
 have fin:EP X pins σ Q u s:=⟨v,H,I,r,h⟩
 rcases l with⟨hk,hm⟩ |⟨hk,c,hc,hcell⟩
 ·exact wpAny_Name (wpAny_loadName_local I.ok.kind hk hn hm fin) hd
 ·rcases hk with hk | hk
  ·exact wpAny_Name (wpAny_loadName_cell I.ok.kind hk hc hcell fin) hd
  ·exact wpAny_Name (wpAny_loadName_free I.ok.kind hk hc hcell fin hcd) hd
theorem pe_int {i j pos}:PE X (.Constant (.int i) j pos) (tC (.int i)):=fun _ _ _ H _ I h=>wpAny_Constant_int ⟨.int i,H,I.tok _,⟨_,rfl⟩,h⟩
theorem pe_bl {b j pos}:PE X (.Constant (.bool b) j pos) (tC (.bl b)):=fun _ _ _ H _ I h=>Constant_bool ⟨.bl b,H,I,rfl,h⟩
theorem pe_non {j pos}:PE X (.Constant .none j pos) (tC .non):=fun _ _ _ H _ I h=>Constant_none ⟨.non,H,I,rfl,h⟩
theorem pe_str {x j pos}:PE X (.Constant (.str x) j pos) (tC (.str x)):=fun _ _ _ H _ I h=>Calls.Constant_str ⟨.str x,H,I.tok _,⟨_,rfl⟩,h⟩
noncomputable def Gl (X:Cx) (x:Str):Prop:=X.env.kindOf x=some .globalImplicit
theorem ld_glob {E:Value→Shared→Prop} {pins:List (Addr×Obj)} {s:Shared} {σ:St} {H:Hp} {x:Str} {u:Value} {pos:Pos} {Q:Value→Shared→Prop} (I:Inv X pins σ H s) (hg:Gl X x) (hm:X.mg x=some u) (h:Q u s)
  (hd:(x==("__debug__":Str))=false:=by decide):wpAny (model X.prog X.w) X.A (eval (.Name x pos) X.env) Q E s:=
 Calls.Name_function_global I.ok.kind hg (Calls.loadGlobal_global (by rw[I.ok.glob];exact I.mod.glob.keeps I.bk) hm h) hd
theorem ld_blt {E:Value→Shared→Prop} {pins:List (Addr×Obj)} {s:Shared} {σ:St} {H:Hp} {x:Str} {u:Value} {pos:Pos} {Q:Value→Shared→Prop} (I:Inv X pins σ H s) (hg:Gl X x) (hm:X.mg x=none) (hv:bootBuiltins x=some u) (h:Q u s)
  (hn:x≠"__name__":=by decide) (hd:(x==("__debug__":Str))=false:=by decide):wpAny (model X.prog X.w) X.A (eval (.Name x pos) X.env) Q E s:=by
 obtain⟨mb,h1,h2⟩:=I.mod.blt
 exact Calls.Name_function_global I.ok.kind hg (Calls.loadGlobal_builtin (by rw[I.ok.glob];exact I.mod.glob.keeps I.bk) hm (by rw[I.ok.blt];exact h1.keeps I.bk) ((h2 x hn).trans hv) h) hd
theorem pe_bltn {x:Str} {v:V} {u:Value} {pos:Pos} (hg:Gl X x) (hm:X.mg x=none) (hv:bootBuiltins x=some u) (r:RelV v u) (hn:x≠"__name__":=by decide) (hd:(x==("__debug__":Str))=false:=by decide):PE X (.Name x pos) (tC v):=
 fun _ _ _ H _ I h=>ld_blt I hg hm hv ⟨v,H,I,r,h⟩ hn hd
variable {a b:Expr} {ta tb:TE} {pos:Pos}
variable {tA tB':TT} {rest:List Expr}
noncomputable def tAnd (t u:TT):TT:=fun σ H Q=>t σ H fun c H1=>if c=true then u σ H1 Q else Q false H1
noncomputable def tOr (t u:TT):TT:=fun σ H Q=>t σ H fun c H1=>if c=true then Q true H1 else u σ H1 Q
noncomputable def tNot (t:TT):TT:=fun σ H Q=>t σ H fun c H1=>Q (!c) H1
theorem pw_and1 (ha:PT X a tA):PW X (.BoolOp .And [a] pos) tA:=by
 intro wh pins s σ H Q I h
 refine isTrue_and (thn (ha pins s σ H Q I h) fun c s1 e=> ?_)
 cases c with
 | true=>exact isTrue_and_nil e
 | false=>exact e
theorem pw_or1 (ha:PT X a tA):PW X (.BoolOp .Or [a] pos) tA:=by
 intro wh pins s σ H Q I h
 refine isTrue_or (thn (ha pins s σ H Q I h) fun c s1 e=> ?_)
 cases c with
 | false=>exact isTrue_or_nil e
 | true=>exact e
theorem pw_and (ha:PT X a tA) (hb:PW X (.BoolOp .And (b::rest) pos) tB'):PW X (.BoolOp .And (a::b::rest) pos) (tAnd tA tB'):=by
 intro wh pins s σ H Q I h
 refine isTrue_and (thn (ha pins s σ H _ I h) fun c s1 ⟨H1,I1,q1⟩=> ?_)
 cases c with
 | true=>exact hb wh pins s1 σ H1 Q I1 q1
 | false=>exact⟨H1,I1,q1⟩
theorem pw_or (ha:PT X a tA) (hb:PW X (.BoolOp .Or (b::rest) pos) tB'):PW X (.BoolOp .Or (a::b::rest) pos) (tOr tA tB'):=by
 intro wh pins s σ H Q I h
 refine isTrue_or (thn (ha pins s σ H _ I h) fun c s1 ⟨H1,I1,q1⟩=> ?_)
 cases c with
 | true=>exact⟨H1,I1,q1⟩
 | false=>exact hb wh pins s1 σ H1 Q I1 q1
theorem pt_not (ha:PT X a tA):PT X (.UnaryOp .Not a pos) (tNot tA):=by
 intro pins s σ H Q I h
 exact isTrue_not (ha pins s σ H (fun c H1=>Q (!c) H1) I h)
noncomputable def tAndV (ta tb:TE):TE:=fun σ H Q=>ta σ H fun x H1=> ∃c,x= .bl c∧if c=true then tb σ H1 Q else Q (.bl false) H1
noncomputable def tOrV (ta tb:TE):TE:=fun σ H Q=>ta σ H fun x H1=> ∃c,x= .bl c∧if c=true then Q (.bl true) H1 else tb σ H1 Q
theorem pe_one {op} {t:TE} (h:PE X a t):PE X (.BoolOp op [a] pos) t:=fun pins s σ H Q I hw=>BoolOp_one (h pins s σ H Q I hw)
theorem pe_and (ha:PE X a ta) (hb:PE X (.BoolOp .And (b::rest) pos) tb):PE X (.BoolOp .And (a::b::rest) pos) (tAndV ta tb):=by
 intro pins s σ H Q I h
 refine BoolOp_and (thn (ha pins s σ H _ I h) fun v s1 ⟨x,H1,I1,r1,q1⟩=> ?_)
 obtain⟨c,rfl,q1⟩:=q1
 cases r1
 refine wpAny_truthy_bool ?_
 cases c with
 | true=>exact hb pins s1 σ H1 Q I1 q1
 | false=>exact⟨.bl false,H1,I1,rfl,q1⟩
theorem pe_or (ha:PE X a ta) (hb:PE X (.BoolOp .Or (b::rest) pos) tb):PE X (.BoolOp .Or (a::b::rest) pos) (tOrV ta tb):=by
 intro pins s σ H Q I h
 refine BoolOp_or (thn (ha pins s σ H _ I h) fun v s1 ⟨x,H1,I1,r1,q1⟩=> ?_)
 obtain⟨c,rfl,q1⟩:=q1
 cases r1
 refine wpAny_truthy_bool ?_
 cases c with
 | false=>exact hb pins s1 σ H1 Q I1 q1
 | true=>exact⟨.bl true,H1,I1,rfl,q1⟩
end
noncomputable def SqL (K:PySem.W.Frag) (H:Hp) (a:Addr) (xs:List V):Prop:=
 Rd H a (.lst xs)∨
  ∃(o:Obj) (its:Array Value) (n:Nat),K.lookup a=some o∧o.cls= .type "list"∧o.dict=none∧o.data= .seq its n∧its.size≤sizeLine∧Vals xs its.toList
noncomputable def SqT (K:PySem.W.Frag) (H:Hp) (a:Addr) (xs:List V):Prop:=
 Rd H a (.tup xs)∨
  ∃(o:Obj) (its:Array Value) (n:Nat),K.lookup a=some o∧o.cls= .type "tuple"∧o.dict=none∧o.data= .seq its n∧its.size≤sizeLine∧Vals xs its.toList
noncomputable def absV:Value→Option V
 | .none=>some .non
 | .bool b=>some (.bl b)
 | .int i _=>some (.int i)
 | .str x _=>some (.str x)
 | .bytes b _=>some (.byt b)
 | .float b _=>some (.flt b)
 | .ref a=>some (.ref a)
 | .type n=>some (.ty n)
 | _=>none
theorem RelV.abs {x:V} {u:Value} (r:RelV x u):absV u=some x:=by
 cases x with
 | non=>cases r;rfl
 | bl _=>cases r;rfl
 | int _=>obtain⟨t,rfl⟩:=r;rfl
 | str _=>obtain⟨t,rfl⟩:=r;rfl
 | byt _=>obtain⟨t,rfl⟩:=r;rfl
 | flt _=>obtain⟨t,rfl⟩:=r;rfl
 | ref _=>cases r;rfl
 | ty _=>cases r;rfl
theorem RelV.inj {x y:V} {u:Value} (r:RelV x u) (q:RelV y u):x=y:=Option.some.inj (r.abs.symm.trans q.abs)
theorem Vals.inj: ∀{xs ys:List V} {us:List Value},Vals xs us→Vals ys us→xs=ys
 | _,_,_,.nil,.nil=>rfl
 | _,_,_,.cons r t,.cons r' t'=>by rw[r.inj r',Vals.inj t t']
section
variable {X:Cx} {pins:List (Addr×Obj)} {σ:St} {H:Hp} {s:Shared} {a:Addr} {xs ys:List V}
theorem SqL.of {K:PySem.W.Frag} (h:H a=some (.lst xs)):SqL K H a xs:= .inl (.inl h)
theorem SqT.of {K:PySem.W.Frag} (h:H a=some (.tup xs)):SqT K H a xs:= .inl (.inl h)
theorem Inv.list (I:Inv X pins σ H s) (h:SqL X.K H a xs): ∃its:List Value,Vals xs its∧PlainL s.heap a its.toArray∧xs.length≤sizeLine:=by
 rcases h with h |⟨o,its,n,hk,hc,hd,hs,hz,r⟩
 ·obtain⟨z,its,n,r,e⟩:=h.ok I.hok
  exact⟨its,r,⟨_,n,e,rfl,rfl,rfl⟩,z⟩
 ·refine⟨its.toList,r,⟨o,n,I.kIn a o hk,hc,hd,by simpa using hs⟩,?_⟩
  have e:=r.length
  simp only[Array.length_toList] at e
  omega
theorem Inv.tuple (I:Inv X pins σ H s) (h:SqT X.K H a xs): ∃its:List Value,Vals xs its∧IsTup s.heap a its.toArray∧xs.length≤sizeLine:=by
 rcases h with h |⟨o,its,n,hk,hc,_,hs,hz,r⟩
 ·obtain⟨z,its,r,p⟩:=h.ok I.hok
  exact⟨its,r,p.tup,z⟩
 ·refine⟨its.toList,r,⟨o,I.kIn a o hk,hc,n,by simpa using hs⟩,?_⟩
  have e:=r.length
  simp only[Array.length_toList] at e
  omega
theorem Inv.list_inj (I:Inv X pins σ H s) (h:SqL X.K H a xs) (h':SqL X.K H a ys):xs=ys:=by
 obtain⟨its,r,⟨o,n,e,_,_,d⟩,_⟩:=I.list h
 obtain⟨its',r',⟨o',n',e',_,_,d'⟩,_⟩:=I.list h'
 rw[e] at e';cases e'
 rw[d] at d'
 injection d' with d1 _
 have:its=its':=by simpa using congrArg Array.toList d1
 subst this
 exact r.inj r'
theorem Inv.tuple_inj (I:Inv X pins σ H s) (h:SqT X.K H a xs) (h':SqT X.K H a ys):xs=ys:=by
 obtain⟨its,r,⟨o,e,_,n,d⟩,_⟩:=I.tuple h
 obtain⟨its',r',⟨o',e',_,n',d'⟩,_⟩:=I.tuple h'
 rw[e] at e';cases e'
 rw[d] at d'
 injection d' with d1 _
 have:its=its':=by simpa using congrArg Array.toList d1
 subst this
 exact r.inj r'
end
noncomputable abbrev Cx.wish (X:Cx) (E:Value→Shared→Prop):Cx:={X with xe:=E}
noncomputable abbrev Cx.nox (X:Cx):Cx:=X.wish fun _ _=>False
theorem Cx.Ok.wish {X:Cx} (ok:X.Ok) (E:Value→Shared→Prop):(X.wish E).Ok:=
 ⟨ok.mod,ok.kind,ok.glob,ok.blt,ok.above,ok.inj,ok.has,ok.cab,ok.hd,ok.frames,ok.stk,ok.exf,ok.bs,ok.bsz,ok.noex,ok.exfs,ok.funs,ok.frf⟩
theorem Cx.Ok.unwish {X:Cx} {E:Value→Shared→Prop} (ok:(X.wish E).Ok):X.Ok:=
 ⟨ok.mod,ok.kind,ok.glob,ok.blt,ok.above,ok.inj,ok.has,ok.cab,ok.hd,ok.frames,ok.stk,ok.exf,ok.bs,ok.bsz,ok.noex,ok.exfs,ok.funs,ok.frf⟩
section
variable {X:Cx} {pins:List (Addr×Obj)} {σ:St} {H:Hp} {s:Shared} {E:Value→Shared→Prop}
theorem Inv.wish (I:Inv X pins σ H s) (E:Value→Shared→Prop):Inv (X.wish E) pins σ H s:=⟨I.ok.wish E,I.os,I.bare,I.base,I.loc,I.cell,I.free,I.freeC,I.pin,I.hok,I.len⟩
theorem Inv.unwish (I:Inv (X.wish E) pins σ H s):Inv X pins σ H s:=⟨I.ok.unwish,I.os,I.bare,I.base,I.loc,I.cell,I.free,I.freeC,I.pin,I.hok,I.len⟩
theorem SP.unwish {D:Ends} {f:Flow} {s':Shared} (h:SP (X.wish E) pins D f s'):SP X pins D f s':=by
 cases f with
 | next=>obtain⟨σ',H',I,q⟩:=h;exact⟨σ',H',I.unwish,q⟩
 | brk=>obtain⟨σ',H',I,q⟩:=h;exact⟨σ',H',I.unwish,q⟩
 | cont=>obtain⟨σ',H',I,q⟩:=h;exact⟨σ',H',I.unwish,q⟩
 | ret u=>obtain⟨v,σ',H',I,r,q⟩:=h;exact⟨v,σ',H',I.unwish,r,q⟩
theorem PSs.nox {st:List Stmt} {t:TS} (h:PSs X.nox st t):PSs X st t:=fun pins s σ H D I hw=>
 wpAny_mono (h pins s σ H D (I.wish _) hw) (fun _ _ q=>q.unwish) fun _ _ z=>False.elim z
end
section
variable {X:Cx} {st:Stmt} {rest:List Stmt} {t u:TS} {e:Expr} {te:TE} {pos:Pos}
noncomputable def tNext:TS:=fun D σ H=>D.nx σ H
noncomputable def tSeq (t u:TS):TS:=fun D σ H=>t {D with nx:=u D} σ H
theorem pss_nil:PSs X [] tNext:=fun _ _ σ H _ I h=>wpAny_execs_nil ⟨σ,H,I,h⟩
theorem pss_cons (h1:PS X st t) (h2:PSs X rest u):PSs X (st::rest) (tSeq t u):=by
 intro pins s σ H D I h
 refine wpAny_execs_cons (thn (h1 pins s σ H {D with nx:=u D} I h) fun f s1 q=> ?_)
 cases f with
 | next=>
  obtain⟨σ',H',I',q⟩:=q
  exact h2 pins s1 σ' H' D I' q
 | ret v=>exact q
 | brk=>exact q
 | cont=>exact q
theorem Inv.quiet {pins:List (Addr×Obj)} {σ:St} {H:Hp} {s:Shared} (I:Inv X pins σ H s):interactive X.env=false:=by simp[interactive,I.ok.kind]
noncomputable def tDrop (te:TE):TS:=fun D σ H=>te σ H fun _ H1=>D.nx σ H1
theorem ps_expr (he:PE X e te) (hs:swapsWith e none pos.line X.env=pure false:=by rfl):PS X (.Expr e pos) (tDrop te):=by
 intro pins s σ H D I h
 exact wpAny_Expr_any (thn (he pins s σ H _ I h) fun v s1 ⟨x,H1,I1,r1,q1⟩=>⟨σ,H1,I1,q1⟩) I.quiet hs
noncomputable def tRet (te:TE):TS:=fun D σ H=>te σ H D.rt
theorem ps_ret (he:PE X e te):PS X (.Return (some e) pos) (tRet te):=by
 intro pins s σ H D I h
 exact wpAny_Return_some (thn (he pins s σ H _ I h) fun v s1 ⟨x,H1,I1,r1,q1⟩=>⟨x,σ,H1,I1,r1,q1⟩)
noncomputable def tIfS (c:TT) (t u:TS):TS:=fun D σ H=>c σ H fun b H1=>if b=true then t D σ H1 else u D σ H1
theorem ps_if {c:Expr} {a b:List Stmt} {tc:TT} (hc:PT X c tc) (ha:PSs X a t) (hb:PSs X b u):PS X (.If c a b pos) (tIfS tc t u):=by
 intro pins s σ H D I h
 refine wpAny_If (thn (hc pins s σ H _ I h) fun d s1 ⟨H1,I1,q1⟩=> ?_)
 cases d with
 | true=>exact ha pins s1 σ H1 D I1 q1
 | false=>exact hb pins s1 σ H1 D I1 q1
end
noncomputable abbrev TG:=V→St→Hp→(St→Hp→Prop)→Prop
noncomputable abbrev TGs:=List V→St→Hp→(St→Hp→Prop)→Prop
noncomputable def PG (X:Cx) (target:Expr) (t:TG):Prop:=
 ∀(pins:List (Addr×Obj)) (s:Shared) (σ:St) (H:Hp) (v:V) (u:Value) (Q:St→Hp→Prop),Inv X pins σ H s→RelV v u→t v σ H Q→
  wpAny (model X.prog X.w) X.A (assign target X.env u) (fun _ s'=> ∃σ' H',Inv X pins σ' H' s'∧Q σ' H') X.xe s
noncomputable def PGs (X:Cx) (ts:List Expr) (t:TGs):Prop:=
 ∀(pins:List (Addr×Obj)) (s:Shared) (σ:St) (H:Hp) (vs:List V) (us:List Value) (Q:St→Hp→Prop),Inv X pins σ H s→Vals vs us→t vs σ H Q→
  wpAny (model X.prog X.w) X.A (assignInOrder ((assignEach ts X.env).map (·.2)) us) (fun _ s'=> ∃σ' H',Inv X pins σ' H' s'∧Q σ' H') X.xe s
noncomputable abbrev TSet:=V→V→V→Hp→(Hp→Prop)→Prop
section
variable {X:Cx} {pos:Pos}
noncomputable def gName (i:Nat):TG:=fun v σ H Q=>Q (σ.set i (some v)) H
theorem pg_name {i:Nat} {x:Str} (hN:X.N.Nodup) (hi:X.N[i]? =some x) (hx:Loc X.env.scope x) (hf:X.fn x=true∨X.env.scope.names.lookup x=some .local:=by first | exact .inl rfl | exact .inr rfl | assumption):PG X (.Name x pos) (gName i):=by
 intro pins s σ H v u Q I r h
 exact wpAny_assign_Name (store_ok I hN hi hx r (fun s' I'=>⟨_,H,I',h⟩) hf)
noncomputable def gNil:TGs:=fun vs σ H Q=>vs=[]∧Q σ H
noncomputable def gCons (t:TG) (u:TGs):TGs:=fun vs σ H Q=> ∃v r,vs=v::r∧t v σ H fun σ' H'=>u r σ' H' Q
theorem pgs_nil:PGs X [] gNil:=by
 intro pins s σ H vs us Q I r h
 obtain⟨e,h⟩:=h
 subst e
 cases r
 exact assignInOrder_nil ⟨σ,H,I,h⟩
theorem pgs_cons {e:Expr} {es:List Expr} {t:TG} {u:TGs} (h1:PG X e t) (h2:PGs X es u)
  (hs:(assignEach (e::es) X.env).map (·.2)=assign e X.env::(assignEach es X.env).map (·.2):=by rfl):PGs X (e::es) (gCons t u):=by
 intro pins s σ H vs us Q I r h
 obtain⟨v,vr,e1,h⟩:=h
 subst e1
 cases r with
 | cons r rr=>
  rw[hs]
  refine assignInOrder_cons (thn (h1 pins s σ H _ _ _ I r h) fun _ s1 ⟨σ1,H1,I1,q1⟩=> ?_)
  exact h2 pins s1 σ1 H1 _ _ Q I1 rr q1
noncomputable def gTup (K:PySem.W.Frag) (n:Nat) (t:TGs):TG:=fun v σ H Q=> ∃a xs,v= .ref a∧SqT K H a xs∧xs.length=n∧t xs σ H Q
theorem pg_tup {es:List Expr} {k:Nat} {t:TGs} {n:Nat} (hc:X.calm=true) (h:PGs X es t)
  (hn:(assignEach es X.env).length=n:=by rfl) (hst:(assignEach es X.env).findIdx? (·.1)=none:=by rfl):PG X (.Tuple es k pos) (gTup X.K n t):=by
 intro pins s σ H v u Q I r hw
 obtain⟨a,xs,e1,hq,hl,hw⟩:=hw
 subst e1
 cases r
 obtain⟨its,rv,ht,hz⟩:=I.tuple hq
 refine assign_Tuple_tuple (I.ok.hd hc) ht (by simp[hn,←hl,rv.length]) hst fun h' hx=> ?_
 have I1:Inv X pins σ H {s with heap:=h'}:=I.kept (t':=s.toks) fun b o e=>hx b o (Nat.ne_of_lt (Heap.lt_size e)) e
 exact h pins _ σ H xs _ Q I1 (by simpa using rv) hw
noncomputable def gSub (to ti:TE) (t:TSet):TG:=fun v σ H Q=>to σ H fun o H1=>ti σ H1 fun i H2=>t o i v H2 fun H3=>Q σ H3
noncomputable def tAsg (te:TE) (g:TG):TS:=fun D σ H=>te σ H fun x H1=>g x σ H1 D.nx
theorem ps_set {i:Nat} {x:Str} {e:Expr} {te:TE} {pos':Pos} (hN:X.N.Nodup) (hi:X.N[i]? =some x) (hx:Loc X.env.scope x) (he:PE X e te) (hs:swapsWith e (some (.Name x pos')) pos.line X.env=pure false:=by rfl) (hf:X.fn x=true∨X.env.scope.names.lookup x=some .local:=by first | exact .inl rfl | exact .inr rfl | assumption):
  PS X (.Assign [.Name x pos'] e pos) (tAsg te (gName i)):=by
 intro pins s σ H D I h
 refine wpAny_Assign_Name (thn (he pins s σ H _ I h) fun v s1 ⟨y,H1,I1,r1,q1⟩=> ?_) hs
 exact store_ok I1 hN hi hx r1 (fun s2 I2=>⟨_,H1,I2,q1⟩) hf
end
section
variable {X:Cx} {pos:Pos}
noncomputable def tWhile (c:TT) (tb:TS):TS:=fun D σ H=> ∃W:Nat→St→Hp→Prop,(∃m,W m σ H)∧∀m σ H,W m σ H→
 c σ H fun b H1=>if b=true then∃N:St→Hp→Prop,(∀σ' H',N σ' H'→∃m',m'<m∧W m' σ' H')∧tb {D with nx:=N,ct:=N,bk:=D.nx} σ H1 else D.nx σ H1
theorem ps_while {c:Expr} {body:List Stmt} {tc:TT} {tb:TS} (hp:PassesOwn (model X.prog X.w) X.A X.env X.xe) (hc:PT X c tc) (hb:PSs X body tb):PS X (.While c body [] pos) (tWhile tc tb):=by
 intro pins s σ H D I h
 obtain⟨W,⟨m0,w0⟩,turn⟩:=h
 refine wpAny_While (codeAny_whileLoop (fun n s'=> ∃σ' H',Inv X pins σ' H' s'∧W n σ' H') ?_ m0 ⟨σ,H,I,w0⟩)
 rintro n s1 ⟨σ1,H1,I1,w1⟩
 refine wpAny_passesOwn hp (thn (hc pins s1 σ1 H1 _ I1 (turn n σ1 H1 w1)) fun b s2 ⟨H2,I2,q2⟩=> ?_)
 cases b with
 | true=>
  obtain⟨N,hN,q2⟩:=q2
  rw[if_pos rfl]
  refine wpAny_passesOwn hp (thn (hb pins s2 σ1 H2 _ I2 q2) fun f s3 q3=> ?_)
  cases f with
  | next=>
   obtain⟨σ3,H3,I3,n3⟩:=q3
   obtain⟨m',hm,w3⟩:=hN σ3 H3 n3
   exact⟨m',hm,σ3,H3,I3,w3⟩
  | cont=>
   obtain⟨σ3,H3,I3,n3⟩:=q3
   obtain⟨m',hm,w3⟩:=hN σ3 H3 n3
   exact⟨m',hm,σ3,H3,I3,w3⟩
  | brk=>exact q3
  | ret v=>exact q3
 | false=>
  rw[if_neg Bool.false_ne_true]
  exact wpAny_execs_nil ⟨σ1,H2,I2,q2⟩
end
structure It where
 go:Nat→Hp→Prop
 yld:Nat→Hp→V→Hp→Prop
 stop:Nat→Hp→Prop
noncomputable def FpOk (X:Cx) (pins:List (Addr×Obj)) (H:Hp) (b:Addr):Prop:=
 H b=none∧b≠X.env.locals∧b∉X.fs∧(b∈X.ex∨X.s₀.heap.objs.size≤b)∧(∀x c,X.env.cells.lookup x=some c→c≠b)∧∀p∈X.pn++pins,p.1≠b
theorem Inv.fpOk {X:Cx} {pins:List (Addr×Obj)} {σ:St} {H H':Hp} {s:Shared} {b:Addr} (I:Inv X pins σ H s) (hb:s.heap.objs.size≤b) (hn:H' b=none):FpOk X pins H' b:=by
 refine⟨hn,Nat.ne_of_gt (Nat.lt_of_lt_of_le I.lt hb),I.nofs hb,.inr (Nat.le_trans I.sz hb),fun x c e z=> ?_,fun p hp z=> ?_⟩
 ·obtain⟨v,q⟩:=I.cell x c e
  exact absurd (Nat.lt_of_lt_of_le q.lt (by rw[z];exact hb)) (Nat.lt_irrefl _)
 ·exact absurd (Nat.lt_of_lt_of_le (Heap.lt_size (I.pin p hp).1) (by rw[z];exact hb)) (Nat.lt_irrefl _)
structure Turn (P:Program) (w:World) (K:PySem.W.Frag) (tg:Expr) (J:It) (fp:List Addr) (it:Addr) (tn:Nat→Heap→Prop):Prop where
 mem:it∈fp
 obj: ∀i h,tn i h→∀b∈fp,∃o,h.get? b=some o∧∀v,o.data≠ .cell v
 keep: ∀i h h',tn i h→(∀b∈fp,∀o,h.get? b=some o→h'.get? b=some o)→tn i h'
 item: ∀(X:Cx),X.prog=P→X.w=w→X.K=K→X.calm=true→∀(i:Nat) (pins:List (Addr×Obj)) (s:Shared) (σ:St) (H:Hp) (E:Value→Shared→Prop),Inv X pins σ H s→(∀b∈fp,FpOk X pins H b)→tn i s.heap→J.go i H→
  wpAny (model P w) X.A (pyNext (.ref it)) (fun r s1=> ∃u,r=some u∧
   wpAny (model P w) X.A (letOwnedTupleGo tg (.ref it) u) (fun _ s2=> ∃x H',Inv X pins σ H' s2∧RelV x u∧J.yld i H x H'∧tn (i+1) s2.heap∧∀b∈fp,H' b=none) E s1) E s
 done: ∀(X:Cx),X.prog=P→X.w=w→X.K=K→X.calm=true→∀(i:Nat) (pins:List (Addr×Obj)) (s:Shared) (σ:St) (H:Hp) (E:Value→Shared→Prop),Inv X pins σ H s→(∀b∈fp,FpOk X pins H b)→tn i s.heap→J.stop i H→
  wpAny (model P w) X.A (pyNext (.ref it)) (fun r s1=>r=none∧Inv X pins σ H s1) E s
 self: ∀(A:Around) (i:Nat) (s:Shared) (Q:Value→Shared→Prop) (E:Value→Shared→Prop),tn i s.heap→Q (.ref it) s→wpAny (model P w) A (pyIter (.ref it)) Q E s
noncomputable abbrev TI:=St→Hp→(It→Hp→Prop)→Prop
noncomputable def PIE (X:Cx) (pins:List (Addr×Obj)) (σ:St) (tg:Expr) (R:It→Hp→Prop) (itv:Value) (s2:Shared):Prop:=
 ∃(it:Addr) (fp:List Addr) (tn:Nat→Heap→Prop) (J:It) (H':Hp),itv= .ref it∧Inv X pins σ H' s2∧Turn X.prog X.w X.K tg J fp it tn∧tn 0 s2.heap∧(∀b∈fp,FpOk X pins H' b)∧R J H'
noncomputable def PI (X:Cx) (tg iter:Expr) (wi:TI):Prop:=
 ∀(pins:List (Addr×Obj)) (s:Shared) (σ:St) (H:Hp) (R:It→Hp→Prop),Inv X pins σ H s→wi σ H R→
  wpAny (model X.prog X.w) X.A (eval iter X.env) (fun v s1=>wpAny (model X.prog X.w) X.A (pyIter v) (PIE X pins σ tg R) X.xe s1) X.xe s
theorem go_of {M:Model} {A:Around} {E:Value→Shared→Prop} {s:Shared} {tg:Expr} {it:Addr} {u:Value} {o:Obj} {n:String} {vs:Array Value} {Q:Unit→Shared→Prop} (ho:s.heap.get? it=some o) (hc:o.cls= .type n) (hd:o.data= .fields vs)
  (hn:["enumerate","zip","dict_itemiterator","dict_reverseitemiterator","odict_iterator","itertools.zip_longest","itertools.pairwise"].contains n=false) (hQ:Q () s):wpAny M A (letOwnedTupleGo tg (.ref it) u) Q E s:=by
 unfold letOwnedTupleGo
 cases tg<;>first
  | exact wpAny_pure hQ
  |(cases u<;>first
    | exact wpAny_pure hQ
    |(refine wpAny_bind (wpAny_load ho ?_)
      rw[hc,hd]
      show wpAny M A (if (["enumerate","zip","dict_itemiterator","dict_reverseitemiterator","odict_iterator","itertools.zip_longest","itertools.pairwise"].contains n&&vs[0]? ==some (rawInt _))=true then _ else _) Q E s
      rw[if_neg (by intro h;rw[hn,Bool.false_and] at h;cases h)]
      exact wpAny_pure hQ))
noncomputable def Itl (K:PySem.W.Frag) (a:Addr):It:=
 ⟨fun i H=> ∃xs x,SqL K H a xs∧xs[i]? =some x,fun i H x H'=>H'=H∧∀xs,SqL K H a xs→xs[i]? =some x,fun i H=> ∃xs,SqL K H a xs∧xs.length≤i⟩
noncomputable def Itt (K:PySem.W.Frag) (a:Addr):It:=
 ⟨fun i H=> ∃xs x,SqT K H a xs∧xs[i]? =some x,fun i H x H'=>H'=H∧∀xs,SqT K H a xs→xs[i]? =some x,fun i H=> ∃xs,SqT K H a xs∧xs.length≤i⟩
noncomputable def Itr (lo:Int) (n:Nat):It:=⟨fun i _=>i<n,fun i H x H'=>H'=H∧x= .int (lo+i),fun i _=>n≤i⟩
theorem turn_list {P:Program} {w:World} {K:PySem.W.Frag} {tg:Expr} (a it:Addr):Turn P w K tg (Itl K a) [it] it (fun i h=>h.IsListIter it a i) where
 mem:=by simp
 obj:=fun i h st b hb=>by
  have e:b=it:=by simpa using hb
  subst e
  obtain⟨o,e,c,d⟩:=st
  exact⟨o,e,fun v z=>by rw[d] at z;cases z⟩
 keep:=fun i h h' st k=>st.at fun o e=>k it (by simp) o e
 item:=by
  intro X hP hw hK hc i pins s σ H E I hf st hg
  subst hP hw hK
  obtain⟨xs,x,hq,hx⟩:=hg
  obtain⟨its,rv,p,hz⟩:=I.list hq
  obtain⟨u,hu,ru⟩:=rv.get hx
  obtain⟨f0,f1,f2,f3,f4,f5⟩:=hf it (by simp)
  refine wpAny_pyNext_list_item st p.isList (x:=u) (by simpa using hu) fun h' st' sb=> ?_
  have I1:Inv X pins σ H {s with heap:=h'}:=I.turned (t':=s.toks) (fun b o hb e=>(sb.2 b hb).trans e) f0 f1 f3 f4 f5
  obtain⟨o,e,c,d⟩:=id st'
  exact⟨u,rfl,go_of (s:={s with heap:=h'}) e c d (by decide) ⟨x,H,I1,ru,⟨rfl,fun ys hy=>by rw[I.list_inj hy hq];exact hx⟩,st',fun b hb=>(hf b hb).1⟩⟩
 done:=by
  intro X hP hw hK hc i pins s σ H E I hf st hg
  subst hP hw hK
  obtain⟨xs,hq,hx⟩:=hg
  obtain⟨its,rv,p,hz⟩:=I.list hq
  obtain⟨f0,f1,f2,f3,f4,f5⟩:=hf it (by simp)
  have hl:=rv.length
  exact wpAny_pyNext_list_end (I.ok.hd hc) st p.isList (by simp;omega) fun h' eb=>⟨rfl,I.turned (t':=s.toks) (fun b o hb e=>eb b o hb e) f0 f1 f3 f4 f5⟩
 self:=fun _ _ _ _ _ st h=>wpAny_pyIter_listiter st h
theorem turn_tuple {P:Program} {w:World} {K:PySem.W.Frag} {tg:Expr} (a it:Addr):Turn P w K tg (Itt K a) [it] it (fun i h=>h.IsTupleIter it a i) where
 mem:=by simp
 obj:=fun i h st b hb=>by
  have e:b=it:=by simpa using hb
  subst e
  obtain⟨o,e,c,d⟩:=st
  exact⟨o,e,fun v z=>by rw[d] at z;cases z⟩
 keep:=fun i h h' st k=>st.at fun o e=>k it (by simp) o e
 item:=by
  intro X hP hw hK hc i pins s σ H E I hf st hg
  subst hP hw hK
  obtain⟨xs,x,hq,hx⟩:=hg
  obtain⟨its,rv,p,hz⟩:=I.tuple hq
  obtain⟨u,hu,ru⟩:=rv.get hx
  obtain⟨f0,f1,f2,f3,f4,f5⟩:=hf it (by simp)
  refine wpAny_pyNext_tuple_item st (show s.heap.IsTuple a its.toArray from p) (x:=u) (by simpa using hu) fun h' st' sb=> ?_
  have I1:Inv X pins σ H {s with heap:=h'}:=I.turned (t':=s.toks) (fun b o hb e=>(sb.2 b hb).trans e) f0 f1 f3 f4 f5
  obtain⟨o,e,c,d⟩:=id st'
  exact⟨u,rfl,go_of (s:={s with heap:=h'}) e c d (by decide) ⟨x,H,I1,ru,⟨rfl,fun ys hy=>by rw[I.tuple_inj hy hq];exact hx⟩,st',fun b hb=>(hf b hb).1⟩⟩
 done:=by
  intro X hP hw hK hc i pins s σ H E I hf st hg
  subst hP hw hK
  obtain⟨xs,hq,hx⟩:=hg
  obtain⟨its,rv,p,hz⟩:=I.tuple hq
  obtain⟨f0,f1,f2,f3,f4,f5⟩:=hf it (by simp)
  have hl:=rv.length
  exact wpAny_pyNext_tuple_end (I.ok.hd hc) st (show s.heap.IsTuple a its.toArray from p) (by simp;omega) fun h' eb=>⟨rfl,I.turned (t':=s.toks) (fun b o hb e=>eb b o hb e) f0 f1 f3 f4 f5⟩
 self:=fun _ _ _ _ _ st h=>wpAny_pyIter_tupleiter st h
theorem turn_range {P:Program} {w:World} {K:PySem.W.Frag} {tg:Expr} (it:Addr) (lo:Int) (n:Nat):Turn P w K tg (Itr lo n) [it] it (fun i h=>IsRangeIter h it (lo+(i:Nat)*1) ((n:Int)-(i:Nat)) 1) where
 mem:=by simp
 obj:=fun i h st b hb=>by
  have e:b=it:=by simpa using hb
  subst e
  exact⟨_,st,fun v z=>by
   have z':Data.fields _=Data.cell v:=z
   cases z'⟩
 keep:=fun i h h' st k=>k it (by simp) _ st
 item:=by
  intro X hP hw hK hc i pins s σ H E I hf st hg
  subst hP hw hK
  obtain⟨f0,f1,f2,f3,f4,f5⟩:=hf it (by simp)
  have W:=Walks.range (prog:=X.prog) (w:=X.w) (I.ok.hd hc) it lo 1 n
  refine W.item i s _ _ hg st fun v h' tk hv st' kk=> ?_
  obtain⟨t,rfl⟩:=hv
  have I1:Inv X pins σ H {s with heap:=h',toks:=tk}:=I.turned (fun b o hb e=>kk b o (by simpa using hb) e) f0 f1 f3 f4 f5
  refine⟨_,rfl,go_of (s:={s with heap:=h',toks:=tk}) (n:="range_iterator") st' rfl rfl (by decide) ⟨.int (lo+i),H,I1,⟨t,?_⟩,⟨rfl,rfl⟩,st',fun b hb=>(hf b hb).1⟩⟩
  rw[Int.mul_one]
 done:=by
  intro X hP hw hK hc i pins s σ H E I hf st hg
  subst hP hw hK
  obtain⟨f0,f1,f2,f3,f4,f5⟩:=hf it (by simp)
  exact wpAny_pyNext_range_end (I.ok.hd hc) st (by have:n≤i:=hg;omega) fun h' eb=>⟨rfl,I.turned (t':=s.toks) (fun b o hb e=>eb b o hb e) f0 f1 f3 f4 f5⟩
 self:=fun _ _ _ _ _ st h=>wpAny_pyIter_rangeiter st h
section
variable {X:Cx} {tg:Expr}
noncomputable def iList (K:PySem.W.Frag) (tl:TE):TI:=fun σ H R=>tl σ H fun x H1=> ∃a,x= .ref a∧(∃xs,SqL K H1 a xs)∧R (Itl K a) H1
theorem pi_list {l:Expr} {tl:TE} (hl:PE X l tl):PI X tg l (iList X.K tl):=by
 intro pins s σ H R I h
 refine thn (hl pins s σ H _ I h) fun v s1 ⟨x,H1,I1,r1,q1⟩=> ?_
 obtain⟨a,e,⟨xs,hq⟩,q⟩:=q1
 subst e
 cases r1
 obtain⟨its,rv,p,hz⟩:=I1.list hq
 refine wpAny_pyIter_list p.isList ?_
 refine⟨s1.heap.objs.size,[s1.heap.objs.size],_,_,H1,rfl,I1.kept (t':=s1.toks) fun b o e=>Heap.get?_push_of_some _ e,turn_list a _,⟨_,Heap.get?_push_size _ rfl,rfl,rfl⟩,fun b hb=> ?_,q⟩
 have e:b=s1.heap.objs.size:=by simpa using hb
 subst e
 exact I1.fpOk (Nat.le_refl _) (I1.hok.fresh (Nat.le_refl _))
theorem range_it {pins:List (Addr×Obj)} {σ:St} {H:Hp} {s:Shared} {R:It→Hp→Prop} {E:Value→Shared→Prop} {lo hi:Int} {t u v:Tok} {tk:Nat} (I:Inv X pins σ H s) (h1: -(2^62)≤lo) (h2:lo<2^62) (h3: -(2^62)≤hi) (h4:hi<2^62)
  (q:R (Itr lo (hi-lo).toNat) H):wpAny (model X.prog X.w) X.A (pyIter (.ref s.heap.objs.size)) (PIE X pins σ tg R) E {s with heap:=s.heap.push {cls:= .type "range",data:= .fields #[.int lo t,.int hi u,.int 1 v]},toks:=tk}:=by
 refine wpAny_pyIter_range (IsRange.new ..) (small_one h1 h2 h3 h4) ?_
 have I1:Inv X pins σ H {s with heap:=s.heap.push {cls:= .type "range",data:= .fields #[.int lo t,.int hi u,.int 1 v]},toks:=tk}:=I.kept fun b o e=>Heap.get?_push_of_some _ e
 refine⟨(s.heap.push {cls:= .type "range",data:= .fields #[.int lo t,.int hi u,.int 1 v]}).objs.size,[(s.heap.push {cls:= .type "range",data:= .fields #[.int lo t,.int hi u,.int 1 v]}).objs.size],_,_,H,rfl,
  I1.kept (t':=tk) fun b o e=>Heap.get?_push_of_some _ e,turn_range _ lo (hi-lo).toNat,?_,fun b hb=> ?_,q⟩
 ·have e1:lo+((0:Nat):Int)*1=lo:=by simp
  have e2:(((hi-lo).toNat:Nat):Int)-((0:Nat):Int)=Builtin.Range.rangeSize lo hi 1:=by rw[rangeSize_one];split<;>omega
  show IsRangeIter _ _ (lo+((0:Nat):Int)*1) ((((hi-lo).toNat:Nat):Int)-((0:Nat):Int)) 1
  rw[e1,e2]
  exact Heap.get?_push_size _ rfl
 ·have e:b=(s.heap.push {cls:= .type "range",data:= .fields #[.int lo t,.int hi u,.int 1 v]}).objs.size:=by simpa using hb
  subst e
  exact I1.fpOk (Nat.le_refl _) (I1.hok.fresh (Nat.le_refl _))
noncomputable def iRng1 (ta:TA):TI:=fun σ H R=>ta σ H fun vs H1=> ∃j:Int,vs=[.int j]∧ -(2^62)≤j∧j<2^62∧R (Itr 0 j.toNat) H1
noncomputable def iRng2 (ta:TA):TI:=fun σ H R=>ta σ H fun vs H1=> ∃i j:Int,vs=[.int i,.int j]∧(-(2^62)≤i∧i<2^62∧ -(2^62)≤j∧j<2^62)∧R (Itr i (j-i).toNat) H1
theorem pi_range1 {a:Expr} {ta:TA} {p pos:Pos} (hg:Gl X "range") (hm:X.mg "range"=none) (ha:PA X [a] ta) (hs:starEach [a] X.env=[(false,eval a X.env)]:=by rfl):PI X tg (.Call (.Name "range" p) [a] [] pos) (iRng1 ta):=by
 intro pins s σ H R I h
 refine Call_ (ld_blt I hg hm boot_range (PyProof.Rows.callWith_type1 (thn (ha pos pins s σ H _ I h) fun us s1 ⟨vs,H1,I1,r1,q1⟩=> ?_) hs rfl))
 obtain⟨j,e,q1,q2,q⟩:=q1
 subst e
 cases r1 with
 | cons r rr=>
  cases rr
  obtain⟨t,rfl⟩:=r
  exact call_range_1 (range_it I1 (by omega) (by omega) q1 q2 (by simpa using q))
theorem pi_range2 {a b:Expr} {ta:TA} {p pos:Pos} (hg:Gl X "range") (hm:X.mg "range"=none) (ha:PA X [a,b] ta) (hs:starEach [a,b] X.env=[(false,eval a X.env),(false,eval b X.env)]:=by rfl) (hs2:starEach [b] X.env=[(false,eval b X.env)]:=by rfl):
  PI X tg (.Call (.Name "range" p) [a,b] [] pos) (iRng2 ta):=by
 intro pins s σ H R I h
 refine Call_ (ld_blt I hg hm boot_range (PyProof.Rows.callWith_type1 (thn (ha pos pins s σ H _ I h) fun us s1 ⟨vs,H1,I1,r1,q1⟩=> ?_) (by rw[hs,hs2]) (by rw[hs2];rfl)))
 obtain⟨i,j,e,⟨q1,q2,q3,q4⟩,q⟩:=q1
 subst e
 cases r1 with
 | cons r rr=>
  cases rr with
  | cons r' rr=>
   cases rr
   obtain⟨t,rfl⟩:=r
   obtain⟨t',rfl⟩:=r'
   exact call_range_2 (range_it I1 q1 q2 q3 q4 q)
noncomputable def tFor (wi:TI) (g:TG) (tb:TS):TS:=fun D σ H=>wi σ H fun J H1=> ∃W:Nat→Nat→St→Hp→Prop,(∃m,W 0 m σ H1)∧∀i m σ H,W i m σ H→
 (J.stop i H∧D.nx σ H)∨(J.go i H∧∃N:St→Hp→Prop,(∀σ' H',N σ' H'→∃m',m'<m∧W (i+1) m' σ' H')∧∀x H',J.yld i H x H'→g x σ H' fun σ2 H2=>tb {D with nx:=N,ct:=N,bk:=D.nx} σ2 H2)
noncomputable def pinsAt (fp:List Addr) (h:Heap):List (Addr×Obj):=fp.filterMap fun b=>(h.get? b).map fun o=>(b,o)
theorem mem_pinsAt {fp:List Addr} {h:Heap} {b:Addr} {o:Obj} (hb:b∈fp) (e:h.get? b=some o):(b,o)∈pinsAt fp h:=List.mem_filterMap.mpr ⟨b,hb,by rw[e];rfl⟩
theorem of_pinsAt {fp:List Addr} {h:Heap} {p:Addr×Obj} (hp:p∈pinsAt fp h):p.1∈fp∧h.get? p.1=some p.2:=by
 obtain⟨b,hb,e⟩:=List.mem_filterMap.mp hp
 cases q:h.get? b with
 | none=>rw[q] at e;cases e
 | some o=>
  rw[q] at e
  have e':(b,o)=p:=Option.some.inj e
  subst e'
  exact⟨hb,q⟩
theorem Inv.pinned {pins:List (Addr×Obj)} {σ:St} {H:Hp} {s:Shared} {fp:List Addr} (I:Inv X pins σ H s) (hf: ∀b∈fp,FpOk X pins H b) (ho: ∀b∈fp,∃o,s.heap.get? b=some o∧∀v,o.data≠ .cell v):Inv X (pins++pinsAt fp s.heap) σ H s:=
 I.pins_of fun p hp=>(List.mem_append.mp hp).elim (fun z=>I.pin p (List.mem_append_right _ z)) fun z=>by
  obtain⟨hb,e⟩:=of_pinsAt z
  obtain⟨f0,f1,f2,_⟩:=hf p.1 hb
  obtain⟨o,e',d⟩:=ho p.1 hb
  rw[e] at e';cases e'
  exact⟨e,f0,f1,f2,d⟩
theorem Inv.unpinned {pins pl:List (Addr×Obj)} {σ:St} {H:Hp} {s:Shared} (I:Inv X (pins++pl) σ H s):Inv X pins σ H s:=I.pins_of fun p hp=>I.pin p (List.mem_append_right _ (List.mem_append_left _ hp))
theorem ps_for {iter:Expr} {body:List Stmt} {wi:TI} {g:TG} {tb:TS} {pos:Pos} (hp:PassesOwn (model X.prog X.w) X.A X.env X.xe) (hc:X.calm=true) (hi:PI X tg iter wi) (hg:PG X tg g) (hb:PSs X body tb)
  (hs: ∀x,foldedSetIterable iter X.env x=pure x:=by intro _;rfl):PS X (.For tg iter body [] pos) (tFor wi g tb):=by
 intro pins s σ H D I h
 refine wpAny_For (thn (hi pins s σ H _ I h) fun v s1 h1=>thn h1 fun itv s2 h2=> ?_) hs
 obtain⟨it,fp,tn,J,H2,e,I2,T,st2,f2,W,⟨m0,w0⟩,turn⟩:=h2
 subst e
 have stat: ∀{H':Hp},(∀b∈fp,H' b=none)→∀b∈fp,FpOk X pins H' b:=fun hn b hb=>⟨hn b hb,(f2 b hb).2⟩
 refine codeAny_forLoop_any (fun n s'=> ∃i σ' H',Inv X pins σ' H' s'∧tn i s'.heap∧(∀b∈fp,H' b=none)∧W i n σ' H') ?_ m0 ⟨0,σ,H2,I2,st2,fun b hb=>(f2 b hb).1,w0⟩
 rintro n s3 ⟨i,σ3,H3,I3,st3,fr3,w3⟩
 rcases turn i n σ3 H3 w3 with⟨stop,qn⟩ |⟨go,N,hN,step⟩
 ·refine wpAny_passesOwn hp (thn (T.done X rfl rfl rfl hc i pins s3 σ3 H3 X.xe I3 (stat fr3) st3 stop) fun r s4 ⟨hr,I4⟩=> ?_)
  subst hr
  exact wpAny_execs_nil ⟨σ3,H3,I4,qn⟩
 ·refine wpAny_passesOwn hp (thn (T.item X rfl rfl rfl hc i pins s3 σ3 H3 X.xe I3 (stat fr3) st3 go) fun r s4 ⟨u,hr,h4⟩=> ?_)
  subst hr
  refine wpAny_passesOwn hp (thn h4 fun _ s5 ⟨x,H5,I5,r5,y5,st5,fr5⟩=> ?_)
  have I5':=I5.pinned (stat fr5) (T.obj _ _ st5)
  refine wpAny_passesOwn hp (thn (hg _ s5 σ3 H5 x u _ I5' r5 (step x H5 y5)) fun _ s6 ⟨σ6,H6,I6,q6⟩=> ?_)
  refine wpAny_passesOwn hp (thn (hb _ s6 σ6 H6 _ I6 q6) fun f s7 q7=> ?_)
  have again: ∀{σ7:St} {H7:Hp},Inv X (pins++pinsAt fp s5.heap) σ7 H7 s7→N σ7 H7→∃m,m<n∧∃i σ' H',Inv X pins σ' H' s7∧tn i s7.heap∧(∀b∈fp,H' b=none)∧W i m σ' H':=fun {σ7 H7} I7 n7=>by
   obtain⟨m',hm,w7⟩:=hN σ7 H7 n7
   refine⟨m',hm,i+1,σ7,H7,I7.unpinned,T.keep _ _ _ st5 fun b hb o e=>(I7.pin (b,o) (List.mem_append_right _ (List.mem_append_right _ (mem_pinsAt hb e)))).1,fun b hb=> ?_,w7⟩
   obtain⟨o,e,d⟩:=T.obj _ _ st5 b hb
   exact (I7.pin (b,o) (List.mem_append_right _ (List.mem_append_right _ (mem_pinsAt hb e)))).2.1
  cases f with
  | next=>obtain⟨σ7,H7,I7,n7⟩:=q7;exact again I7 n7
  | cont=>obtain⟨σ7,H7,I7,n7⟩:=q7;exact again I7 n7
  | brk=>obtain⟨σ7,H7,I7,q7⟩:=q7;exact⟨σ7,H7,I7.unpinned,q7⟩
  | ret v=>obtain⟨x7,σ7,H7,I7,r7,q7⟩:=q7;exact⟨x7,σ7,H7,I7.unpinned,r7,q7⟩
end
noncomputable abbrev R2:=V→V→Hp→VK→Prop
noncomputable def OpR (X:Cx) (f:Value→Value→Sem Value) (r:R2):Prop:=
 ∀(pins:List (Addr×Obj)) (s:Shared) (σ:St) (H:Hp) (x y:V) (v u:Value) (Q:VK),Inv X pins σ H s→RelV x v→RelV y u→r x y H Q→
  wpAny (model X.prog X.w) X.A (f v u) (EP X pins σ Q) X.xe s
noncomputable def CallR (X:Cx) (f:Value) (r:List V→Hp→VK→Prop):Prop:=
 ∀(pins:List (Addr×Obj)) (s:Shared) (σ:St) (H:Hp) (xs:List V) (us:List Value) (Q:VK),Inv X pins σ H s→Vals xs us→r xs H Q→
  wpAny (model X.prog X.w) X.A (call f us) (EP X pins σ Q) X.xe s
noncomputable def TruR (X:Cx) (r:V→Hp→(Bool→Hp→Prop)→Prop):Prop:=
 ∀(pins:List (Addr×Obj)) (s:Shared) (σ:St) (H:Hp) (x:V) (v:Value) (Q:Bool→Hp→Prop),Inv X pins σ H s→RelV x v→r x H Q→
  wpAny (model X.prog X.w) X.A (truthy v) (TP X pins σ Q) X.xe s
noncomputable def tOp (r:R2) (ta tb:TE):TE:=fun σ H Q=>ta σ H fun x H1=>tb σ H1 fun y H2=>r x y H2 Q
noncomputable def rI (C:Int→Int→Prop) (g:Int→Int→V):R2:=fun x y H Q=> ∃i j,x= .int i∧y= .int j∧C i j∧Q (g i j) H
noncomputable def rI0 (g:Int→Int→V):R2:=fun x y H Q=> ∃i j,x= .int i∧y= .int j∧Q (g i j) H
section
variable {X:Cx} {a b c:Expr} {ta tb tc:TE} {pos:Pos}
theorem binT (ha:PE X a ta) (hb:PE X b tb) {pins:List (Addr×Obj)} {s:Shared} {σ:St} {H:Hp} {R:V→V→Hp→Prop} (I:Inv X pins σ H s)
  (h:ta σ H fun x H1=>tb σ H1 fun y H2=>R x y H2) {Q:Value→Shared→Prop} {f:Value→Value→Sem Value}
  (hf: ∀v u s2 x y H2,Inv X pins σ H2 s2→RelV x v→RelV y u→R x y H2→wpAny (model X.prog X.w) X.A (f v u) Q X.xe s2):
  wpAny (model X.prog X.w) X.A (eval a X.env) (fun v s₁=>wpAny (model X.prog X.w) X.A (eval b X.env) (fun u s₂=>wpAny (model X.prog X.w) X.A (f v u) Q X.xe s₂) X.xe s₁) X.xe s:=by
 refine thn (ha pins s σ H _ I h) fun v s1 ⟨x,H1,I1,r1,q1⟩=> ?_
 refine thn (hb pins s1 σ H1 _ I1 q1) fun u s2 ⟨y,H2,I2,r2,q2⟩=> ?_
 exact hf v u s2 x y H2 I2 r1 r2 q2
theorem pe_op {op:Operator} {r:R2} (ho:OpR X (binaryOp op) r) (ha:PE X a ta) (hb:PE X b tb):PE X (.BinOp a op b pos) (tOp r ta tb):=by
 intro pins s σ H Q I h
 exact wpAny_BinOp (binT ha hb I h fun v u s2 x y H2 I2 rx ry q=>ho pins s2 σ H2 x y v u Q I2 rx ry q)
theorem opI {f:Value→Value→Sem Value} {C:Int→Int→Prop} {g:Int→Int→Int}
  (rule: ∀(i j:Int) (t u:Tok) (s:Shared) (Q:Value→Shared→Prop) (E:Value→Shared→Prop),C i j→Q (.int (g i j) s.toks) {s with toks:=s.toks+1}→wpAny (model X.prog X.w) X.A (f (.int i t) (.int j u)) Q E s):
  OpR X f (rI C fun i j=> .int (g i j)):=by
 intro pins s σ H x y v u Q I rx ry h
 obtain⟨i,j,rfl,rfl,hc,q⟩:=h
 obtain⟨t,rfl⟩:=rx
 obtain⟨t',rfl⟩:=ry
 exact rule i j t t' s _ _ hc ⟨.int (g i j),H,I.tok _,⟨_,rfl⟩,q⟩
theorem opI0 {f:Value→Value→Sem Value} {g:Int→Int→Int}
  (rule: ∀(i j:Int) (t u:Tok) (s:Shared) (Q:Value→Shared→Prop) (E:Value→Shared→Prop),Q (.int (g i j) s.toks) {s with toks:=s.toks+1}→wpAny (model X.prog X.w) X.A (f (.int i t) (.int j u)) Q E s):
  OpR X f (rI0 fun i j=> .int (g i j)):=by
 intro pins s σ H x y v u Q I rx ry h
 obtain⟨i,j,rfl,rfl,q⟩:=h
 obtain⟨t,rfl⟩:=rx
 obtain⟨t',rfl⟩:=ry
 exact rule i j t t' s _ _ ⟨.int (g i j),H,I.tok _,⟨_,rfl⟩,q⟩
theorem opB0 {f:Value→Value→Sem Value} {g:Int→Int→Bool}
  (rule: ∀(i j:Int) (t u:Tok) (s:Shared) (Q:Value→Shared→Prop) (E:Value→Shared→Prop),Q (.bool (g i j)) s→wpAny (model X.prog X.w) X.A (f (.int i t) (.int j u)) Q E s):
  OpR X f (rI0 fun i j=> .bl (g i j)):=by
 intro pins s σ H x y v u Q I rx ry h
 obtain⟨i,j,rfl,rfl,q⟩:=h
 obtain⟨t,rfl⟩:=rx
 obtain⟨t',rfl⟩:=ry
 exact rule i j t t' s _ _ ⟨.bl (g i j),H,I,rfl,q⟩
noncomputable def CDiv (i j:Int):Prop:=0<j∧j<1073741824
noncomputable def CPow (i j:Int):Prop:=0≤j∧j≤1000000∧i.natAbs<2^64
theorem op_add:OpR X (binaryOp .Add) (rI0 fun i j=> .int (i+j)):=opI0 fun _ _ _ _ _ _ _ q=>add_int q
theorem op_sub:OpR X (binaryOp .Sub) (rI0 fun i j=> .int (i-j)):=opI0 fun _ _ _ _ _ _ _ q=>sub_int q
theorem op_fdiv:OpR X (binaryOp .FloorDiv) (rI CDiv fun i j=> .int (i/j)):=opI fun i j _ _ _ _ _ hc q=>by
 have h1:(0:Int)<j:=hc.1
 have h2:j<1073741824:=hc.2
 exact floordiv_int (by omega) (by rw[Int.fdiv_eq_ediv_of_nonneg i (by omega)];exact q) (.inl (PyProof.noPylong_small (by omega)))
theorem op_mod:OpR X (binaryOp .Mod) (rI (fun _ j=>0<j) fun i j=> .int (i%j)):=opI fun i j _ _ _ _ _ hc q=>by
 have h1:(0:Int)<j:=hc
 exact mod_int' (by omega) (by rw[Int.fmod_eq_emod_of_nonneg i (by omega)];exact q)
theorem op_pow:OpR X (binaryOp .Pow) (rI CPow fun i j=> .int (i^j.toNat)):=opI fun _ _ _ _ _ _ _ hc q=>pow_int_small hc.1 hc.2.1 hc.2.2 q
theorem op_shl:OpR X (binaryOp .LShift) (rI CPow fun i j=> .int (i*2^j.toNat)):=opI fun _ _ _ _ _ _ _ hc q=>lshift_int_small hc.1 hc.2.1 hc.2.2 q
theorem op_and:OpR X (binaryOp .BitAnd) (rI0 fun i j=> .int (Builtin.bitAnd i j)):=opI0 fun _ _ _ _ _ _ _ q=>and_int q
theorem op_or:OpR X (binaryOp .BitOr) (rI0 fun i j=> .int (Builtin.bitOr i j)):=opI0 fun _ _ _ _ _ _ _ q=>or_int q
end
noncomputable def scal:V→V→Bool
 | .non,.non=>true | .non,.int _=>true | .int _,.non=>true | .non,.bl _=>true | .bl _,.non=>true | .non,.str _=>true | .str _,.non=>true
 | .int _,.int _=>true | .bl _,.bl _=>true | .str _,.str _=>true | .byt _,.byt _=>true
 | .int _,.str _=>true | .str _,.int _=>true | .bl _,.str _=>true | .str _,.bl _=>true
 | _,_=>false
noncomputable def rEq:R2:=fun x y H Q=>scal x y=true∧Q (.bl (decide (x=y))) H
noncomputable def rNe:R2:=fun x y H Q=>scal x y=true∧Q (.bl (!decide (x=y))) H
theorem dec_int {i j:Int}:decide (V.int i=V.int j)=(i==j):=by
 rw[Bool.eq_iff_iff]
 simp
theorem dec_bl {i j:Bool}:decide (V.bl i=V.bl j)=(i==j):=by
 rw[Bool.eq_iff_iff]
 simp
theorem dec_str {i j:Str}:decide (V.str i=V.str j)=(i==j):=by
 rw[Bool.eq_iff_iff]
 simp
theorem dec_byt {i j:Array UInt8}:decide (V.byt i=V.byt j)=(i.toList==j.toList):=by
 rw[Bool.eq_iff_iff]
 cases i
 cases j
 simp
section
variable {X:Cx} {a b c:Expr} {ta tb tc:TE} {pos:Pos}
theorem aA8 {pins:List (Addr×Obj)} {σ:St} {H:Hp} {s:Shared} {Q:VK} {k k':Bool} (I:Inv X pins σ H s) (q:Q (.bl k) H) (e:k=k'):EP X pins σ Q (.bool k') s:=by
 subst e
 exact⟨.bl k,H,I,rfl,q⟩
theorem op_eq:OpR X (compareOp .Eq) rEq:=by
 intro pins s σ H x y v u Q I rx ry h
 obtain⟨hs,q⟩:=h
 cases x with
 | non=>
  cases rx
  cases y with
  | non=>cases ry;exact PySem.EqNone.eq_none_none (aA8 I q (by simp))
  | bl j=>cases ry;exact PySem.EqNone.eq_none_bool (aA8 I q (by simp))
  | int j=>obtain⟨t',rfl⟩:=ry;exact PySem.EqNone.eq_none_int (aA8 I q (by simp))
  | str j=>obtain⟨t',rfl⟩:=ry;exact PySem.EqNone.eq_none_str (aA8 I q (by simp))
  | _=>exact absurd (show false=true from hs) Bool.false_ne_true
 | bl i=>
  cases rx
  cases y with
  | non=>cases ry;exact PySem.EqNone.eq_bool_none (aA8 I q (by simp))
  | bl j=>cases ry;exact eq_bool (aA8 I q dec_bl)
  | str j=>obtain⟨t',rfl⟩:=ry;exact PySem.EqMixed.eq_bool_str (aA8 I q (by simp))
  | _=>exact absurd (show false=true from hs) Bool.false_ne_true
 | int i=>
  obtain⟨t,rfl⟩:=rx
  cases y with
  | non=>cases ry;exact PySem.EqNone.eq_int_none (aA8 I q (by simp))
  | int j=>obtain⟨t',rfl⟩:=ry;exact eq_int (aA8 I q dec_int)
  | str j=>obtain⟨t',rfl⟩:=ry;exact PySem.EqMixed.eq_int_str (aA8 I q (by simp))
  | _=>exact absurd (show false=true from hs) Bool.false_ne_true
 | str i=>
  obtain⟨t,rfl⟩:=rx
  cases y with
  | non=>cases ry;exact PySem.EqNone.eq_str_none (aA8 I q (by simp))
  | bl j=>cases ry;exact PySem.EqMixed.eq_str_bool (aA8 I q (by simp))
  | int j=>obtain⟨t',rfl⟩:=ry;exact PySem.EqMixed.eq_str_int (aA8 I q (by simp))
  | str j=>obtain⟨t',rfl⟩:=ry;exact eq_str (aA8 I q dec_str)
  | _=>exact absurd (show false=true from hs) Bool.false_ne_true
 | byt i=>
  obtain⟨t,rfl⟩:=rx
  cases y with
  | byt j=>obtain⟨t',rfl⟩:=ry;exact PySem.W.eq_bytes (aA8 I q dec_byt)
  | _=>exact absurd (show false=true from hs) Bool.false_ne_true
 | _=>cases y<;>exact absurd (show false=true from hs) Bool.false_ne_true
theorem op_ne:OpR X (compareOp .NotEq) rNe:=by
 intro pins s σ H x y v u Q I rx ry h
 obtain⟨hs,q⟩:=h
 cases x with
 | non=>
  cases rx
  cases y with
  | non=>cases ry;exact PySem.EqNone.ne_none_none (aA8 I q (by simp))
  | bl j=>cases ry;exact PySem.EqNone.ne_none_bool (aA8 I q (by simp))
  | int j=>obtain⟨t',rfl⟩:=ry;exact PySem.EqNone.ne_none_int (aA8 I q (by simp))
  | str j=>obtain⟨t',rfl⟩:=ry;exact PySem.EqNone.ne_none_str (aA8 I q (by simp))
  | _=>exact absurd (show false=true from hs) Bool.false_ne_true
 | bl i=>
  cases rx
  cases y with
  | non=>cases ry;exact PySem.EqNone.ne_bool_none (aA8 I q (by simp))
  | bl j=>cases ry;exact ne_bool (aA8 I q (congrArg not dec_bl))
  | str j=>obtain⟨t',rfl⟩:=ry;exact PySem.EqMixed.ne_bool_str (aA8 I q (by simp))
  | _=>exact absurd (show false=true from hs) Bool.false_ne_true
 | int i=>
  obtain⟨t,rfl⟩:=rx
  cases y with
  | non=>cases ry;exact PySem.EqNone.ne_int_none (aA8 I q (by simp))
  | int j=>obtain⟨t',rfl⟩:=ry;exact ne_int (aA8 I q (congrArg not dec_int))
  | str j=>obtain⟨t',rfl⟩:=ry;exact PySem.EqMixed.ne_int_str (aA8 I q (by simp))
  | _=>exact absurd (show false=true from hs) Bool.false_ne_true
 | str i=>
  obtain⟨t,rfl⟩:=rx
  cases y with
  | non=>cases ry;exact PySem.EqNone.ne_str_none (aA8 I q (by simp))
  | bl j=>cases ry;exact PySem.EqMixed.ne_str_bool (aA8 I q (by simp))
  | int j=>obtain⟨t',rfl⟩:=ry;exact PySem.EqMixed.ne_str_int (aA8 I q (by simp))
  | str j=>obtain⟨t',rfl⟩:=ry;exact ne_str (aA8 I q (congrArg not dec_str))
  | _=>exact absurd (show false=true from hs) Bool.false_ne_true
 | byt i=>
  obtain⟨t,rfl⟩:=rx
  cases y with
  | byt j=>obtain⟨t',rfl⟩:=ry;exact PySem.W.ne_bytes (aA8 I q (congrArg not dec_byt))
  | _=>exact absurd (show false=true from hs) Bool.false_ne_true
 | _=>cases y<;>exact absurd (show false=true from hs) Bool.false_ne_true
theorem op_lt:OpR X (compareOp .Lt) (rI0 fun i j=> .bl (decide (i<j))):=opB0 fun _ _ _ _ _ _ _ q=>lt_int q
theorem op_gt:OpR X (compareOp .Gt) (rI0 fun i j=> .bl (decide (j<i))):=opB0 fun _ _ _ _ _ _ _ q=>gt_int q
theorem op_isN:OpR X (compareOp .Is) (fun x y H Q=>y= .non∧Q (.bl (decide (x= .non))) H):=by
 intro pins s σ H x y v u Q I rx ry h
 obtain⟨rfl,q⟩:=h
 cases ry
 refine is_none_gen (aA8 I q ?_)
 cases x<;>first
  |(cases rx;rfl)
  |(obtain⟨t,rfl⟩:=rx;rfl)
theorem OpR.or {f:Value→Value→Sem Value} {r r':R2} (h:OpR X f r) (h':OpR X f r'):OpR X f (fun x y H Q=>r x y H Q∨r' x y H Q):=by
 intro pins s σ H x y v u Q I rx ry q
 rcases q with q | q
 ·exact h pins s σ H x y v u Q I rx ry q
 ·exact h' pins s σ H x y v u Q I rx ry q
theorem nomark (b:Expr) {op:CmpOp} (h:op≠ .In:=by decide) (h2:op≠ .NotIn:=by decide):behindInMarks op b=false:=by
 have e1:(op==CmpOp.In)=false:=by cases op<;>first | rfl | exact absurd rfl h
 have e2:(op==CmpOp.NotIn)=false:=by cases op<;>first | rfl | exact absurd rfl h2
 cases b<;>simp[behindInMarks,e1,e2]
theorem pe_cmpR {op:CmpOp} {r:R2} (ho:OpR X (compareOp op) r) (ha:PE X a ta) (hb:PE X b tb) (hm:behindInMarks op b=false):PE X (.Compare a [op] [b] pos) (tOp r ta tb):=by
 intro pins s σ H Q I h
 exact wpAny_Compare1 (binT ha hb I h fun v u s2 x y H2 I2 rx ry q=>ho pins s2 σ H2 x y v u Q I2 rx ry q) hm
noncomputable def tTest (t:TE):TT:=fun σ H Q=>t σ H fun x H'=> ∃k,x= .bl k∧Q k H'
theorem pt_cmpR {op:CmpOp} {r:R2} (ho:OpR X (compareOp op) r) (ha:PE X a ta) (hb:PE X b tb) (hm:behindInMarks op b=false):PT X (.Compare a [op] [b] pos) (tTest (tOp r ta tb)):=by
 intro pins s σ H Q I h
 refine wpAny_isTrue_Compare1 (thn (ha pins s σ H _ I h) fun v s1 ⟨x,H1,I1,r1,q1⟩=>thn (hb pins s1 σ H1 _ I1 q1) fun u s2 ⟨y,H2,I2,r2,q2⟩=>
  thn (ho pins s2 σ H2 x y v u _ I2 r1 r2 q2) fun c s3 ⟨z,H3,I3,r3,k,e,q3⟩=> ?_) hm
 subst e
 cases r3
 exact wpAny_truthy_bool ⟨H3,I3,q3⟩
noncomputable def TruV (K:PySem.W.Frag) (x:V) (H:Hp) (k:Bool):Prop:=
 match x with
 | .non=>k=false
 | .bl b=>k=b
 | .int i=>k=(i !=0)
 | .str y=>y.length≤sizeLine∧k=((y.length:Int) !=0)
 | .byt y=>y.size≤sizeLine∧k=((y.size:Int) !=0)
 | .ref p=>(∃xs,SqL K H p xs∧k= !xs.isEmpty)∨(∃xs,SqT K H p xs∧k= !xs.isEmpty)∨∃kvs,H p=some (.dK kvs)∧k= !kvs.isEmpty
 | _=>False
theorem isEmpty_kv {κ:Type} {kvs:List (κ×V)} {vs:List (κ×Value)} (r:KV kvs vs):(!vs.isEmpty)= !kvs.isEmpty:=by
 cases r<;>rfl
theorem isEmpty_of {xs:List V} {its:List Value} (r:Vals xs its):(!its.toArray.isEmpty)= !xs.isEmpty:=by
 cases r<;>simp
theorem line63:(sizeLine:Nat)<2^63:=by rw[sizeLine_eq];decide
theorem tru_ok:TruR X (fun x H Q=> ∃k,TruV X.K x H k∧Q k H):=by
 intro pins s σ H x v Q I rx h
 obtain⟨k,e,q⟩:=h
 have hl:=line63
 have hs:sizeLine=16777216:=sizeLine_eq
 cases x with
 | non=>
  cases rx
  have e':k=false:=e
  subst e'
  exact truthy_none ⟨H,I,q⟩
 | bl b=>
  cases rx
  have e':k=b:=e
  subst e'
  exact wpAny_truthy_bool ⟨H,I,q⟩
 | int i=>
  obtain⟨t,rfl⟩:=rx
  have e':k=(i !=0):=e
  subst e'
  exact PySem.P.truthy_int ⟨H,I,q⟩
 | str y=>
  obtain⟨t,rfl⟩:=rx
  obtain⟨hy,e'⟩:y.length≤sizeLine∧k=((y.length:Int) !=0):=e
  subst e'
  exact PySem.P.truthy_str (by omega) ⟨H,I.tok _,q⟩
 | byt y=>
  obtain⟨t,rfl⟩:=rx
  obtain⟨hy,e'⟩:y.size≤sizeLine∧k=((y.size:Int) !=0):=e
  subst e'
  exact PySem.W.truthy_bytes (by omega) ⟨H,I.tok _,q⟩
 | ref p=>
  cases rx
  have e':(∃xs,SqL X.K H p xs∧k= !xs.isEmpty)∨(∃xs,SqT X.K H p xs∧k= !xs.isEmpty)∨∃kvs,H p=some (.dK kvs)∧k= !kvs.isEmpty:=e
  rcases e' with⟨xs,hx,e'⟩ |⟨xs,hx,e'⟩ |⟨kvs,hx,e'⟩
  ·subst e'
   obtain⟨its,r,pl,hz⟩:=I.list hx
   have hlen:=r.length
   exact wpAny_truthy_list pl.isList (by simp only[List.size_toArray];omega) ⟨H,I.tok _,by rw[isEmpty_of r];exact q⟩
  ·subst e'
   obtain⟨its,r,pl,hz⟩:=I.tuple hx
   have hlen:=r.length
   exact truthy_tuple pl (by simp only[List.size_toArray];omega) ⟨H,I.tok _,by rw[isEmpty_of r];exact q⟩
  ·subst e'
   obtain⟨hz,hS,vs,r,m⟩:kvs.length≤sizeLine∧(p==sysModules)=false∧∃vs,KV kvs vs∧s.heap.DictOf (aBh X.prog X.w) p vs:=I.hok p _ hx
   have hlen:kvs.length=vs.length:=Paired.length r
   exact wpAny_truthy_dict hS m (by omega) ⟨H,I.tok _,by rw[isEmpty_kv r];exact q⟩
 | _=>exact (show False from e).elim
theorem pt_truth (ha:PE X a ta) (he: ∀whole,isTrue a X.env whole=(do let v←whole;standAt a.pos;holding [v] (truthy v))):
  PT X a (fun σ H Q=>ta σ H fun x H'=> ∃k,TruV X.K x H' k∧Q k H'):=by
 intro pins s σ H Q I h
 exact isTrue_plain (thn (ha pins s σ H _ I h) fun v s1 ⟨x,H1,I1,r1,q1⟩=>tru_ok pins s1 σ H1 x v Q I1 r1 q1) (he _)
theorem op_add_str:OpR X (binaryOp .Add) (fun x y H Q=> ∃i j,x= .str i∧y= .str j∧i.length+j.length≤sizeLine∧Q (.str (i++j)) H):=by
 intro pins s σ H x y v u Q I rx ry h
 obtain⟨i,j,rfl,rfl,hz,q⟩:=h
 obtain⟨t,rfl⟩:=rx
 obtain⟨t',rfl⟩:=ry
 exact add_str (fun t' tk=>⟨.str (i++j),H,I.tok _,⟨_,rfl⟩,q⟩) hz
theorem vals1 {x:V} {us:List Value} (r:Vals [x] us): ∃u,us=[u]∧RelV x u:=by
 cases r with
 | cons r1 r2=>cases r2;exact⟨_,rfl,r1⟩
theorem vals2 {x y:V} {us:List Value} (r:Vals [x,y] us): ∃u w',us=[u,w']∧RelV x u∧RelV y w':=by
 cases r with
 | cons r1 r2=>
  cases r2 with
  | cons r3 r4=>cases r4;exact⟨_,_,rfl,r1,r3⟩
theorem call_min2 (hc:X.calm=true):CallR X (.builtin "min") (fun xs H Q=> ∃i j,xs=[.int i,.int j]∧Q (.int (if j<i then j else i)) H):=by
 intro pins s σ H xs us Q I r h
 obtain⟨i,j,rfl,q⟩:=h
 obtain⟨u,w',rfl,⟨t,rfl⟩,⟨t',rfl⟩⟩:=vals2 r
 refine min_two_ints (I.ok.hd hc) fun h' tk k=>⟨_,H,I.kept k,?_,q⟩
 by_cases hj:j<i
 ·rw[if_pos hj,if_pos hj];exact⟨_,rfl⟩
 ·rw[if_neg hj,if_neg hj];exact⟨_,rfl⟩
end
structure ObjM (h:Heap) (x dx C:Addr) (mA:Str→Option Value):Prop where
 obj:h.get? x=some (PySem.W.instObj C dx)
 ns:h.Ns1 dx mA
 ne:dx≠x
theorem lookIn_ns {h:Heap} {dx:Addr} {mA:Str→Option Value} (n:h.Ns1 dx mA): ∃od,h.get? dx=some od∧∀name,PySem.W.lookIn name od=some (mA name):=by
 obtain⟨o,es,ep,ho,hd,hk,_,hm⟩:=n
 refine⟨o,ho,fun name=> ?_⟩
 have e:=hm name
 unfold nsFind findBy at e
 rw[←Array.find?_toList] at e
 unfold PySem.W.lookIn
 rw[hd]
 dsimp only
 split
 ·rename_i y q
  rw[q] at e
  exact congrArg some e
 ·rename_i q
  rw[q] at e
  have a:es.toList.any (·.refKey)=false:=by
   rw[List.any_eq_false]
   intro y hy
   obtain⟨z,t,hkey⟩:=hk y (Array.mem_toList_iff.mp hy)
   simp[DictEntry.refKey,hkey]
  have a':¬es.toList.any (·.refKey)=true:=by rw[a];exact Bool.false_ne_true
  rw[if_neg a']
  exact congrArg some e
theorem ObjM.look {h:Heap} {x dx C:Addr} {mA:Str→Option Value} (I:ObjM h x dx C mA): ∃od,PySem.W.InstAt h x (PySem.W.instObj C dx) C (some od)∧∀name,PySem.W.lookIn name od=some (mA name):=
 let ⟨od,ho,hl⟩:=lookIn_ns I.ns
 ⟨od,⟨I.obj,rfl,rfl,ho⟩,hl⟩
section
variable {prog:Program} {w:World} {A:Around} {E:Value→Shared→Prop} {s:Shared} {K:PySem.W.Frag} {x dx C f:Addr} {mA:Str→Option Value} {name:Str} {v:Value}
theorem get_map {expr:Bool} {Q:Value→Shared→Prop} (X:K.In s.heap) (I:ObjM s.heap x dx C mA) (hg:PySem.W.plainGet K C name=true) (hh:PySem.W.hasDictIn K C=true)
  (ha:PySem.W.findIn K (.ref C) name=some none) (hv:mA name=some v) (hv':PySem.W.handedIn v=true) (h:Q v {s with toks:=s.toks+1}):
  wpAny (model prog w) A (getAttr (.ref x) name expr) Q E s:=by
 obtain⟨od,J,hl⟩:=I.look
 exact PySem.W.get_value X J (PySem.W.plainGet_of hg).1 (PySem.W.findObj_own hh ha rfl (by rw[hl,hv])) hv' h
theorem get_meth {pl:Sem Bool} {Q:Value×List Value→Shared→Prop} (X:K.In s.heap) (I:ObjM s.heap x dx C mA) (hg:PySem.W.plainGet K C name=true)
  (hf:PySem.W.findIn K (.ref C) name=some (some (.ref f))) (ht:PySem.W.isFn K (.ref f)=true) (hv:mA name=none) (h:Q (.ref f,[.ref x]) s):
  wpAny (model prog w) A (getMethod (.ref x) name pl) Q E s:=by
 obtain⟨od,J,hl⟩:=I.look
 exact PySem.W.method_fn X J (PySem.W.plainGet_of hg).1 (PySem.W.plainGet_of hg).2 hf (beq_iff_eq.mp ht) (by show (PySem.W.lookIn name od).map (·.isSome)=some false;rw[hl,hv];rfl) h
theorem set_map {ns:List Str} {Q:Unit→Shared→Prop} (X:K.In s.heap) (I:ObjM s.heap x dx C mA)
  (hs:PySem.W.findIn K (.ref C) "__setattr__"=some (some (.builtin "object.__setattr__"))) (hp:PySem.W.plainOver K C=true) (ht:PySem.W.takerIn K C name=some none) (hh:PySem.W.hasDictIn K C=true)
  (hw:PySem.Within mA ns) (hsz:ns.length≤sizeLine)
  (h: ∀h',ObjM h' x dx C (fun y=>if y=name then some v else mA y)→Heap.SameBut dx s.heap h'→Q () {s with heap:=h',toks:=s.toks+2}):
  wpAny (model prog w) A (setAttr (.ref x) name v) Q E s:=by
 obtain⟨od,J,hl⟩:=I.look
 refine PySem.W.set_plain X J hs (PySem.W.osa_open (s:={s with toks:=s.toks+1}) (r:=none) X J hp ht fun b=> ?_)
 obtain⟨cd,hc,hd'⟩:=PySem.W.any_some hh
 have hx:s.heap.get? x=some ⟨.ref C,some dx,.plain,#[]⟩:=I.obj
 refine wpAny_bind (wpAny_pure (wpAny_bind (wpAny_bind (wpAny_loadPart hx (wpAny_bind (PySem.W.Looks.here (s:={s with toks:=s.toks+1}) (PySem.W.looks_clsIn X hc) ?_))))))
 rw[hd']
 refine wpAny_pure (a:=some dx) (wpAny_bind (wpAny_pure (wpAny_bind ?_)))
 refine wpAny_nsSet1 (s:={s with toks:=s.toks+1}) I.ns fun h' hn2 hs2=> ?_
 obtain⟨oD,esD,epD,hoD,hdD,hcD⟩:=hn2.count (PySem.Within.cons name v hw)
 refine wpAny_bind (wpAny_lookBehind hoD (by rw[hdD];exact pastItsLine_dict (Nat.le_trans hcD (by rw[List.length_cons];omega))) ?_)
 exact wpAny_pure (h _ ⟨(hs2.2 _ (Ne.symm I.ne)).trans I.obj,hn2,I.ne⟩ hs2)
theorem make_map {R:Result→Shared→Prop} {vs:List Value} {kw:List (Str×Value)} (X:K.In s.heap) (hm:PySem.W.makesIn K C=true)
  (hi:PySem.W.findIn K (.ref C) "__init__"=some (some (.ref f))) (hf:PySem.W.typeIn K (.ref f)=some (.type "function"))
  (h:codeAny (model prog w) (A.under (.builtin "type.__call__" ⟨.ref C::vs,kw⟩)) (.call (.ref f) ⟨.ref (s.heap.objs.size+1)::vs,kw⟩) (PySem.W.InitBack (s.heap.objs.size+1) R)
   {s with heap:=(s.heap.push PySem.W.emptyDict).push (PySem.W.instObj C s.heap.objs.size)}):
  codeAny (model prog w) A (.call (.ref C) ⟨vs,kw⟩) R s:=by
 obtain⟨hh,g,d,t,os⟩:=s
 exact PySem.W.make_core (PySem.W.makes_of X hm) (PySem.W.looks_findIn X hi) (fun self=>PySem.W.bind_fn X self hf) (.inl rfl) h
end
noncomputable def putF (f:Str) (v:V):List (Str×V)→List (Str×V)
 | []=> [(f,v)]
 |(g,x)::r=>if g=f then (g,v)::r else (g,x)::putF f v r
theorem lookup_putF (f g:Str) (v:V): ∀fs:List (Str×V),(putF f v fs).lookup g=if g=f then some v else fs.lookup g
 | []=>by
  show List.lookup g [(f,v)]=_
  by_cases h:g=f
  ·have hb:(g==f)=true:=beq_iff_eq.mpr h
   simp only[List.lookup,hb,if_pos h]
  ·have hb:(g==f)=false:=beq_eq_false_iff_ne.mpr h
   simp only[List.lookup,hb,if_neg h]
 |(k,x)::r=>by
  have ih:=lookup_putF f g v r
  rw[show putF f v ((k,x)::r)=(if k=f then (k,v)::r else (k,x)::putF f v r) from rfl]
  by_cases hk:k=f
  ·rw[if_pos hk]
   by_cases h:g=k
   ·have hb:(g==k)=true:=beq_iff_eq.mpr h
    simp only[List.lookup,hb,if_pos (h.trans hk)]
   ·have hb:(g==k)=false:=beq_eq_false_iff_ne.mpr h
    simp only[List.lookup,hb,if_neg (fun e:g=f=>h (e.trans hk.symm))]
  ·rw[if_neg hk]
   by_cases h:g=k
   ·have hb:(g==k)=true:=beq_iff_eq.mpr h
    simp only[List.lookup,hb,if_neg (fun e:g=f=>hk (h.symm.trans e))]
   ·have hb:(g==k)=false:=beq_eq_false_iff_ne.mpr h
    simp only[List.lookup,hb]
    exact ih
theorem keys_putF (f:Str) (v:V): ∀fs:List (Str×V),f∈(putF f v fs).map (·.1)∧∀g,g∈fs.map (·.1)→g∈(putF f v fs).map (·.1)
 | []=>⟨by simp[putF],fun g h=>by simp at h⟩
 |(k,x)::r=>by
  obtain⟨i1,i2⟩:=keys_putF f v r
  rw[show putF f v ((k,x)::r)=(if k=f then (k,v)::r else (k,x)::putF f v r) from rfl]
  by_cases hk:k=f
  ·rw[if_pos hk]
   subst hk
   exact⟨by simp,fun g h=>by simpa using h⟩
  ·rw[if_neg hk]
   refine⟨?_,fun g h=> ?_⟩
   ·rw[List.map_cons]
    exact List.mem_cons_of_mem _ i1
   ·rw[List.map_cons] at h⊢
    rcases List.mem_cons.mp h with e | e
    ·exact List.mem_cons.mpr (.inl e)
    ·exact List.mem_cons_of_mem _ (i2 g e)
theorem length_putF (f:Str) (v:V): ∀fs:List (Str×V),(putF f v fs).length≤fs.length+1
 | []=>by simp[putF]
 |(k,x)::r=>by
  have ih:=length_putF f v r
  rw[show putF f v ((k,x)::r)=(if k=f then (k,v)::r else (k,x)::putF f v r) from rfl]
  by_cases hk:k=f
  ·rw[if_pos hk,List.length_cons,List.length_cons];omega
  ·rw[if_neg hk,List.length_cons,List.length_cons];omega
theorem RelO.some_of {v:V} {o:Option Value} (r:RelO (some v) o): ∃u,o=some u∧RelV v u:=by
 cases o with
 | none=>exact (show False from r).elim
 | some u=>exact⟨u,rfl,r⟩
theorem RelO.none_of {o:Option Value} (r:RelO none o):o=none:=by
 cases o with
 | none=>rfl
 | some u=>exact (show False from r).elim
theorem handed_of {v:V} {u:Value} (r:RelV v u):PySem.W.handedIn u=true:=by
 cases v with
 | non=>cases (show u=Value.none from r);rfl
 | bl b=>cases (show u=Value.bool b from r);rfl
 | int i=>obtain⟨t,e⟩:=(show∃t,u=Value.int i t from r);cases e;rfl
 | str x=>obtain⟨t,e⟩:=(show∃t,u=Value.str x t from r);cases e;rfl
 | byt b=>obtain⟨t,e⟩:=(show∃t,u=Value.bytes b t from r);cases e;rfl
 | flt b=>obtain⟨t,e⟩:=(show∃t,u=Value.float b t from r);cases e;rfl
 | ref a=>cases (show u=Value.ref a from r);rfl
 | ty n=>cases (show u=Value.type n from r);rfl
section
variable {P:Program} {w:World} {H H':Hp} {h h':Heap} {a C dx:Addr} {fs fs':List (Str×V)}
theorem ins_get (hok:HOk P w H h) (e:H a=some (.ins C dx fs)): ∃mA,ObjM h a dx C mA∧(∀f,RelO (fs.lookup f) (mA f))∧PySem.Within mA (fs.map (·.1))∧fs.length≤1000∧H dx=some (.own a):=by
 obtain⟨d,z,ne,ob,mA,n,r,q⟩:=(show aBw P w H h a (.ins C dx fs) from hok a _ e)
 exact⟨mA,⟨ob,n,ne⟩,r,q,z,d⟩
end
structure Cls (K:PySem.W.Frag) (C:Addr):Prop where
 pg:PySem.W.plainGet K C Str.empty=true
 hd:PySem.W.hasDictIn K C=true
 po:PySem.W.plainOver K C=true
 sa:PySem.W.findIn K (.ref C) "__setattr__"=some (some (.builtin "object.__setattr__"))
theorem Cls.get {K:PySem.W.Frag} {C:Addr} (c:Cls K C) (f:Str):PySem.W.plainGet K C f=true:=c.pg
noncomputable def NoAttr (K:PySem.W.Frag) (C:Addr) (f:Str):Prop:=PySem.W.findIn K (.ref C) f=some none
theorem NoAttr.taker {K:PySem.W.Frag} {C:Addr} {f:Str} (n:NoAttr K C f):PySem.W.takerIn K C f=some none:=by
 unfold PySem.W.takerIn
 rw[show PySem.W.findIn K (.ref C) f=some none from n]
 rfl
structure Meth (K:PySem.W.Frag) (C:Addr) (m:Str) (f:Addr):Prop where
 at_:PySem.W.findIn K (.ref C) m=some (some (.ref f))
 fn:PySem.W.isFn K (.ref f)=true
 kp:PySem.W.keepIn K (.ref f)=true
section
variable {X:Cx} {pins:List (Addr×Obj)} {σ:St} {H:Hp} {s:Shared} {a C dx:Addr} {fs:List (Str×V)} {f:Str} {v:V} {A:Around} {E:Value→Shared→Prop}
theorem getattr_ok {b:Bool} {Q:Value→Shared→Prop} (I:Inv X pins σ H s) (e:H a=some (.ins C dx fs)) (c:Cls X.K C) (n:NoAttr X.K C f) (l:fs.lookup f=some v)
  (h: ∀u s',Inv X pins σ H s'→RelV v u→Q u s'):wpAny (model X.prog X.w) A (getAttr (.ref a) f b) Q E s:=by
 obtain⟨mA,O,r,_,_,_⟩:=ins_get I.hok e
 obtain⟨u,hu,ru⟩:=RelO.some_of (v:=v) (o:=mA f) (by rw[←l];exact r f)
 exact get_map I.kIn O (c.get f) c.hd n hu (handed_of ru) (h u _ (I.tok _) ru)
theorem getmeth_ok {m:Str} {g:Addr} {pl:Sem Bool} {Q:Value×List Value→Shared→Prop} (I:Inv X pins σ H s) (e:H a=some (.ins C dx fs)) (c:Cls X.K C) (k:Meth X.K C m g) (l:fs.lookup m=none)
  (h:Q (.ref g,[.ref a]) s):wpAny (model X.prog X.w) A (getMethod (.ref a) m pl) Q E s:=by
 obtain⟨mA,O,r,_,_,_⟩:=ins_get I.hok e
 have hn:mA m=none:=RelO.none_of (by rw[←l];exact r m)
 exact get_meth I.kIn O (c.get m) k.at_ k.fn hn h
theorem setattr_ok {y:V} {u:Value} {Q:Unit→Shared→Prop} (I:Inv X pins σ H s) (e:H a=some (.ins C dx fs)) (c:Cls X.K C) (n:NoAttr X.K C f) (hl:fs.length<1000) (ry:RelV y u)
  (h: ∀s',Inv X pins σ (upd H a (.ins C dx (putF f y fs))) s'→Q () s'):wpAny (model X.prog X.w) A (setAttr (.ref a) f u) Q E s:=by
 obtain⟨mA,O,r,wi,_,ho⟩:=ins_get I.hok e
 have hz:(fs.map (·.1)).length≤sizeLine:=by rw[List.length_map,sizeLine_eq];omega
 refine set_map I.kIn O c.sa c.po n.taker c.hd wi hz fun h' O' sb=>h _ ?_
 have hd: ∃o,h'.get? dx=some o:=let ⟨o,_,_,e',_⟩:=O'.ns;⟨o,e'⟩
 refine I.write (x:=a) (e:=dx) (by rw[e];exact True.intro) (.inr ho) (fun b q hb z=>(sb.2 b hb).trans z) hd ?_
 refine⟨by rw[aAk O.ne];exact ho,?_,O.ne,O'.obj,_,O'.ns,fun g=> ?_,fun g hg=> ?_⟩
 ·have:=length_putF f y fs;omega
 ·show RelO ((putF f y fs).lookup g) (if g=f then some u else mA g)
  rw[lookup_putF]
  by_cases q:g=f
  ·rw[if_pos q,if_pos q];exact ry
  ·rw[if_neg q,if_neg q];exact r g
 ·by_cases q:g=f
  ·rw[q];exact (keys_putF f y fs).1
  ·refine (keys_putF f y fs).2 g (wi g fun z=>hg ?_)
   show (if g=f then some u else mA g)=none
   rw[if_neg q];exact z
theorem Inv.made (I:Inv X pins σ H s):Inv X pins σ (upd (upd H s.heap.objs.size (.own (s.heap.objs.size+1))) (s.heap.objs.size+1) (.ins C s.heap.objs.size []))
  {s with heap:=(s.heap.push PySem.W.emptyDict).push (PySem.W.instObj C s.heap.objs.size)}:=by
 have e1:(s.heap.push PySem.W.emptyDict).get? s.heap.objs.size=some PySem.W.emptyDict:=Heap.get?_push_size s.heap rfl
 have e2:((s.heap.push PySem.W.emptyDict).push (PySem.W.instObj C s.heap.objs.size)).get? (s.heap.objs.size+1)=some (PySem.W.instObj C s.heap.objs.size):=by
  have:=Heap.get?_push_size (s.heap.push PySem.W.emptyDict) (o:=PySem.W.instObj C s.heap.objs.size) rfl
  rwa [Heap.size_push] at this
 have e3:(s.heap.push PySem.W.emptyDict).Ns s.heap.objs.size (fun _=>none):=⟨PySem.W.emptyDict,#[],_,e1,rfl,(fun e he=>absurd he (by simp)),fun _=>rfl⟩
 have I1:=I.laid (a:=s.heap.objs.size) (o:= .own (s.heap.objs.size+1)) (h':=s.heap.push PySem.W.emptyDict) (t':=s.toks) (fun b u q=>Heap.get?_push_of_some _ q) (Nat.le_refl _) ⟨_,e1⟩
 refine I1.laid (a:=s.heap.objs.size+1) (o:= .ins C s.heap.objs.size []) (t':=s.toks) (fun b u q=>Heap.get?_push_of_some _ q) (Nat.le_of_eq (Heap.size_push _ _)) ?_
 have ne:s.heap.objs.size≠s.heap.objs.size+1:=Nat.ne_of_lt (Nat.lt_succ_self _)
 refine⟨by rw[aAk ne,aAi],Nat.zero_le _,ne,e2,fun _=>none,(Heap.Ns1.of_empty e3).at fun o q=>Heap.get?_push_of_some _ q,fun _=>True.intro,fun y hy=>absurd rfl hy⟩
theorem attr_of {prog:Program} {w:World} {env:Env} {e:Expr} {f:Str} {pos:Pos} {s:Shared} {Q:Value→Shared→Prop} (hb:attributeBase e f env (eval e env)=eval e env)
  (h:wpAny (model prog w) A (eval e env) (fun o s₁=>wpAny (model prog w) A (getAttr o f true) Q E s₁) E s):wpAny (model prog w) A (eval (.Attribute e f pos) env) Q E s:=
 Attribute_any_ h (by rw[arm_eval_Attribute,hb])
end
noncomputable def tFld (K:PySem.W.Frag) (ta:TE) (f:Str):TE:=fun σ H Q=>ta σ H fun x H1=> ∃a C dx fs v,x= .ref a∧H1 a=some (.ins C dx fs)∧Cls K C∧NoAttr K C f∧fs.lookup f=some v∧Q v H1
noncomputable def sFld (K:PySem.W.Frag) (ta tv:TE) (f:Str):TS:=fun D σ H=>tv σ H fun y H1=>ta σ H1 fun x H2=> ∃a C dx fs,x= .ref a∧H2 a=some (.ins C dx fs)∧Cls K C∧NoAttr K C f∧fs.length<1000∧
 D.nx σ (upd H2 a (.ins C dx (putF f y fs)))
section
variable {X:Cx} {o e value:Expr} {f:Str} {pos pos' tpos:Pos} {ta tv:TE}
theorem pe_fld (he:PE X e ta) (hb:attributeBase e f X.env (eval e X.env)=eval e X.env):PE X (.Attribute e f pos) (tFld X.K ta f):=by
 intro pins s σ H Q I h
 refine attr_of hb (thn (he pins s σ H _ I h) fun u s1 hP=> ?_)
 obtain⟨x,H1,I1,rx,a,C,dx,fs,v,ex,ea,c,n,l,q⟩:=hP
 subst ex
 obtain rfl:u=Value.ref a:=rx
 exact getattr_ok I1 ea c n l fun u' s2 I2 ru=>⟨v,H1,I2,ru,q⟩
theorem ps_fld (ha:PE X o ta) (hv:PE X value tv) (hs:swapsWith value (some (.Attribute o f pos')) pos.line X.env=pure false):PS X (.Assign [.Attribute o f pos'] value pos) (sFld X.K ta tv f):=by
 intro pins s σ H D I h
 refine plainObj_wpAny_Assign_Attribute (thn (hv pins s σ H _ I h) fun u s1 ⟨y,H1,I1,ry,q⟩=>thn (ha pins s1 σ H1 _ I1 q) fun ov s2 hP=> ?_) hs
 obtain⟨x,H2,I2,rx,a,C,dx,fs,ex,ea,c,n,l,q2⟩:=hP
 subst ex
 obtain rfl:ov=Value.ref a:=rx
 exact setattr_ok I2 ea c n l ry fun s3 I3=>⟨σ,_,I3,q2⟩
end
structure aCw (k:Nat) (A:Around):Prop where
 hd:A.handled=none
 dp:A.depth+3*k+5<recursionLimit
 un:A.units+16*k+200<cLine
theorem aCw.mono {j k:Nat} {A:Around} (r:aCw k A) (h:j≤k):aCw j A:=⟨r.hd,by have:=r.dp;omega,by have:=r.un;omega⟩
theorem aCw.deeper {k:Nat} {A:Around} (r:aCw (k+1) A) (env:Env):aCw k (A.deeper env):=
 ⟨r.hd,by have:=r.dp;show A.depth+1+3*k+5<_;omega,by have:=r.un;show A.units+3+16*k+200<_;omega⟩
theorem make_depth {A:Around} {C:Addr} {us:List Value} {kw:List (Str×Value)}:(A.under (.builtin "type.__call__" ⟨.ref C::us,kw⟩)).depth=A.depth+1:=by
 first | rfl | simp[Around.under,Code.weight,Code.isCreation,Code.isGuard,Code.isCaller,Code.frames,Code.isFrame,guardIds]
theorem make_units {A:Around} {C:Addr} {us:List Value} {kw:List (Str×Value)}:(A.under (.builtin "type.__call__" ⟨.ref C::us,kw⟩)).units=A.units+1:=by
 first | rfl | simp[Around.under,Code.cUnits,Code.frames,Code.isFrame]
theorem aCw.make {k:Nat} {A:Around} (r:aCw (k+1) A) (C:Addr) (us:List Value) (kw:List (Str×Value)):aCw k (A.under (.builtin "type.__call__" ⟨.ref C::us,kw⟩)):=
 ⟨r.hd,by have:=r.dp;rw[make_depth];omega,by have:=r.un;rw[make_units];omega⟩
theorem aCw.depth {k:Nat} {A:Around} (r:aCw k A):A.depth<recursionLimit:=by have:=r.dp;omega
theorem aCw.units {k:Nat} {A:Around} (r:aCw k A):A.units+64<cLine:=by have:=r.un;omega
theorem aCw.units0 {k:Nat} {A:Around} (r:aCw k A):A.units<cLine:=by have:=r.un;omega
noncomputable def tNil:TA:=fun _ H Q=>Q [] H
noncomputable def tCons (ta:TE) (tr:TA):TA:=fun σ H Q=>ta σ H fun x H1=>tr σ H1 fun xs H2=>Q (x::xs) H2
section
variable {X:Cx} {e:Expr} {es:List Expr} {te:TE} {t:TA} {pos:Pos}
theorem aBx:PA X [] tNil:=fun _ _ _ _ H Q I h=>Calls.spliced_nil ⟨[],H,I,.nil,h⟩
theorem aA4 (ha:PE X e te) (hr:PA X es t) (hs:starEach (e::es) X.env=(false,eval e X.env)::starEach es X.env:=by rfl):PA X (e::es) (tCons te t):=by
 intro pos pins s σ H Q I h
 rw[hs]
 show wpAny _ _ (spliced ((false,eval e X.env)::backTo pos (starEach es X.env))) _ _ s
 refine Calls.spliced_cons (thn (ha pins s σ H _ I h) fun u s1 ⟨x,H1,I1,r1,q1⟩=> ?_)
 exact thn (hr pos pins s1 σ H1 _ I1 q1) fun us s2 ⟨xs,H2,I2,r2,q2⟩=>⟨x::xs,H2,I2,.cons r1 r2,q2⟩
noncomputable def tTup (t:TA):TE:=fun σ H Q=>t σ H fun xs H1=>xs.length≤sizeLine∧∀p,H1 p=none→Q (.ref p) (upd H1 p (.tup xs))
noncomputable def tLst (t:TA):TE:=fun σ H Q=>t σ H fun xs H1=>xs.length≤sizeLine∧∀p,H1 p=none→Q (.ref p) (upd H1 p (.lst xs))
theorem pe_tup {x1} (h:PA X es t):PE X (.Tuple es x1 pos) (tTup t):=by
 intro pins s σ H Q I hq
 refine wpAny_Tuple_spliced (thn (h pos pins s σ H _ I hq) fun us s1 ⟨xs,H1,I1,r,z,q⟩=>⟨by rw[←r.length];exact z,?_⟩)
 have hf:H1 s1.heap.objs.size=none:=I1.hok.fresh (Nat.le_refl _)
 refine⟨.ref s1.heap.objs.size,upd H1 s1.heap.objs.size (.tup xs),I1.laid (t':=s1.toks) (fun b u e=>Heap.get?_push_of_some _ e) (Nat.le_refl _) ?_,rfl,q _ hf⟩
 exact⟨z,us,r,⟨_,Heap.get?_push_size _ rfl,rfl,⟨_,rfl⟩,rfl⟩⟩
theorem pe_lst (h:PA X es t):PE X (.List es pos) (tLst t):=by
 intro pins s σ H Q I hq
 refine wpAny_List_spliced (thn (h pos pins s σ H _ I hq) fun us s1 ⟨xs,H1,I1,r,z,q⟩=>⟨by rw[←r.length];exact z,?_⟩)
 have hf:H1 s1.heap.objs.size=none:=I1.hok.fresh (Nat.le_refl _)
 refine⟨.ref s1.heap.objs.size,upd H1 s1.heap.objs.size (.lst xs),I1.laid (t':=s1.toks) (fun b u e=>Heap.get?_push_of_some _ e) (Nat.le_refl _) ?_,rfl,q _ hf⟩
 exact⟨z,us,0,r,Heap.get?_push_size _ rfl⟩
end
noncomputable abbrev Sp:=List V→Hp→VK→XK→Prop
noncomputable abbrev CXT:=List Env→Hp→Shared→XK→Value→Shared→Prop
structure Env0 (P:Program) (w:World) (K:PySem.W.Frag) (mg:Str→Option Value) (base:Heap) (A:Around) (outer:List Env) (s:Shared) (H:Hp):Prop where
 frames:A.frames=some outer
 mod:Mod K mg base
 bs: ∀b o,base.get? b=some o→s.heap.get? b=some o∧H b=none
 bsz:base.objs.size≤s.heap.objs.size
 funs:s.heap.FunFrames base outer
 frf: ∀b∈frs outer,H b=none
 hok:HOk P w H s.heap
 bare:AllBare s.gens
noncomputable def CE (outer:List Env) (P:Program) (w:World) (H:Hp) (s:Shared) (Q:VK) (u:Value) (s':Shared):Prop:=
 ∃v H',s'.os=s.os∧AllBare s'.gens∧Un (frs outer) [] H H' s.heap s'.heap∧HOk P w H' s'.heap∧RelV v u∧Q v H'
noncomputable def CR (CX:CXT) (outer:List Env) (P:Program) (w:World) (H:Hp) (s:Shared) (Q:VK) (E:XK) (r:Result) (s':Shared):Prop:=
 match r with
 | .ok (.ret u)=>CE outer P w H s Q u s'
 | .ok _=>False
 | .error e=>CX outer H s E e s'
structure FnOk (P:Program) (w:World) (K:PySem.W.Frag) (mg:Str→Option Value) (base:Heap) (CX:CXT) (k:Nat) (f:Addr) (fd:FuncData) (ps:List Str) (sp:Sp):Prop where
 len: ∀vs H Q E,sp vs H Q E→vs.length=ps.length
 run: ∀(A:Around) (outer:List Env) (s:Shared) (H:Hp) (args:Args) (us:List Value) (vs:List V) (Q:VK) (E:XK),aCw k A→Env0 P w K mg base A outer s H→BindsTo s fd args (ps.zip us)→Vals vs us→sp vs H Q E→
  codeAny (model P w) A (.call (.ref f) args) (CR CX outer P w H s Q E) s
theorem FnOk.imp {P:Program} {w:World} {K:PySem.W.Frag} {mg:Str→Option Value} {base:Heap} {CX:CXT} {k:Nat} {f:Addr} {fd:FuncData} {ps:List Str} {sp sp':Sp} (F:FnOk P w K mg base CX k f fd ps sp)
  (h: ∀vs H Q E,sp' vs H Q E→sp vs H Q E):FnOk P w K mg base CX k f fd ps sp':=
 ⟨fun vs H Q E q=>F.len vs H Q E (h _ _ _ _ q),fun A outer s H args us vs Q E hr he hb hv hs=>F.run A outer s H args us vs Q E hr he hb hv (h _ _ _ _ hs)⟩
theorem Env0.make {P:Program} {w:World} {K:PySem.W.Frag} {mg:Str→Option Value} {base:Heap} {A:Around} {outer:List Env} {s:Shared} {H:Hp} (e:Env0 P w K mg base A outer s H) (C:Addr) (us:List Value) (kw:List (Str×Value)):
  Env0 P w K mg base (A.under (.builtin "type.__call__" ⟨.ref C::us,kw⟩)) outer s H:=⟨by first | exact e.frames |(simpa[Around.under,Code.envs,Code.isFrame,pushEnvs] using e.frames),e.mod,e.bs,e.bsz,e.funs,e.frf,e.hok,e.bare⟩
section
variable {X:Cx} {pins:List (Addr×Obj)} {σ:St} {H:Hp} {s s':Shared}
theorem Inv.env0 (I:Inv X pins σ H s):Env0 X.prog X.w X.K X.mg X.base X.A X.stack s H:=
 ⟨I.ok.frames,I.ok.mod,I.bs,Nat.le_trans I.ok.bsz I.sz,I.stack,I.stkFree,I.hok,I.bare⟩
theorem Inv.after {Q:VK} {u:Value} (I:Inv X pins σ H s) (h:CE X.stack X.prog X.w H s Q u s'):EP X pins σ Q u s':=by
 obtain⟨v,H',os,bare,un,hok,r,q⟩:=h
 obtain⟨hh,g,d,t,os'⟩:=s'
 obtain rfl:os'=s.os:=os
 exact⟨v,H',I.call (h':=hh) (g':=g) (d':=d) (t':=t) (ch:=[]) un hok bare (fun b z=>absurd z (by simp)),r,q⟩
end
noncomputable def Binds (K:PySem.W.Frag) (fd:FuncData) (ps:List Str) (ds:List Value):Prop:=
 ∀(s:Shared) (us:List Value),K.In s.heap→(us++ds).length=ps.length→BindsTo s fd ⟨us,[]⟩ (ps.zip (us++ds))
theorem Binds.all {K:PySem.W.Frag} {fd:FuncData} {ps:List Str} (h: ∀us:List Value,us.length=ps.length→bindArgs fd ⟨us,[]⟩=pure (ps.zip us)):Binds K fd ps []:=fun s us _ hl=>by
 rw[List.append_nil] at hl⊢
 exact .of_eq (h us hl)
section
variable {X:Cx} {CX:CXT} {k:Nat} {f C:Addr} {fd:FuncData} {ps:List Str} {sp:Sp} {dvs:List V} {ds:List Value} {E:XK} {x m:Str} {p pos apos:Pos} {e o:Expr} {es:List Expr} {ta:TE} {t:TA}
structure Mk (K:PySem.W.Frag) (C f:Addr):Prop where
 makes:PySem.W.makesIn K C=true
 init:PySem.W.findIn K (.ref C) "__init__"=some (some (.ref f))
 fn:PySem.W.isFn K (.ref f)=true
 kp:PySem.W.keepIn K (.ref C)=true
end
structure aBb (N P:List Str) (sc:Scope):Prop where
 kind:sc.kind= .function
 co:sc.isCoroutine=false
 gen:sc.isGenerator=false
 nd:N.Nodup
 pre:N.take P.length=P
 par: ∀x∈P,sc.names.lookup x=some .local∨sc.names.lookup x=some .cell
 nofree: ∀y∈sc.names,y.2≠ .free
theorem bindL_out {kindOf:Str→Option NameKind} {x:Str}: ∀{binds:List (Str×Value)} {m:Str→Option Value},(∀v,(x,v)∉binds)→bindL kindOf binds m x=m x
 | [],_,_=>rfl
 |(n,v)::r,m,h=>by
  unfold bindL
  rw[bindL_out fun w hw=>h w (List.mem_cons_of_mem _ hw)]
  split
  ·have:x≠n:=by rintro rfl;exact h v List.mem_cons_self
   simp[this]
  ·rfl
theorem bindC_out {kindOf:Str→Option NameKind} {x:Str}: ∀{binds:List (Str×Value)} {m:Str→Option Value},(∀v,(x,v)∉binds)→bindC kindOf binds m x=m x
 | [],_,_=>rfl
 |(n,v)::r,m,h=>by
  unfold bindC
  rw[bindC_out fun w hw=>h w (List.mem_cons_of_mem _ hw)]
  split
  ·rfl
  ·have:x≠n:=by rintro rfl;exact h v List.mem_cons_self
   simp[this]
theorem bindL_get {kindOf:Str→Option NameKind} {x:Str} {v:Value}: ∀{P:List Str} {vs:List Value} {i:Nat} {m:Str→Option Value},P.Nodup→P[i]? =some x→vs[i]? =some v→kindOf x=some .local→
  bindL kindOf (P.zip vs) m x=some v
 | [],_,_,_,_,h,_,_=>by simp at h
 | _::_,[],_,_,_,_,h,_=>by simp at h
 | p::P,w::vs,0,m,nd,h1,h2,hk=>by
  simp at h1 h2;subst h1;subst h2
  show bindL kindOf ((p,w)::P.zip vs) m p=_
  unfold bindL
  rw[bindL_out fun v hv=>(List.nodup_cons.mp nd).1 (List.of_mem_zip hv).1,if_pos hk]
  simp
 | p::P,w::vs,i+1,m,nd,h1,h2,hk=>by
  show bindL kindOf ((p,w)::P.zip vs) m x=_
  unfold bindL
  exact bindL_get (i:=i) (List.nodup_cons.mp nd).2 (by simpa using h1) (by simpa using h2) hk
theorem bindC_get {kindOf:Str→Option NameKind} {x:Str} {v:Value}: ∀{P:List Str} {vs:List Value} {i:Nat} {m:Str→Option Value},P.Nodup→P[i]? =some x→vs[i]? =some v→kindOf x≠some .local→
  bindC kindOf (P.zip vs) m x=some v
 | [],_,_,_,_,h,_,_=>by simp at h
 | _::_,[],_,_,_,_,h,_=>by simp at h
 | p::P,w::vs,0,m,nd,h1,h2,hk=>by
  simp at h1 h2;subst h1;subst h2
  show bindC kindOf ((p,w)::P.zip vs) m p=_
  unfold bindC
  rw[bindC_out fun v hv=>(List.nodup_cons.mp nd).1 (List.of_mem_zip hv).1,if_neg hk]
  simp
 | p::P,w::vs,i+1,m,nd,h1,h2,hk=>by
  show bindC kindOf ((p,w)::P.zip vs) m x=_
  unfold bindC
  exact bindC_get (i:=i) (List.nodup_cons.mp nd).2 (by simpa using h1) (by simpa using h2) hk
noncomputable def start (N:List Str) (vs:List V):St:=vs.map some++List.replicate (N.length-vs.length) none
noncomputable def cxOf (CX:CXT) (P:Program) (w:World) (K:PySem.W.Frag) (mg:Str→Option Value) (base:Heap) (N:List Str) (qual:Str) (scope:Scope) (f:Addr) (cd:Value) (A:Around) (outer:List Env) (s:Shared) (H:Hp) (E:XK):Cx where
 prog:=P
 w:=w
 K:=K
 mg:=mg
 base:=base
 A:=A.deeper (envOfC qual scope s.heap.objs.size f cd)
 N:=N
 s₀:=s
 H₀:=H
 env:=envOfC qual scope s.heap.objs.size f cd
 outer:=outer
 stack:=envOfC qual scope s.heap.objs.size f cd::outer
 ex:=[]
 calm:=true
 fn:=fun _=>true
 pn:=[]
 xe:=fun e s'=>wpAny (model P w) (A.deeper (envOfC qual scope s.heap.objs.size f cd)) (leaving (envOfC qual scope s.heap.objs.size f cd) e) (fun _ s''=>CX outer H s E e s'') (fun e' s''=>CX outer H s E e' s'') s'
theorem cell_has {sc:Scope} {n:Nat} {x:Str} (h:sc.names.lookup x=some .cell): ∃c,(cellsFrom n sc.names []).lookup x=some c:=by
 have q:=PySem.W.cellsFrom_some sc.names n [] (.inl h)
 exact Option.isSome_iff_exists.mp q
theorem inv_start {CX:CXT} {P:Program} {w:World} {K:PySem.W.Frag} {mg:Str→Option Value} {base:Heap} {N ps:List Str} {qual:Str} {scope:Scope} {f:Addr} {cd:Value} {A:Around} {outer:List Env} {s s1:Shared} {H:Hp} {E:XK} {us:List Value} {vs:List V}
  (S:aBb N ps scope) (hd:A.handled=none) (e0:Env0 P w K mg base A outer s H) (hl:vs.length=ps.length) (r:Vals vs us)
  (x:InCallC s s.heap.objs.size (bindL (envOfC qual scope s.heap.objs.size f cd).kindOf (ps.zip us) fun _=>none) (cellsFrom (s.heap.objs.size+1) scope.names []) (bindC (envOfC qual scope s.heap.objs.size f cd).kindOf (ps.zip us) fun _=>none) s1):
  Inv (cxOf CX P w K mg base N qual scope f cd A outer s H E) [] (start N vs) H s1:=by
 have hpl:ps.length≤N.length:=by have:=congrArg List.length S.pre;rw[List.length_take] at this;omega
 obtain⟨h1,tk,rfl,hk⟩:=x.done
 have noA: ∀b:Addr,b∉(cxOf CX P w K mg base N qual scope f cd A outer s H E).ex:=fun b z=>absurd (show b∈([]:List Addr) from z) (by simp)
 refine⟨⟨e0.mod,S.kind,rfl,rfl,Nat.le_refl _,fun y z c h1 h2=> ?_,fun y hy=> ?_,fun y c _ h=> ?_,fun _=>hd,Around.frames_deeper e0.frames,.inr ⟨rfl,rfl⟩,fun b z=>absurd z (noA b),e0.bs,e0.bsz,fun b _ _=>noA b,fun b z=>absurd z (noA b),e0.funs,e0.frf⟩,
  rfl,e0.bare,Un.kept hk,⟨_,x.toInCall.ns,fun i y v h1 h2 h3=> ?_⟩,fun y c h=>⟨_,x.cell y c h⟩,e0.hok.fresh (Nat.le_refl _),fun y c h=> ?_,fun p hp=>absurd (show p∈([]:List (Addr×Obj)) from hp) (by simp),e0.hok.kept hk,?_⟩
 ·exact name_of_addr x.apart (PySem.mem_of_lookup h1) (PySem.mem_of_lookup h2)
 ·have hy:scope.names.lookup y=some .cell∨scope.names.lookup y=some .free:=hy
  rcases hy with hy | hy
  ·exact cell_has hy
  ·exact absurd rfl (S.nofree _ (PySem.mem_of_lookup hy))
 ·exact Nat.le_of_lt (x.above y c (PySem.mem_of_lookup h))
 ·have hi:i<vs.length:=by
   unfold start at h2
   by_cases hi:i<vs.length
   ·exact hi
   ·rw[List.getElem?_append_right (by simpa using hi)] at h2
    rw[List.getElem?_replicate] at h2
    split at h2<;>cases h2
  have ha:vs[i]? =some v:=by
   unfold start at h2
   rw[List.getElem?_append_left (by simpa using hi),List.getElem?_map] at h2
   cases e:vs[i]? with
   | none=>rw[e] at h2;cases h2
   | some a=>rw[e] at h2;cases h2;rfl
  obtain⟨u,hu,rv⟩:=r.get ha
  have hp:ps[i]? =some y:=by
   rw[←S.pre,List.getElem?_take_of_lt (by omega)];exact h1
  have ndP:ps.Nodup:=by rw[←S.pre];exact S.nd.sublist (List.take_sublist _ _)
  refine⟨u,rv,?_⟩
  rcases S.par y (List.mem_of_getElem? hp) with k | k
  ·exact .inl ⟨k,bindL_get ndP hp hu k⟩
  ·obtain⟨c,e⟩:=cell_has (n:=s.heap.objs.size+1) k
   refine .inr ⟨.inl k,c,e,?_⟩
   have q:=x.cell y c e
   rw[bindC_get ndP hp hu (by show scope.names.lookup y≠_;rw[k];decide)] at q
   exact q
 ·exact e0.hok.fresh (Nat.le_of_lt (x.above y c (PySem.mem_of_lookup h)))
 ·unfold start
  show _=N.length
  rw[List.length_append,List.length_map,List.length_replicate]
  omega
theorem fn_of {CX:CXT} {P:Program} {w:World} {K:PySem.W.Frag} {mg:Str→Option Value} {base:Heap} {k:Nat} {f:Addr} {name qual:Str} {params:Arguments} {body:List Stmt} {scope:Scope} {dV kV doc pm cdv ct oc:Value} {an od:Option Addr}
  {osl:Array (Option Value)} {N ps:List Str} {sp:Sp} (lk:K.lookup f=some ⟨oc,od,.func (PySem.W.fnOf name qual params body scope dV kV doc pm an cdv ct),osl⟩) (hcd:PySem.W.codeIn K cdv qual=true) (S:aBb N ps scope)
  (len: ∀vs H Q E,sp vs H Q E→vs.length=ps.length)
  (hbody: ∀(A:Around) (outer:List Env) (s:Shared) (H:Hp) (vs:List V) (Q:VK) (E:XK),aCw k (A.deeper (envOfC qual scope s.heap.objs.size f cdv))→sp vs H Q E→
   ∃t,PSs (cxOf CX P w K mg base N qual scope f cdv A outer s H E) body t∧t {nx:=fun _ H'=>Q .non H',rt:=Q} (start N vs) H):
  FnOk P w K mg base CX (k+1) f (PySem.W.fnOf name qual params body scope dV kV doc pm an cdv ct) ps sp:=by
 refine⟨len,fun A outer s H args us vs Q E hr e0 hb r hsp=> ?_⟩
 have hl:=len _ _ _ _ hsp
 have KX:K.In s.heap:=e0.mod.kin.keeps fun b o e=>(e0.bs b o e).1
 have lim:s.heap.NoLimit:=e0.mod.nolimit.keeps fun b o e=>(e0.bs b o e).1
 have hkind: ∀y∈ps.zip us,scope.names.lookup y.1=some .local∨(scope.names.lookup y.1=some .cell∧((cellsFrom (s.heap.objs.size+1) scope.names []).lookup y.1).isSome=true):=fun⟨n,v⟩ hy=>by
  rcases S.par n (List.of_mem_zip hy).1 with q | q
  ·exact .inl q
  ·exact .inr ⟨q,PySem.W.cellsFrom_some _ _ _ (.inl q)⟩
 refine codeAny_call_function hr.depth (KX _ _ lk) rfl S.co S.gen rfl (PySem.W.codeRec_of KX hcd) (hb _ _ _ _ ?_)
 refine wpAny_newFunctionEnv_cells S.kind hkind fun env he s1 x=> ?_
 subst he
 refine⟨lim.keeps x.toInCall.keep,codeAny_func ?_⟩
 obtain⟨t,ht,hq⟩:=hbody A outer s H vs Q E (hr.deeper _) hsp
 have I:Inv (cxOf CX P w K mg base N qual scope f cdv A outer s H E) [] (start N vs) H s1:=inv_start S hr.hd e0 hl r x
 refine wpAny_mono (ht [] s1 (start N vs) H _ I hq) (fun fl s' hs=> ?_) fun e s' hs=>hs
 have fin: ∀{σ':St} {H':Hp} {v:V} {u:Value},Inv (cxOf CX P w K mg base N qual scope f cdv A outer s H E) [] σ' H' s'→RelV v u→Q v H'→CE outer P w H s Q u s':=
  fun {σ' H' v u} J rv q=>⟨v,H',J.os,J.bare,J.base,J.hok,rv,q⟩
 cases fl with
 | ret u=>
  obtain⟨v,σ',H',J,rv,q⟩:=hs
  exact fin J rv q
 | next=>
  obtain⟨σ',H',J,q⟩:=hs
  exact fin (v:=V.non) (u:=Value.none) J rfl q
 | brk=>
  obtain⟨_,_,_,q⟩:=hs
  exact False.elim q
 | cont=>
  obtain⟨_,_,_,q⟩:=hs
  exact False.elim q
section
variable {X:Cx} {x:Str} {p pos:Pos} {e:Expr} {es:List Expr} {t:TA} {id T:String} {r:List V→Hp→VK→Prop}
noncomputable def tCB (r:List V→Hp→VK→Prop) (t:TA):TE:=fun σ H Q=>t σ H fun vs H1=>r vs H1 Q
theorem aC4 (hc:CallR X (.builtin id) r) (hg:Gl X x) (hm:X.mg x=none) (hv:bootBuiltins x=some (.builtin id)) (ha:PA X (e::es) t) (hn:x≠"__name__":=by decide) (hdb:(x==("__debug__":Str))=false:=by decide)
  (he:starEach (e::es) X.env=(false,eval e X.env)::starEach es X.env:=by rfl) (hpl:(backTo pos (starEach es X.env)).any (·.1)=false:=by rfl):PE X (.Call (.Name x p) (e::es) [] pos) (tCB r t):=by
 intro pins s σ H Q I h
 refine wpAny_Call_Name_kw (ld_blt I hg hm hv ?_ hn hdb)
 exact PyProof.Rows.callWith_builtin1 (thn (ha pos pins s σ H _ I h) fun us s1 ⟨vs,H1,I1,r1,q1⟩=>hc pins s1 σ H1 vs us Q I1 r1 q1) he hpl
theorem pe_callTy (hc:CallR X (.type T) r) (hg:Gl X x) (hm:X.mg x=none) (hv:bootBuiltins x=some (.type T)) (ha:PA X (e::es) t) (hn:x≠"__name__":=by decide) (hdb:(x==("__debug__":Str))=false:=by decide)
  (he:starEach (e::es) X.env=(false,eval e X.env)::starEach es X.env:=by rfl) (hpl:(backTo pos (starEach es X.env)).any (·.1)=false:=by rfl):PE X (.Call (.Name x p) (e::es) [] pos) (tCB r t):=by
 intro pins s σ H Q I h
 refine wpAny_Call_Name_kw (ld_blt I hg hm hv ?_ hn hdb)
 exact PyProof.Rows.callWith_type1 (thn (ha pos pins s σ H _ I h) fun us s1 ⟨vs,H1,I1,r1,q1⟩=>hc pins s1 σ H1 vs us Q I1 r1 q1) he hpl
end
end L2
namespace HT
open PySem PyProof.Rows
section
variable {prog:Program} {w:World} {A:Around} {E:Value→Shared→Prop} {s:Shared}
theorem cat_tup {t b:Addr} {vs ws:List Value} {Q:Value→Shared→Prop} (ht:IsTup s.heap t vs.toArray) (hb:IsTup s.heap b ws.toArray) (hv:vs≠[])
  (h1:ws=[]→Q (.ref t) s) (h2:ws≠[]→Q (.ref s.heap.objs.size) {s with heap:=s.heap.push {cls:= .type "tuple",data:= .seq (vs++ws).toArray}})
  (hsz:vs.length+ws.length≤sizeLine):wpAny (model prog w) A (binaryOp .Add (.ref t) (.ref b)) Q E s:=by
 obtain⟨⟨cls,dd,data,sl⟩,ho,hc,n,hd⟩:=id ht
 obtain⟨⟨cls2,dd2,data2,sl2⟩,ho2,hc2,n2,hd2⟩:=id hb
 simp only at hc hd hc2 hd2
 subst hc hd hc2 hd2
 have e:vs.toArray++ws.toArray=(vs++ws).toArray:=by simp
 by_cases hw:ws=[]
 ·exact concat_meets ⟨_,ho,rfl⟩ ⟨_,ho2,rfl⟩ noFill_tuple_add seq_tuple_add PySem.F.slot_tuple_add PySem.F.entry_tuple_add (PySem.F.args_tuple_add_2 _ _)
   (tuple_addW1 t b vs.toArray ws.toArray n n2 dd dd2 sl sl2 (by simpa using hv) (by simp[hw])) ⟨ho,ho2,h1 hw⟩
 ·refine concat_meets ⟨_,ho,rfl⟩ ⟨_,ho2,rfl⟩ noFill_tuple_add seq_tuple_add PySem.F.slot_tuple_add PySem.F.entry_tuple_add (PySem.F.args_tuple_add_2 _ _)
   (tuple_addW2 t b vs.toArray ws.toArray n n2 dd dd2 sl sl2 (by simpa using hv) (by simpa using hw) (by rw[List.size_toArray,List.size_toArray];exact hsz)) ⟨ho,ho2,?_⟩
  rw[e]
  exact h2 hw
noncomputable def sIx (n d:Nat):Option Int→Nat
 | none=>d
 | some v=>if v<0 then (v+(n:Int)).toNat else min v.toNat n
theorem sIx_le (n d:Nat) (hd:d≤n) (o:Option Int):sIx n d o≤n:=by
 cases o with
 | none=>exact hd
 | some v=>
  show (if v<0 then (v+(n:Int)).toNat else min v.toNat n)≤n
  by_cases hv:v<0
  ·rw[if_pos hv];omega
  ·rw[if_neg hv];exact Nat.min_le_right _ _
theorem clip_eq (v:Int) (n d:Nat):(if v<0 then max (v+(n:Int)) 0 else min v (n:Int))=((sIx n d (some v):Nat):Int):=by
 show (if v<0 then max (v+(n:Int)) 0 else min v (n:Int))=(((if v<0 then (v+(n:Int)).toNat else min v.toNat n):Nat):Int)
 by_cases hv:v<0
 ·simp only[if_pos hv];omega
 ·simp only[if_neg hv];omega
theorem adjust_gen (lo hi:Option Int) (n:Nat):Builtin.Slice.sliceAdjust lo hi 1 (n:Int)=(((sIx n 0 lo:Nat):Int),((sIx n n hi:Nat):Int)):=by
 have h1:¬((1:Int)<0):=by omega
 unfold Builtin.Slice.sliceAdjust
 simp only[h1,if_false]
 refine Prod.ext ?_ ?_
 ·cases lo with
  | none=>rfl
  | some v=>exact clip_eq v n 0
 ·cases hi with
  | none=>rfl
  | some v=>exact clip_eq v n n
theorem places_gen (i j:Nat):Builtin.Slice.slicePlaces (i:Int) (j:Int) 1=j-i:=by
 unfold Builtin.Slice.slicePlaces
 have h1:(1:Int)>0:=by omega
 simp only[h1,if_true,Int.ediv_one]
 split<;>omega
theorem slicePart_ {v:Value} {o:Option Int} {Q:Option Int→Shared→Prop} (p:IsPart v o) (h:Q o s):wpAny (model prog w) A (Builtin.Slice.slicePartIndex v) Q E s:=by
 cases p with
 | none=>exact slicePart_none h
 | int i t=>exact slicePart_int h
theorem sliceApplied_gen {sl:Addr} {vl vu:Value} {lo hi:Option Int} {n:Nat} {Q:Int×Int×Nat→Shared→Prop} (hs:s.heap.IsSliceOf sl vl vu .none) (pl:IsPart vl lo) (pu:IsPart vu hi)
  (h:Q (((sIx n 0 lo:Nat):Int),1,sIx n n hi-sIx n 0 lo) s):wpAny (model prog w) A (Builtin.Slice.sliceApplied (.ref sl) (pure (n:Int))) Q E s:=by
 obtain⟨os,hos,hcs,hds⟩:=id hs
 unfold Builtin.Slice.sliceApplied Builtin.Slice.sliceFields
 refine wpAny_bind (wpAny_bind (wpAny_field hos hds (x:=vl) rfl (wpAny_bind (wpAny_field hos hds (x:=vu) rfl (wpAny_bind (wpAny_field hos hds (x:= .none) rfl (wpAny_pure ?_)))))))
 refine wpAny_bind (slicePart_none ?_)
 show wpAny _ _ (if ((1:Int)==0)=true then _ else _) _ _ s
 rw[if_neg (by decide)]
 refine wpAny_bind (slicePart_ pl (wpAny_bind (slicePart_ pu (wpAny_bind (wpAny_pure ?_)))))
 show wpAny _ _ (match Builtin.Slice.sliceAdjust lo hi 1 (n:Int) with |(lo,hi)=>pure (lo,(1:Int),Builtin.Slice.slicePlaces lo hi 1)) _ _ s
 rw[adjust_gen lo hi n]
 show wpAny _ _ (pure (((sIx n 0 lo:Nat):Int),(1:Int),Builtin.Slice.slicePlaces ((sIx n 0 lo:Nat):Int) ((sIx n n hi:Nat):Int) 1)) _ _ s
 rw[places_gen]
 exact wpAny_pure h
theorem pick_gen (xs:Array Value) (i k:Nat):((List.range k).filterMap fun (m:Nat)=>xs[((i:Int)+(m:Int)*1).toNat]?).toArray=((xs.toList.drop i).take k).toArray:=by
 have e:(fun (m:Nat)=>xs[((i:Int)+(m:Int)*1).toNat]?)=fun m=>xs[i+m]? :=by
  funext m
  have:((i:Int)+(m:Int)*1).toNat=i+m:=by omega
  rw[this]
 rw[e]
 have:=pick_run xs i k
 rw[List.filterMap_map] at this
 have e2:((fun x=>xs[x]?)∘fun x=>i+x)=fun m=>xs[i+m]? :=rfl
 rw[e2] at this
 rw[this]
theorem getItem_tuple_cut {t sl:Addr} {items:Array Value} {vl vu:Value} {lo hi:Option Int} {Q:Value→Shared→Prop} (ht:IsTup s.heap t items) (hs:s.heap.IsSliceOf sl vl vu .none) (pl:IsPart vl lo) (pu:IsPart vu hi)
  (hw:¬(sIx items.size 0 lo=0∧sIx items.size items.size hi=items.size))
  (h:Q (.ref s.heap.objs.size) {s with heap:=s.heap.push {cls:= .type "tuple",data:= .seq ((items.toList.drop (sIx items.size 0 lo)).take (sIx items.size items.size hi-sIx items.size 0 lo)).toArray}})
  (hsz:items.size≤sizeLine):wpAny (model prog w) A (getItem (.ref t) (.ref sl)) Q E s:=by
 have htake:sizeOk (.seq ((items.toList.drop (sIx items.size 0 lo)).take (sIx items.size items.size hi-sIx items.size 0 lo)).toArray):=by
  show ((items.toList.drop (sIx items.size 0 lo)).take (sIx items.size items.size hi-sIx items.size 0 lo)).toArray.size≤sizeLine
  rw[List.size_toArray,List.length_take,List.length_drop,Array.length_toList]
  omega
 have hj:sIx items.size items.size hi≤items.size:=sIx_le _ _ (Nat.le_refl _) hi
 obtain⟨os,hos,hcs,hds⟩:=id hs
 have hTs:s.TypeIs (.ref sl) "slice":=⟨os,hos,hcs⟩
 unfold getItem
 try with_reducible refine wpAny_holding ?_
 first | refine wpAny_bind (wpAny_pure ?_) | skip
 refine wpAny_bind (wpAny_sequenceKey ht.typeIs (by decide) ?_)
 refine wpAny_bind (wpAny_callSpecial?_slot (name:=Str.ofString "__getitem__") ht.typeIs PyProof.Rows.slot_tuple_getitem
  (wpAny_call_entry PyProof.Rows.slot_tuple_getitem ht.typeIs entry_tuple_getitem ?_ (args_tuple_getitem _ _)))
 show wpAny _ _ (Builtin.Tuple.tupleItemsOf (.ref t)>>=_) _ _ s
 refine wpAny_bind (tupleItemsOf_ ht ?_)
 refine wpAny_bind (wpAny_typeOf hTs ?_)
 rw[if_pos (by decide)]
 refine wpAny_bind (sliceApplied_gen hs pl pu ?_)
 have hno:¬((((sIx items.size 0 lo:Nat):Int)==0&&(1:Int)==1&&(sIx items.size items.size hi-sIx items.size 0 lo)==items.size)=true):=by
  intro q
  rw[Bool.and_eq_true,Bool.and_eq_true] at q
  have q1:((sIx items.size 0 lo:Nat):Int)=0:=eq_of_beq q.1.1
  have q2:sIx items.size items.size hi-sIx items.size 0 lo=items.size:=eq_of_beq q.2
  exact hw ⟨by omega,by omega⟩
 show wpAny _ _ (if (((sIx items.size 0 lo:Nat):Int)==0&&(1:Int)==1&&(sIx items.size items.size hi-sIx items.size 0 lo)==items.size)=true then _ else _) _ _ s
 rw[if_neg hno,pick_gen]
 first
  | exact wpAny_bind (m:=Builtin.Tuple.tupleExact _) (wpAny_newObj_type (wpAny_pure ⟨_,rfl,wpAny_pure h⟩) htake)
  | exact wpAny_bind (m:=Builtin.Tuple.tupleExact _) (wpAny_newObj_type (wpAny_bind (wpAny_pure (wpAny_pure ⟨_,rfl,wpAny_pure h⟩))) htake)
  | exact wpAny_bind (wpAny_bind (m:=Builtin.Tuple.tupleExact _) (wpAny_newObj_type (wpAny_pure (wpAny_pure ⟨_,rfl,wpAny_pure h⟩)) htake))
  | exact wpAny_bind (wpAny_bind (m:=Builtin.Tuple.tupleExact _) (wpAny_newObj_type (wpAny_pure ⟨_,rfl,wpAny_pure h⟩) htake))
end
end HT
namespace L2
open PySem PySem.Spec PyProof.Rows
noncomputable abbrev TO:=St→Hp→(Option Int→Hp→Prop)→Prop
noncomputable def PO (X:Cx) (e:Option Expr) (t:TO):Prop:=
 ∀(pins:List (Addr×Obj)) (s:Shared) (σ:St) (H:Hp) (Q:Option Int→Hp→Prop),Inv X pins σ H s→t σ H Q→
  wpAny (model X.prog X.w) X.A (evalPart e X.env) (fun u s'=> ∃o H',Inv X pins σ H' s'∧IsPart u o∧Q o H') X.xe s
noncomputable def tNoPart:TO:=fun _ H Q=>Q none H
noncomputable def tPart (t:TE):TO:=fun σ H Q=>t σ H fun x H1=> ∃i,x= .int i∧Q (some i) H1
section
variable {X:Cx} {e:Expr} {te:TE} {lo hi:Option Expr} {tl th:TO} {pos p2:Pos}
theorem po_none:PO X none tNoPart:=by
 intro pins s σ H Q I h
 rw[evalPart_none]
 exact wpAny_pure ⟨none,H,I,.none,h⟩
theorem po_some (h:PE X e te):PO X (some e) (tPart te):=by
 intro pins s σ H Q I hw
 rw[evalPart_some]
 refine thn (h pins s σ H _ I hw) fun u s1 ⟨x,H1,I1,r1,q1⟩=> ?_
 obtain⟨i,rfl,q⟩:=q1
 obtain⟨t,rfl⟩:=r1
 exact⟨some i,H1,I1,.int i t,q⟩
noncomputable def SlR (X:Cx) (r:V→Option Int→Option Int→Hp→VK→Prop):Prop:=
 ∀(pins:List (Addr×Obj)) (s:Shared) (σ:St) (H:Hp) (x:V) (v vl vu:Value) (lo hi:Option Int) (sl:Addr) (Q:VK),Inv X pins σ H s→RelV x v→s.heap.IsSliceOf sl vl vu .none→IsPart vl lo→IsPart vu hi→r x lo hi H Q→
  ∃T id,typeLookup (.type T) "__getitem__"=pure (some (.builtin id))∧s.TypeIs v T∧wpAny (model X.prog X.w) X.A (getItem v (.ref sl)) (EP X pins σ Q) X.xe s
theorem SlR.or {r r':V→Option Int→Option Int→Hp→VK→Prop} (h:SlR X r) (h':SlR X r'):SlR X (fun x lo hi H Q=>r x lo hi H Q∨r' x lo hi H Q):=by
 intro pins s σ H x v vl vu lo hi sl Q I rx hs pl pu q
 rcases q with q | q
 ·exact h pins s σ H x v vl vu lo hi sl Q I rx hs pl pu q
 ·exact h' pins s σ H x v vl vu lo hi sl Q I rx hs pl pu q
noncomputable def tSl (r:V→Option Int→Option Int→Hp→VK→Prop) (te:TE) (tl th:TO):TE:=fun σ H Q=>te σ H fun x H1=>tl σ H1 fun l H2=>th σ H2 fun u H3=>r x l u H3 Q
theorem pe_slice {r:V→Option Int→Option Int→Hp→VK→Prop} (hr:SlR X r) (he:PE X e te) (hl:PO X lo tl) (hu:PO X hi th):PE X (.Subscript e (.Slice lo hi none p2) pos) (tSl r te tl th):=by
 intro pins s σ H Q I h
 refine Subscript_ (thn (he pins s σ H _ I h) fun v s1 ⟨x,H1,I1,r1,q1⟩=> ?_)
 refine wpAny_Slice (thn (hl pins s1 σ H1 _ I1 q1) fun vl s2 ⟨l,H2,I2,pl,q2⟩=>thn (hu pins s2 σ H2 _ I2 q2) fun vu s3 ⟨u,H3,I3,pu,q3⟩=> ?_)
 rw[evalPart_none]
 refine wpAny_pure ?_
 have I4:Inv X pins σ H3 {s3 with heap:=s3.heap.push {cls:= .type "slice",data:= .fields #[vl,vu,.none]}}:=I3.kept (t':=s3.toks) fun b ob q=>Heap.get?_push_of_some _ q
 obtain⟨T,id,hT,ht,hg⟩:=hr pins {s3 with heap:=s3.heap.push {cls:= .type "slice",data:= .fields #[vl,vu,.none]}} σ H3 x v vl vu l u s3.heap.objs.size Q I4 r1 (Heap.IsSliceOf.new ..) pl pu q3
 show wpAny (model X.prog X.w) X.A (subscriptTail e (.Slice lo hi none p2) v (.ref s3.heap.objs.size)) (EP X pins σ Q) X.xe {s3 with heap:=s3.heap.push {cls:= .type "slice",data:= .fields #[vl,vu,.none]}}
 exact tail_any (ops:=[.ref s3.heap.objs.size,v]) ht hT hg (by with_unfolding_all rfl)
noncomputable def cutV (xs:List V) (lo hi:Option Int):List V:=(xs.drop (HT.sIx xs.length 0 lo)).take (HT.sIx xs.length xs.length hi-HT.sIx xs.length 0 lo)
theorem cutV_length (xs:List V) (lo hi:Option Int):(cutV xs lo hi).length≤xs.length:=by
 unfold cutV
 rw[List.length_take,List.length_drop]
 omega
noncomputable def rSlT (K:PySem.W.Frag):V→Option Int→Option Int→Hp→VK→Prop:=fun x lo hi H Q=> ∃a xs,x= .ref a∧SqT K H a xs∧
 ¬(HT.sIx xs.length 0 lo=0∧HT.sIx xs.length xs.length hi=xs.length)∧∀p,H p=none→Q (.ref p) (upd H p (.tup (cutV xs lo hi)))
theorem sl_tup:SlR X (rSlT X.K):=by
 intro pins s σ H x v vl vu lo hi sl Q I rx hs pl pu h
 obtain⟨a,xs,rfl,hx,hw,q⟩:=h
 cases rx
 obtain⟨its,r,ht,hz⟩:=I.tuple hx
 have hlen:its.toArray.size=xs.length:=by rw[List.size_toArray];exact r.length.symm
 refine⟨"tuple",_,PyProof.Rows.slot_tuple_getitem.lookup,ht.typeIs,?_⟩
 refine HT.getItem_tuple_cut ht hs pl pu (by rw[hlen];exact hw) ?_ (by rw[hlen];exact hz)
 rw[hlen]
 refine⟨.ref s.heap.objs.size,_,I.laid (t':=s.toks) (o:= .tup (cutV xs lo hi)) (fun b ob q=>Heap.get?_push_of_some _ q) (Nat.le_refl _) ?_,rfl,q _ (I.hok.fresh (Nat.le_refl _))⟩
 exact⟨Nat.le_trans (cutV_length xs lo hi) hz,_,(r.drop (HT.sIx xs.length 0 lo)).take (HT.sIx xs.length xs.length hi-HT.sIx xs.length 0 lo),TupD.new _ _⟩
noncomputable def rCatT (K:PySem.W.Frag):R2:=fun x y H Q=> ∃a b xs ys,x= .ref a∧y= .ref b∧SqT K H a xs∧SqT K H b ys∧xs≠[]∧xs.length+ys.length≤sizeLine∧
 (ys=[]→Q (.ref a) H)∧(ys≠[]→∀p,H p=none→Q (.ref p) (upd H p (.tup (xs++ys))))
theorem Vals.nil_iff {xs:List V} {us:List Value} (r:Vals xs us):us=[]↔xs=[]:=by
 cases r with
 | nil=>simp
 | cons _ _=>simp
theorem op_catT:OpR X (binaryOp .Add) (rCatT X.K):=by
 intro pins s σ H x y v u Q I rx ry h
 obtain⟨a,b,xs,ys,rfl,rfl,ha,hb,hx,hz,q1,q2⟩:=h
 cases rx
 cases ry
 obtain⟨its,r1,p1,_⟩:=I.tuple ha
 obtain⟨its2,r2,p2,_⟩:=I.tuple hb
 refine HT.cat_tup p1 p2 (fun z=>hx (r1.nil_iff.mp z)) (fun z=>⟨.ref a,H,I,rfl,q1 (r2.nil_iff.mp z)⟩) (fun z=> ?_) (by rw[←r1.length,←r2.length];exact hz)
 refine⟨.ref s.heap.objs.size,_,I.laid (t':=s.toks) (o:= .tup (xs++ys)) (fun b ob q=>Heap.get?_push_of_some _ q) (Nat.le_refl _) ?_,rfl,q2 (fun w=>z (r2.nil_iff.mpr w)) _ (I.hok.fresh (Nat.le_refl _))⟩
 exact⟨by rw[List.length_append];exact hz,_,r1.append r2,TupD.new _ _⟩
end
noncomputable def ixN (n:Nat) (i:Int):Option Nat:=if 0≤i then (if i<n then some i.toNat else none) else if-(n:Int)≤i then some (i+n).toNat else none
noncomputable def atI {α:Type} (xs:List α) (i:Int):Option α:=(ixN xs.length i).bind fun j=>xs[j]?
theorem ixN_seq {n:Nat} {i:Int} {j:Nat} (h:ixN n i=some j):seqIndex? i n=some j∧j<n∧ -(n:Int)≤i∧i<n:=by
 unfold ixN at h
 by_cases h0:0≤i
 ·rw[if_pos h0] at h
  by_cases h1:i<n
  ·rw[if_pos h1] at h
   have e:i.toNat=j:=Option.some.inj h
   exact⟨by rw[seqIndex_of h0 h1,e],by omega,by omega,h1⟩
  ·rw[if_neg h1] at h;cases h
 ·rw[if_neg h0] at h
  by_cases h1: -(n:Int)≤i
  ·rw[if_pos h1] at h
   have e:(i+n).toNat=j:=Option.some.inj h
   exact⟨by rw[seqIndex_neg (by omega) h1,e],by omega,h1,by omega⟩
  ·rw[if_neg h1] at h;cases h
theorem atI_get {α:Type} {xs:List α} {i:Int} {v:α} (h:atI xs i=some v): ∃j,seqIndex? i xs.length=some j∧xs[j]? =some v∧j<xs.length∧ -(xs.length:Int)≤i∧i<xs.length:=by
 unfold atI at h
 cases e:ixN xs.length i with
 | none=>rw[e] at h;cases h
 | some j=>
  rw[e] at h
  obtain⟨h1,h2,h3,h4⟩:=ixN_seq e
  exact⟨j,h1,h,h2,h3,h4⟩
theorem atI_nat {α:Type} {xs:List α} {j:Nat} {v:α} (h:xs[j]? =some v):atI xs (j:Int)=some v:=by
 have hj:j<xs.length:=(List.getElem?_eq_some_iff.mp h).1
 have e:ixN xs.length (j:Int)=some j:=by
  unfold ixN
  rw[if_pos (by omega),if_pos (by omega)];simp
 unfold atI;rw[e];exact h
noncomputable def PlainIx (b:Expr):Prop:= ∀o i,subscripted b false o i=operate [o,i] (getItem o i)
noncomputable def IxR (X:Cx) (r:R2):Prop:=
 ∀(value slice:Expr) (pins:List (Addr×Obj)) (s:Shared) (σ:St) (H:Hp) (x y:V) (v u:Value) (Q:VK),Inv X pins σ H s→RelV x v→RelV y u→r x y H Q→
  subscripted slice false v u=operate [v,u] (getItem v u)→wpAny (model X.prog X.w) X.A (subscriptTail value slice v u) (EP X pins σ Q) X.xe s
noncomputable def MtR (X:Cx) (id:String) (r:V→List V→Hp→VK→Prop):Prop:=
 ∀(pins:List (Addr×Obj)) (s:Shared) (σ:St) (H:Hp) (x:V) (xs:List V) (v:Value) (us:List Value) (Q:VK),Inv X pins σ H s→RelV x v→Vals xs us→r x xs H Q→
  wpAny (model X.prog X.w) X.A (call (.builtin id) (v::us)) (EP X pins σ Q) X.xe s
section
variable {X:Cx} {a b:Expr} {ta tb:TE} {pos:Pos}
theorem IxR.or {r r':R2} (h:IxR X r) (h':IxR X r'):IxR X (fun x y H Q=>r x y H Q∨r' x y H Q):=by
 intro value slice pins s σ H x y v u Q I rx ry q hs
 rcases q with q | q
 ·exact h value slice pins s σ H x y v u Q I rx ry q hs
 ·exact h' value slice pins s σ H x y v u Q I rx ry q hs
theorem pe_ix {r:R2} (hr:IxR X r) (ha:PE X a ta) (hb:PE X b tb) (hs:PlainIx b):PE X (.Subscript a b pos) (tOp r ta tb):=by
 intro pins s σ H Q I h
 exact Subscript_ (binT ha hb I h fun v u s2 x y H2 I2 rx ry q=>hr a b pins s2 σ H2 x y v u Q I2 rx ry q (hs _ _))
noncomputable def rIxL (K:PySem.W.Frag):R2:=fun x y H Q=> ∃p xs i v,x= .ref p∧y= .int i∧SqL K H p xs∧atI xs i=some v∧Q v H
noncomputable def rIxT (K:PySem.W.Frag):R2:=fun x y H Q=> ∃p xs i v,x= .ref p∧y= .int i∧SqT K H p xs∧atI xs i=some v∧Q v H
noncomputable def rIxS:R2:=fun x y H Q=> ∃z i c,x= .str z∧y= .int i∧z.length≤sizeLine∧atI z.cps.toList i=some c∧Q (.str ⟨#[c]⟩) H
theorem ix_list:IxR X (rIxL X.K):=by
 intro value slice pins s σ H x y v u Q I rx ry h hs
 obtain⟨p,xs,i,z,rfl,rfl,hq,he,q⟩:=h
 cases rx
 obtain⟨t,rfl⟩:=ry
 obtain⟨its,r,pl,hz⟩:=I.list hq
 obtain⟨j,h1,h2,h3,h4,h5⟩:=atI_get he
 obtain⟨w,ew,rw'⟩:=r.get h2
 have hl:=r.length
 have hn:=line63
 have fin:EP X pins σ Q w s:=⟨z,H,I,rw',q⟩
 by_cases h0:0≤i
 ·have hj:i.toNat=j:=by
   rw[seqIndex_of h0 h5] at h1
   exact Option.some.inj h1
  exact item_listR pl.isList h0 (by omega) (by rw[hj];simpa using ew) fin hs
 ·have hj:(i+(its.toArray.size:Int)).toNat=j:=by
   rw[seqIndex_neg (by omega) h4] at h1
   rw[List.size_toArray,←hl]
   exact Option.some.inj h1
  exact subscriptTail_builtinR (x:=w) pl.isList.typeIs slot_list_getitem.lookup
   (wpAny_getItem_list_neg (Q:=fun r s'=>r=w∧EP X pins σ Q r s') pl.isList (by omega) (by rw[List.size_toArray]<;>omega) (by omega) (by rw[hj];simpa using ew) ⟨rfl,fin⟩) hs
theorem ix_tup:IxR X (rIxT X.K):=by
 intro value slice pins s σ H x y v u Q I rx ry h hs
 obtain⟨p,xs,i,z,rfl,rfl,hq,he,q⟩:=h
 cases rx
 obtain⟨t,rfl⟩:=ry
 obtain⟨its,r,pl,hz⟩:=I.tuple hq
 obtain⟨j,h1,h2,h3,h4,h5⟩:=atI_get he
 obtain⟨w,ew,rw'⟩:=r.get h2
 have hl:=r.length
 have hn:=line63
 have fin:EP X pins σ Q w s:=⟨z,H,I,rw',q⟩
 exact subscriptTail_builtinR (x:=w) pl.typeIs slot_tuple_getitem.lookup
  (getItem_tuple (j:=j) (Q:=fun r s'=>r=w∧EP X pins σ Q r s') pl (by omega) (by omega) (by rw[List.size_toArray,←hl];exact h1) (by simpa using ew) ⟨rfl,fin⟩) hs
theorem ix_str:IxR X rIxS:=by
 intro value slice pins s σ H x y v u Q I rx ry h hs
 obtain⟨z,i,c,rfl,rfl,hz,he,q⟩:=h
 obtain⟨t,rfl⟩:=rx
 obtain⟨t',rfl⟩:=ry
 obtain⟨j,h1,h2,h3,h4,h5⟩:=atI_get he
 have hl:z.cps.toList.length=z.length:=by simp[Str.length]
 rw[hl] at h1 h4 h5
 have hn:=line63
 exact tail_any (typeIs_str s z t) slot_str_getitem.lookup (getItem_str (c:=c) (by
  have e1:decide (i< -(2^63:Int))=false:=decide_eq_false (by omega)
  have e2:decide (i≥2^63)=false:=decide_eq_false (by omega)
  rw[e1,e2,Bool.or_false]) (by rw[h1];simpa using h2) ⟨.str ⟨#[c]⟩,H,I.tok _,⟨_,rfl⟩,q⟩) hs
noncomputable def rIx (K:PySem.W.Frag):R2:=fun x y H Q=>rIxL K x y H Q∨rIxT K x y H Q∨rIxS x y H Q
theorem ix_seq:IxR X (rIx X.K):=ix_list.or (ix_tup.or ix_str)
theorem slice_bounds (lo hi:Option Int) (n:Nat):(sliceBounds lo hi none n).1=((HT.sIx n 0 lo:Nat):Int)∧(sliceBounds lo hi none n).2.1=((HT.sIx n n hi:Nat):Int)∧(sliceBounds lo hi none n).2.2=1:=by
 refine⟨?_,?_,rfl⟩
 ·cases lo with
  | none=>simp[sliceBounds,HT.sIx]
  | some i=>
   simp only[sliceBounds,HT.sIx,Option.getD_none,show (1:Int)>0 by decide,if_true]
   by_cases h:i<0
   ·simp only[h,if_true]<;>omega
   ·simp only[h,if_false]<;>omega
 ·cases hi with
  | none=>simp[sliceBounds,HT.sIx]
  | some i=>
   simp only[sliceBounds,HT.sIx,Option.getD_none,show (1:Int)>0 by decide,if_true]
   by_cases h:i<0
   ·simp only[h,if_true]<;>omega
   ·simp only[h,if_false]<;>omega
theorem slicePick_cut (its:List Value) (lo hi:Option Int):slicePick its.toArray lo hi none=((its.drop (HT.sIx its.length 0 lo)).take (HT.sIx its.length its.length hi-HT.sIx its.length 0 lo)).toArray:=by
 obtain⟨h1,h2,h3⟩:=slice_bounds lo hi its.toArray.size
 unfold slicePick
 rw[h1,h2,h3]
 simp only[sliceRange_one,pick_run,List.size_toArray]<;>rfl
noncomputable def rSlL (K:PySem.W.Frag):V→Option Int→Option Int→Hp→VK→Prop:=fun x lo hi H Q=> ∃a xs,x= .ref a∧SqL K H a xs∧∀p,H p=none→Q (.ref p) (upd H p (.lst (cutV xs lo hi)))
theorem sl_list:SlR X (rSlL X.K):=by
 intro pins s σ H x v vl vu lo hi sl Q I rx hs pl pu h
 obtain⟨a,xs,rfl,hx,q⟩:=h
 cases rx
 obtain⟨its,r,ht,hz⟩:=I.list hx
 have hlen:=r.length
 refine⟨"list",_,slot_list_getitem.lookup,ht.isList.typeIs,?_⟩
 refine wpAny_getItem_list_slice ht.isList hs pl pu .none (by simp) ?_ (by rw[List.size_toArray]<;>omega)
 rw[slicePick_cut,←hlen]
 refine⟨.ref s.heap.objs.size,_,I.laid (t':=s.toks) (o:= .lst (cutV xs lo hi)) (fun b ob q=>Heap.get?_push_of_some _ q) (Nat.le_refl _) ?_,rfl,q _ (I.hok.fresh (Nat.le_refl _))⟩
 exact⟨Nat.le_trans (cutV_length xs lo hi) hz,_,0,(r.drop (HT.sIx xs.length 0 lo)).take (HT.sIx xs.length xs.length hi-HT.sIx xs.length 0 lo),Heap.get?_push_size _ rfl⟩
noncomputable def flatV:V→Bool
 | .non=>true
 | .bl _=>true
 | .int _=>true
 | .str _=>true
 | _=>false
noncomputable def eqV:V→V→Bool
 | .non,.non=>true
 | .bl a,.bl b=>a==b
 | .bl a,.int b=>(if a then 1 else 0)==b
 | .int a,.bl b=>a==(if b then 1 else 0)
 | .int a,.int b=>a==b
 | .str a,.str b=>a==b
 | _,_=>false
theorem eqAt_V {A:Around} {s:Shared} {y x:V} {u v:Value} (ry:RelV y u) (rx:RelV x v) (fy:flatV y=true) (fx:flatV x=true):SeqAt.EqAt A s u v (eqV y x):=by
 cases y with
 | non=>
  cases ry
  cases x with
  | non=>cases rx;exact SeqAt.EqAt.same _
  | bl b=>cases rx;exact SeqAt.EqAt.none_bool b
  | int b=>obtain⟨t,rfl⟩:=rx;exact SeqAt.EqAt.none_int b t
  | str b=>obtain⟨t,rfl⟩:=rx;exact SeqAt.EqAt.none_str b t
  | _=>exact absurd (show false=true from fx) Bool.false_ne_true
 | bl a=>
  cases ry
  cases x with
  | non=>cases rx;exact SeqAt.EqAt.bool_none a
  | bl b=>cases rx;exact SeqAt.EqAt.bool_bool a b
  | int b=>obtain⟨t,rfl⟩:=rx;exact SeqAt.EqAt.bool_int a b t
  | str b=>obtain⟨t,rfl⟩:=rx;exact SeqAt.EqAt.bool_str a b t
  | _=>exact absurd (show false=true from fx) Bool.false_ne_true
 | int a=>
  obtain⟨t',rfl⟩:=ry
  cases x with
  | non=>cases rx;exact SeqAt.EqAt.int_none a t'
  | bl b=>cases rx;exact SeqAt.EqAt.int_bool a t' b
  | int b=>obtain⟨t,rfl⟩:=rx;exact SeqAt.EqAt.int_int a t' b t
  | str b=>obtain⟨t,rfl⟩:=rx;exact SeqAt.EqAt.int_str a t' b t
  | _=>exact absurd (show false=true from fx) Bool.false_ne_true
 | str a=>
  obtain⟨t',rfl⟩:=ry
  cases x with
  | non=>cases rx;exact SeqAt.EqAt.str_none a t'
  | bl b=>cases rx;exact SeqAt.EqAt.str_bool a t' b
  | int b=>obtain⟨t,rfl⟩:=rx;exact SeqAt.EqAt.str_int a t' b t
  | str b=>obtain⟨t,rfl⟩:=rx;exact SeqAt.EqAt.str_str a t' b t
  | _=>exact absurd (show false=true from fx) Bool.false_ne_true
 | _=>exact absurd (show false=true from fy) Bool.false_ne_true
noncomputable def eqU (x:V) (u:Value):Bool:=match u with
 | .none=>eqV .non x
 | .bool b=>eqV (.bl b) x
 | .int i _=>eqV (.int i) x
 | .str z _=>eqV (.str z) x
 | _=>false
theorem eqU_of {x y:V} {u:Value} (r:RelV y u) (f:flatV y=true):eqU x u=eqV y x:=by
 cases y with
 | non=>cases r;rfl
 | bl b=>cases r;rfl
 | int i=>obtain⟨t,rfl⟩:=r;rfl
 | str z=>obtain⟨t,rfl⟩:=r;rfl
 | _=>exact absurd (show false=true from f) Bool.false_ne_true
theorem any_eqU {x:V}: ∀{xs:List V} {us:List Value},Vals xs us→xs.all flatV=true→us.any (eqU x)=xs.any fun y=>eqV y x
 | _,_,.nil,_=>rfl
 | y::xs,u::us,.cons r t,f=>by
  rw[List.all_cons,Bool.and_eq_true] at f
  rw[List.any_cons,List.any_cons,eqU_of r f.1,any_eqU t f.2]
theorem mem_eqAt {A:Around} {s:Shared} {x:V} {v:Value} (rx:RelV x v) (fx:flatV x=true): ∀{xs:List V} {us:List Value},Vals xs us→xs.all flatV=true→∀u∈us,SeqAt.EqAt A s u v (eqU x u)
 | _,_,.nil,_=>fun u hu=>by cases hu
 | y::xs,u::us,.cons r t,f=>fun u' hu=>by
  rw[List.all_cons,Bool.and_eq_true] at f
  rcases List.mem_cons.mp hu with rfl | hu
  ·rw[eqU_of r f.1];exact eqAt_V r rx f.1 fx
  ·exact mem_eqAt rx fx t f.2 u' hu
noncomputable def inV (x:V) (xs:List V):Bool:=xs.any fun y=>eqV y x
noncomputable def rIn (K:PySem.W.Frag) (neg:Bool):R2:=fun x y H Q=> ∃p xs,y= .ref p∧(SqL K H p xs∨SqT K H p xs)∧flatV x=true∧xs.all flatV=true∧Q (.bl (if neg then !inV x xs else inV x xs)) H
theorem op_in_seq:OpR X (compareOp .In) (rIn X.K false):=by
 intro pins s σ H x y v u Q I rx ry h
 obtain⟨p,xs,rfl,hq,fx,fs,q⟩:=h
 cases ry
 rcases hq with hq | hq
 ·obtain⟨its,r,pl,hz⟩:=I.list hq
  refine SeqAt.in_listAt (eqU x) pl.isList (fun w hw=>mem_eqAt rx fx r fs w (by simpa using hw)) ⟨.bl _,H,I,rfl,?_⟩
  rw[show its.toArray.any (eqU x)=its.any (eqU x) by simp,any_eqU r fs]
  exact q
 ·obtain⟨its,r,pl,hz⟩:=I.tuple hq
  refine SeqAt.in_tupleAt (eqU x) pl (fun w hw=>mem_eqAt rx fx r fs w (by simpa using hw)) ⟨.bl _,H,I,rfl,?_⟩
  rw[show its.toArray.any (eqU x)=its.any (eqU x) by simp,any_eqU r fs]
  exact q
theorem call_len_seq:CallR X (.builtin "len") (fun xs H Q=> ∃p ys,xs=[.ref p]∧(SqL X.K H p ys∨SqT X.K H p ys)∧Q (.int ys.length) H):=by
 intro pins s σ H xs us Q I r h
 obtain⟨p,ys,rfl,hq,q⟩:=h
 obtain⟨u,rfl,rx⟩:=vals1 r
 cases rx
 have hn:=line63
 rcases hq with hq | hq
 ·obtain⟨its,r',pl,hz⟩:=I.list hq
  have hlen:=r'.length
  exact Calls.call_len_list pl.isList (by simp only[List.size_toArray]<;>omega) ⟨.int ys.length,H,I.tok _,⟨s.toks+1,by rw[List.size_toArray,hlen]⟩,q⟩
 ·obtain⟨its,r',pl,hz⟩:=I.tuple hq
  have hlen:=r'.length
  exact len_tuple pl (by simp only[List.size_toArray]<;>omega) ⟨.int ys.length,H,I.tok _,⟨s.toks+1,by rw[List.size_toArray,hlen]⟩,q⟩
theorem call_list_of:CallR X (.type "list") (fun xs H Q=> ∃p ys,xs=[.ref p]∧(SqL X.K H p ys∨SqT X.K H p ys)∧∀l,H l=none→Q (.ref l) (upd H l (.lst ys))):=by
 intro pins s σ H xs us Q I r h
 obtain⟨p,ys,rfl,hq,q⟩:=h
 obtain⟨u,rfl,rx⟩:=vals1 r
 cases rx
 have fin: ∀(its:List Value),Vals ys its→ys.length≤sizeLine→∀(h':Heap) (c':Nat),(∀b o',s.heap.get? b=some o'→h'.get? b=some o')→
   h'.get? s.heap.objs.size=some {cls:= .type "list",dict:=none,data:= .seq its.toArray c',slots:= #[]}→EP X pins σ Q (.ref s.heap.objs.size) {s with heap:=h'}:=fun its r' hz h' c' kp e=>
  ⟨.ref s.heap.objs.size,_,I.laid (t':=s.toks) kp (Nat.le_refl _) (show aBw X.prog X.w _ h' _ (.lst ys) from⟨hz,its,c',r',e⟩),rfl,q _ (I.hok.fresh (Nat.le_refl _))⟩
 rcases hq with hq | hq
 ·obtain⟨its,r',pl,hz⟩:=I.list hq
  have hlen:=r'.length
  obtain⟨o,ho,hc,n,hd⟩:=pl.isList
  exact call_list_seq p (.inl rfl) ho hc hd (fun h' c' kp e=>fin its r' hz h' c' kp e) (by simp only[List.size_toArray]<;>omega)
 ·obtain⟨its,r',pl,hz⟩:=I.tuple hq
  have hlen:=r'.length
  obtain⟨o,ho,hc,n,hd⟩:=pl
  exact call_list_seq p (.inr rfl) ho hc hd (fun h' c' kp e=>fin its r' hz h' c' kp e) (by simp only[List.size_toArray]<;>omega)
theorem call_tuple_of:CallR X (.type "tuple") (fun xs H Q=> ∃p ys,xs=[.ref p]∧((SqL X.K H p ys∧∀l,H l=none→Q (.ref l) (upd H l (.tup ys)))∨(SqT X.K H p ys∧Q (.ref p) H))):=by
 intro pins s σ H xs us Q I r h
 obtain⟨p,ys,rfl,h⟩:=h
 obtain⟨u,rfl,rx⟩:=vals1 r
 cases rx
 rcases h with⟨hq,q⟩ |⟨hq,q⟩
 ·obtain⟨its,r',pl,hz⟩:=I.list hq
  have hlen:=r'.length
  refine call_tuple_list pl.isList (fun h' kp=> ?_) (by simp only[List.size_toArray]<;>omega)
  have I1:Inv X pins σ H {s with heap:=h'}:=I.kept (t':=s.toks) kp
  have I2:Inv X pins σ (upd H h'.objs.size (.tup ys)) {s with heap:=h'.push {cls:= .type "tuple",data:= .seq its.toArray}}:=
   I1.laid (t':=s.toks) (fun b o e=>Heap.get?_push_of_some _ e) (Nat.le_refl _) (show aBw X.prog X.w _ _ _ (.tup ys) from⟨hz,its,r',TupD.new _ _⟩)
  exact⟨.ref h'.objs.size,_,I2,rfl,q _ (I1.hok.fresh (Nat.le_refl _))⟩
 ·obtain⟨its,r',pl,hz⟩:=I.tuple hq
  exact call_tuple_same pl ⟨.ref p,H,I,rfl,q⟩
noncomputable def tyV (K:PySem.W.Frag) (T:String) (x:V) (H:Hp):Prop:=match x with
 | .str _=>T="str"
 | .int _=>T="int"
 | .ref p=>(T="list"∧∃xs,SqL K H p xs)∨(T="tuple"∧∃o,K.lookup p=some o∧o.cls= .type "tuple"∧o.dict=none)∨
   (T="dict"∧((∃kvs,H p=some (.dK kvs))∨∃kvs,H p=some (.dT kvs)))∨(T="set"∧∃S n,H p=some (.set S n))
 | _=>False
theorem tyV_is {pins:List (Addr×Obj)} {σ:St} {H:Hp} {s:Shared} {T:String} {x:V} {v:Value} (I:Inv X pins σ H s) (r:RelV x v) (ty:tyV X.K T x H):
  s.TypeIs v T∧∀a,v= .ref a→∃ob,s.heap.get? a=some ob∧ob.dict=none:=by
 cases x with
 | str z=>
  obtain⟨t,rfl⟩:=r
  cases (show T="str" from ty)
  exact⟨typeIs_str s z t,fun _ e=>nomatch e⟩
 | int i=>
  obtain⟨t,rfl⟩:=r
  cases (show T="int" from ty)
  exact⟨typeIs_int s i t,fun _ e=>nomatch e⟩
 | ref p=>
  cases r
  rcases ty with⟨rfl,xs,hq⟩ |⟨rfl,o,hk,hc,hd⟩ |⟨rfl,hk⟩ |⟨rfl,S,n,hk⟩
  ·obtain⟨its,_,pl,_⟩:=I.list hq
   refine⟨pl.isList.typeIs,fun a e=> ?_⟩
   cases e
   obtain⟨o,n,e,c,hd,_⟩:=pl
   exact⟨o,e,hd⟩
  ·refine⟨⟨o,I.kIn p o hk,hc⟩,fun a e=> ?_⟩
   cases e
   exact⟨o,I.kIn _ o hk,hd⟩
  ·have z: ∃o,s.heap.get? p=some o∧o.ExactDict:=by
    rcases hk with⟨kvs,hk⟩ |⟨kvs,hk⟩
    ·obtain⟨_,_,_,_,o,_,_,e,ex,_⟩:=I.hok p _ hk
     exact⟨o,e,ex⟩
    ·obtain⟨_,_,_,_,o,_,_,e,ex,_⟩:=I.hok p _ hk
     exact⟨o,e,ex⟩
   obtain⟨o,e,ex⟩:=z
   refine⟨⟨o,e,ex.1⟩,fun a e2=> ?_⟩
   cases e2
   exact⟨o,e,ex.2.1⟩
  ·obtain⟨⟨o,_,_,_,e,ex,_⟩,_⟩:=I.hok p _ hk
   refine⟨⟨o,e,ex.1⟩,fun a e2=> ?_⟩
   cases e2
   exact⟨o,e,ex.2.1⟩
 | _=>exact False.elim ty
noncomputable def tBM0 (K:PySem.W.Frag) (T:String) (r:V→List V→Hp→VK→Prop) (to:TE):TE:=fun σ H Q=>to σ H fun x H1=>tyV K T x H1∧r x [] H1 Q
noncomputable def tBM (K:PySem.W.Frag) (T:String) (r:V→List V→Hp→VK→Prop) (to:TE) (t:TA):TE:=fun σ H Q=>to σ H fun x H1=>tyV K T x H1∧t σ H1 fun xs H2=>r x xs H2 Q
variable {o e:Expr} {es:List Expr} {to:TE} {t:TA} {name:Str} {apos cpos:Pos} {T id:String} {r:V→List V→Hp→VK→Prop}
theorem pe_bm0 (pa:PlainAttrs T) (slot:Slot T name id) (hty:typeOf (.builtin id)=pure (.type "method_descriptor")) (hm:MtR X id r) (ho:PE X o to)
  (hbase:attributeBase o name X.env (eval o X.env)=eval o X.env:=by rfl) (hline:(apos.endLine==cpos.line)=true:=by rfl):PE X (.Call (.Attribute o name apos) [] [] cpos) (tBM0 X.K T r to):=by
 intro pins s σ H Q I h
 refine wpAny_Call_method0_late hbase hline (thn (ho pins s σ H _ I h) fun v s1 ⟨x,H1,I1,r1,ty,q1⟩=> ?_)
 obtain⟨h1,h2⟩:=tyV_is I1 r1 ty
 exact⟨T,id,pa,slot,hty,h1,h2,Calls.callWith_builtin rfl (PySem.evalArgs_none (hm pins s1 σ H1 x [] v [] Q I1 r1 .nil q1))⟩
theorem pe_bm (pa:PlainAttrs T) (slot:Slot T name id) (hty:typeOf (.builtin id)=pure (.type "method_descriptor")) (hm:MtR X id r) (ho:PE X o to) (ha:PA X (e::es) t)
  (hbase:attributeBase o name X.env (eval o X.env)=eval o X.env:=by rfl)
  (hfew:((backTo cpos (starEach (e::es) X.env)).all (fun x=> !x.1)&&(backToKw cpos (keywordEach [] X.env)).all (fun x=>x.1.isSome)
   &&decide ((e::es).length+([]:List Keyword).length+(if ([]:List Keyword).isEmpty then 0 else 1)<30))=true:=by rfl)
  (hline:(apos.endLine==cpos.line)=true:=by rfl) (hs:starEach (e::es) X.env=(false,eval e X.env)::starEach es X.env:=by rfl) (hplain:(backTo cpos (starEach es X.env)).any (·.1)=false:=by rfl):
  PE X (.Call (.Attribute o name apos) (e::es) [] cpos) (tBM X.K T r to t):=by
 intro pins s σ H Q I h
 refine wpAny_Call_method_late hbase hfew hline rfl (thn (ho pins s σ H _ I h) fun v s1 ⟨x,H1,I1,r1,ty,q1⟩=> ?_)
 obtain⟨h1,h2⟩:=tyV_is I1 r1 ty
 refine⟨T,id,pa,slot,hty,h1,h2,?_⟩
 have hA:=ha cpos pins s1 σ H1 _ I1 q1
 rw[hs] at hA⊢
 refine Calls.callWith_builtin (by show (false ||(backTo cpos (starEach es X.env)).any (·.1))=false;rw[hplain]<;>rfl) (Calls.evalArgs_plain ?_)
 exact thn hA fun us s2 ⟨vs,H2,I2,r2,q2⟩=>hm pins s2 σ H2 x vs v us Q I2 r1 r2 q2
end
noncomputable def MtM (X:Cx) (id:String) (r:V→List V→Hp→VK→Prop):Prop:=
 ∀(pins:List (Addr×Obj)) (s:Shared) (σ:St) (H:Hp) (x:V) (xs:List V) (v:Value) (us:List Value) (Q:VK),Inv X pins σ H s→RelV x v→Vals xs us→r x xs H Q→
  wpAny (model X.prog X.w) X.A (call (.builtin id) (v::us)) (EP X pins σ Q) X.xe s
theorem Vals.one {x:V} {us:List Value} (h:Vals [x] us): ∃u,us=[u]∧RelV x u:=by
 cases h with | cons r t=>cases t;exact⟨_,rfl,r⟩
section
variable {X:Cx} {pins:List (Addr×Obj)} {σ:St} {H:Hp} {s:Shared} {l b:Addr} {xs ys zs:List V}
theorem Inv.lset {its its':List Value} {n:Nat} {f:Array Value→Array Value} {t':Nat} (I:Inv X pins σ H s) (hH:H l=some (.lst xs))
  (e:s.heap.get? l=some {cls:= .type "list",data:= .seq its.toArray n}) (hf:f its.toArray=its'.toArray) (hv:Vals ys its') (hz:ys.length≤sizeLine):
  Inv X pins σ (upd H l (.lst ys)) {s with heap:=s.heap.update l (Obj.mapSeq f),toks:=t'}:=by
 have q:=PySem.IsL.update e f
 rw[hf] at q
 refine I.write (x:=l) (e:=l) (by rw[hH];exact trivial) (.inl rfl) (fun b' u hb hu=>(Heap.get?_update_other s.heap (Obj.mapSeq f) (Ne.symm hb)).trans hu) ⟨_,q⟩ ?_
 exact⟨hz,its',_,hv,q⟩
theorem Inv.lnew {its:List Value} {t':Nat} (I:Inv X pins σ H s) (hv:Vals ys its) (hz:ys.length≤sizeLine):
  Inv X pins σ (upd H s.heap.objs.size (.lst ys)) {s with heap:=s.heap.push {cls:= .type "list",data:= .seq its.toArray},toks:=t'}:=
 I.laid (fun _ _ q=>Heap.get?_push_of_some _ q) (Nat.le_refl _) ⟨hz,its,0,hv,Heap.get?_push_size _ rfl⟩
theorem Inv.fresh (I:Inv X pins σ H s):H s.heap.objs.size=none:=I.hok.fresh (Nat.le_refl _)
theorem Inv.lstM (I:Inv X pins σ H s) (hH:H l=some (.lst xs)):xs.length≤sizeLine∧∃(its:List Value) (n:Nat),Vals xs its∧xs.length=its.length∧s.heap.get? l=some {cls:= .type "list",data:= .seq its.toArray n}:=by
 obtain⟨z,its,n,r,e⟩:=I.hok l _ hH
 exact⟨z,its,n,r,r.length,e⟩
theorem notLongL {n:Nat} (h:n≤sizeLine):Builtin.List.listTooLong n=false:=by
 unfold Builtin.List.listTooLong
 exact decide_eq_false (by omega)
end
section
variable {X:Cx}
noncomputable def rAppend:V→List V→Hp→VK→Prop:=fun x vs H Q=> ∃l xs y,x= .ref l∧vs=[y]∧H l=some (.lst xs)∧xs.length<sizeLine∧Q .non (upd H l (.lst (xs++ [y])))
theorem mt_append:MtM X "list.append" rAppend:=by
 intro pins s σ H x vs v us Q I rx rv h
 obtain⟨l,xs,y,rfl,rfl,hH,hz,q⟩:=h
 cases rx
 obtain⟨u,rfl,ru⟩:=rv.one
 obtain⟨z,its,n,r,hl,e⟩:=I.lstM hH
 refine call_meets F.slot_list_append ⟨_,e,rfl⟩ F.entry_list_append (F.args_list_append_2 _ _) (PySem.list_append l its.toArray n u (by rw[List.size_toArray];omega)) ⟨e,?_⟩
 refine⟨.non,_,I.lset (its':=its++ [u]) hH e (by simp) (r.append (.cons ru .nil)) ?_,rfl,q⟩
 rw[List.length_append,List.length_singleton]
 omega
end
section
variable {κ:Type} [DecidableEq κ]
noncomputable def valV (kvs:List (κ×V)) (k:κ):Option V:=(kvs.find? fun kv=>decide (kv.1=k)).map (·.2)
noncomputable def putK (kvs:List (κ×V)) (k:κ) (v:V):List (κ×V):=
 if (kvs.any fun kv=>decide (kv.1=k))=true then kvs.map (fun kv=>if kv.1=k then (kv.1,v) else kv) else kvs++ [(k,v)]
theorem valV_pos {p:κ×V} {r:List (κ×V)} {k:κ} (e:p.1=k):valV (p::r) k=some p.2:=by simp[valV,List.find?_cons,e]
theorem valV_neg {p:κ×V} {r:List (κ×V)} {k:κ} (e:¬p.1=k):valV (p::r) k=valV r k:=by simp[valV,List.find?_cons,e]
theorem valV_any (k:κ): ∀kvs:List (κ×V),(kvs.any fun kv=>decide (kv.1=k))=(valV kvs k).isSome
 | []=>rfl
 | p::r=>by
  rw[List.any_cons]
  by_cases e:p.1=k
  ·simp only[valV_pos e,decide_eq_true e,Bool.true_or,Option.isSome_some]
  ·rw[valV_neg e,decide_eq_false e,Bool.false_or];exact valV_any k r
theorem length_putK (kvs:List (κ×V)) (k:κ) (v:V):(putK kvs k v).length≤kvs.length+1:=by
 unfold putK
 split
 ·rw[List.length_map];omega
 ·rw[List.length_append,List.length_cons,List.length_nil];omega
theorem RelO.isSome_eq {o:Option V} {u:Option Value} (r:RelO o u):o.isSome=u.isSome:=by
 cases o with
 | none=>cases u with
  | none=>rfl
  | some _=>exact (show False from r).elim
 | some _=>cases u with
  | none=>exact (show False from r).elim
  | some _=>rfl
theorem RelO.getD {o:Option V} {u:Option Value} {d:V} {d':Value} (r:RelO o u) (rd:RelV d d'):RelV (o.getD d) (u.getD d'):=by
 cases o with
 | none=>cases u with
  | none=>exact rd
  | some _=>exact (show False from r).elim
 | some _=>cases u with
  | none=>exact (show False from r).elim
  | some _=>exact r
theorem KV.val {kvs:List (κ×V)} {vs:List (κ×Value)} (r:KV kvs vs) (k:κ):RelO (valV kvs k) (valueAt vs k):=by
 unfold KV at r
 induction r with
 | nil=>exact True.intro
 | @cons p q ps qs h t ih=>
  obtain⟨h1,h2⟩:=h
  by_cases e:p.1=k
  ·have e':q.1=k:=h1.symm.trans e
   have b:valueAt (q::qs) k=some q.2:=by simp[valueAt,List.find?_cons,e']
   rw[valV_pos e,b];exact h2
  ·have e':¬q.1=k:=fun z=>e (h1.trans z)
   have b:valueAt (q::qs) k=valueAt qs k:=by simp[valueAt,List.find?_cons,e']
   rw[valV_neg e,b];exact ih
theorem KV.any {kvs:List (κ×V)} {vs:List (κ×Value)} (r:KV kvs vs) (k:κ):(kvs.any fun kv=>decide (kv.1=k))=vs.any fun kv=>decide (kv.1=k):=by
 unfold KV at r
 induction r with
 | nil=>rfl
 | cons h t ih=>rw[List.any_cons,List.any_cons,ih,h.1]
theorem KV.repl {kvs:List (κ×V)} {vs:List (κ×Value)} (r:KV kvs vs) (k:κ) {y:V} {u:Value} (ry:RelV y u):
  KV (kvs.map fun kv=>if kv.1=k then (kv.1,y) else kv) (vs.map fun kv=>if kv.1=k then (kv.1,u) else kv):=by
 unfold KV at r⊢
 induction r with
 | nil=>exact .nil
 | @cons p q ps qs h t ih=>
  rw[List.map_cons,List.map_cons]
  refine .cons ?_ ih
  obtain⟨h1,h2⟩:=h
  by_cases e:p.1=k
  ·rw[if_pos e,if_pos (h1.symm.trans e)];exact⟨h1,ry⟩
  ·rw[if_neg e,if_neg (fun z=>e (h1.trans z))];exact⟨h1,h2⟩
theorem KV.put {kvs:List (κ×V)} {vs:List (κ×Value)} (r:KV kvs vs) (k:κ) {y:V} {u:Value} (ry:RelV y u):KV (putK kvs k y) (stored vs k u):=by
 unfold putK stored
 rw[r.any k]
 by_cases e:(vs.any fun kv=>decide (kv.1=k))=true
 ·rw[if_pos e,if_pos e];exact r.repl k ry
 ·rw[if_neg e,if_neg e];exact Paired.snoc r ⟨rfl,ry⟩
theorem KV.length {kvs:List (κ×V)} {vs:List (κ×Value)} (r:KV kvs vs):kvs.length=vs.length:=Paired.length r
end
theorem kV_is {P:Program} {w:World} {k:Key} {u:Value} (r:RelV (kV k) u):(aBh P w).is k u=true:=by
 cases k with
 | inl i=>obtain⟨t,e⟩:=(show∃t,u=Value.int i t from r);subst e;exact mixKind_int P w i t
 | inr x=>obtain⟨t,e⟩:=(show∃t,u=Value.str x t from r);subst e;exact mixKind_str P w x t
theorem items_are {P:Program} {w:World}: ∀{ks:List Key} {us:List Value},Vals (ks.map kV) us→ItemsAre (aBh P w) ks us
 | [],_,r=>by rw[List.map_nil] at r;cases r;exact .nil
 | k::ks,_,r=>by
  rw[List.map_cons] at r
  cases r with
  | cons h t=>exact .cons (kV_is h) (items_are t)
noncomputable abbrev KT (H:Hp):List (List Key×V)→List (List Key×Addr×Value)→Prop:=Paired fun p q=>p.1=q.1∧H q.2.1=some (.tup (p.1.map kV))∧RelV p.2 q.2.2
theorem KT.val {H:Hp} {kvs:List (List Key×V)} {xs:List (List Key×Addr×Value)} (r:KT H kvs xs) (k:List Key):RelO (valV kvs k) ((atKey xs k).map (·.2)):=by
 induction r with
 | nil=>exact True.intro
 | @cons p q ps qs h t ih=>
  obtain⟨h1,_,h2⟩:=h
  by_cases e:p.1=k
  ·have e':q.1=k:=h1.symm.trans e
   have b:atKey (q::qs) k=some q.2:=by simp[atKey,List.find?_cons,e']
   rw[valV_pos e,b];exact h2
  ·have e':¬q.1=k:=fun z=>e (h1.trans z)
   have b:atKey (q::qs) k=atKey qs k:=by simp[atKey,List.find?_cons,e']
   rw[valV_neg e,b];exact ih
theorem KT.repl {H:Hp} {kvs:List (List Key×V)} {xs:List (List Key×Addr×Value)} (r:KT H kvs xs) (k:List Key) {y:V} {u:Value} (ry:RelV y u):
  KT H (kvs.map fun kv=>if kv.1=k then (kv.1,y) else kv) (xs.map (putAt k u)):=by
 induction r with
 | nil=>exact .nil
 | @cons p q ps qs h t ih=>
  rw[List.map_cons,List.map_cons]
  refine .cons ?_ ih
  obtain⟨h1,h2,h3⟩:=h
  unfold putAt
  by_cases e:p.1=k
  ·rw[if_pos e,if_pos (h1.symm.trans e)];exact⟨h1,h2,ry⟩
  ·rw[if_neg e,if_neg (fun z=>e (h1.trans z))];exact⟨h1,h2,h3⟩
theorem KT.put {H:Hp} {kvs:List (List Key×V)} {xs:List (List Key×Addr×Value)} (r:KT H kvs xs) (k:List Key) {b:Addr} {y:V} {u:Value} (hb:H b=some (.tup (k.map kV))) (ry:RelV y u):
  KT H (putK kvs k y) (storedH xs k b u):=by
 have e:(kvs.any fun kv=>decide (kv.1=k))=(atKey xs k).isSome:=by
  rw[valV_any,(r.val k).isSome_eq,Option.isSome_map]
 unfold putK storedH
 rw[e]
 by_cases q:(atKey xs k).isSome=true
 ·rw[if_pos q,if_pos q];exact r.repl k ry
 ·rw[if_neg q,if_neg q];exact Paired.snoc r ⟨rfl,hb,ry⟩
theorem KT.keeps {H H':Hp} {kvs:List (List Key×V)} {xs:List (List Key×Addr×Value)} (r:KT H kvs xs) (ht: ∀b ys,H b=some (.tup ys)→H' b=some (.tup ys)):KT H' kvs xs:=
 Paired.mapP r fun _ _ z=>⟨z.1,ht _ _ z.2.1,z.2.2⟩
section
variable {P:Program} {w:World} {H:Hp} {h:Heap} {a:Addr}
theorem rd_of {u:HO} (ok:HOk P w H h) (e:Rd H a u):aBw P w H h a u:=e.ok ok
theorem dk_rd {kvs:List (Key×V)} (ok:HOk P w H h) (e:Rd H a (.dK kvs)):kvs.length≤sizeLine∧(a==sysModules)=false∧∃vs,KV kvs vs∧h.DictOf (aBh P w) a vs:=
 show aBw P w H h a (.dK kvs) from rd_of ok e
theorem dk_of {kvs:List (Key×V)} (ok:HOk P w H h) (e:H a=some (.dK kvs)):kvs.length≤sizeLine∧(a==sysModules)=false∧∃vs,KV kvs vs∧h.DictOf (aBh P w) a vs:=dk_rd ok (.inl e)
theorem key_of {ks:List Key} (ok:HOk P w H h) (e:H a=some (.tup (ks.map kV))):(tupleKind (aBh P w)).is h ks a:=by
 obtain⟨_,its,r,o,h1,h2,⟨n,h3⟩,_⟩:=(show aBw P w H h a (.tup (ks.map kV)) from ok a _ e)
 exact⟨o,its.toArray,n,h1,h2,h3,by simpa using items_are r⟩
theorem dt_rd {kvs:List (List Key×V)} (ok:HOk P w H h) (e:Rd H a (.dT kvs)):kvs.length≤sizeLine∧(a==sysModules)=false∧
  ∃xs,KT H kvs xs∧h.DictOfH (tupleKind (aBh P w)) a xs:=by
 obtain⟨z,y,xs,r,o,es,ep,h1,h2,h3,h4,h5⟩:=(show aBw P w H h a (.dT kvs) from rd_of ok e)
 refine⟨z,y,xs,r,o,es,ep,h1,h2,h3,h4,fun x hx=> ?_,h5⟩
 have all: ∀{l:List (List Key×V)} {m:List (List Key×Addr×Value)},KT H l m→∀x∈m,(tupleKind (aBh P w)).is h x.1 x.2.1:=by
  intro l m q
  induction q with
  | nil=>intro x hx;exact nomatch hx
  | @cons p q ps qs hq t ih=>
   intro x hx
   rcases List.mem_cons.mp hx with e | hx
   ·subst e
    exact key_of ok (by rw[←hq.1];exact hq.2.1)
   ·exact ih x hx
 exact all r x hx
theorem dt_of {kvs:List (List Key×V)} (ok:HOk P w H h) (e:H a=some (.dT kvs)):kvs.length≤sizeLine∧(a==sysModules)=false∧
  ∃xs,KT H kvs xs∧h.DictOfH (tupleKind (aBh P w)) a xs:=dt_rd ok (.inl e)
end
noncomputable def DGet (H:Hp) (a:Addr) (y:V) (r:Option V):Prop:=
 (∃kvs k,Rd H a (.dK kvs)∧y=kV k∧r=valV kvs k)∨∃kvs k b,Rd H a (.dT kvs)∧y= .ref b∧H b=some (.tup (k.map kV))∧r=valV kvs k
noncomputable def DPut (H:Hp) (a:Addr) (y v:V) (H':Hp):Prop:=
 (∃kvs k,H a=some (.dK kvs)∧y=kV k∧kvs.length<sizeLine∧H'=upd H a (.dK (putK kvs k v)))∨
 ∃kvs k b,H a=some (.dT kvs)∧y= .ref b∧H b=some (.tup (k.map kV))∧kvs.length<sizeLine∧H'=upd H a (.dT (putK kvs k v))
theorem DPut.k {H:Hp} {a:Addr} {kvs:List (Key×V)} {k:Key} {v:V} (e:H a=some (.dK kvs)) (hl:kvs.length<sizeLine):DPut H a (kV k) v (upd H a (.dK (putK kvs k v))):= .inl ⟨kvs,k,e,rfl,hl,rfl⟩
section
variable {X:Cx} {pins:List (Addr×Obj)} {σ:St} {H:Hp} {s:Shared} {a:Addr} {y v:V} {u r:Value} {o:Option V} {A:Around} {E:Value→Shared→Prop}
theorem Inv.big (I:Inv X pins σ H s):sysModules<s.heap.objs.size:=by
 have h:mainGlobals<s.heap.objs.size:=(I.mod.glob.keeps I.bk).lt
 exact Nat.lt_trans (by decide) h
theorem d_getItem {Q:Value→Shared→Prop} (hu:A.units+1<cLine) (I:Inv X pins σ H s) (g:DGet H a y (some v)) (ry:RelV y u) (h: ∀w' s',Inv X pins σ H s'→RelV v w'→Q w' s'):
  wpAny (model X.prog X.w) A (getItem (.ref a) u) Q E s:=by
 rcases g with⟨kvs,k,e,ey,l⟩ |⟨kvs,k,b,e,ey,eb,l⟩
 ·subst ey
  obtain⟨z,hd,vs,rel,dd⟩:=dk_rd I.hok e
  obtain⟨w',hw,rw'⟩:=RelO.some_of (v:=v) (o:=valueAt vs k) (by rw[l];exact rel.val k)
  exact wpAny_getItem_of (kV_is ry) dd.mapOf hw (h w' _ (I.tok _) rw')
 ·subst ey
  cases (show u=Value.ref b from ry)
  obtain⟨z,hd,xs,rel,dd⟩:=dt_rd I.hok e
  obtain⟨w',hw,rw'⟩:=RelO.some_of (v:=v) (o:=(atKey xs k).map (·.2)) (by rw[l];exact rel.val k)
  obtain⟨p,hp,hp2⟩:=Option.map_eq_some_iff.mp hw
  refine wpAny_getItem_heap (tupleKind_room_in1 hu) (key_of I.hok eb) dd hp ?_
  rw[hp2]
  exact h w' _ (I.tok _) rw'
theorem d_in {Q:Value→Shared→Prop} (hu:A.units+1<cLine) (I:Inv X pins σ H s) (g:DGet H a y o) (ry:RelV y u) (h: ∀s',Inv X pins σ H s'→Q (.bool o.isSome) s'):
  wpAny (model X.prog X.w) A (compareOp .In u (.ref a)) Q E s:=by
 rcases g with⟨kvs,k,e,ey,l⟩ |⟨kvs,k,b,e,ey,eb,l⟩
 ·subst ey
  obtain⟨z,hd,vs,rel,dd⟩:=dk_rd I.hok e
  refine wpAny_in_of (kV_is ry) hd dd.mapOf ?_
  rw[←(rel.val k).isSome_eq,←l]
  exact h _ (I.tok _)
 ·subst ey
  cases (show u=Value.ref b from ry)
  obtain⟨z,hd,xs,rel,dd⟩:=dt_rd I.hok e
  refine wpAny_in_heap (tupleKind_room_in1 hu) (key_of I.hok eb) hd dd ?_
  have q:=(rel.val k).isSome_eq
  rw[Option.isSome_map] at q
  rw[←q,←l]
  exact h _ (I.tok _)
theorem d_write {h':Heap} {t':Nat} {ob:HO} (I:Inv X pins σ H s) (mu:Mut (H a)) (hs:Heap.SameBut a s.heap h') (he: ∃q,h'.get? a=some q) (new:aBw X.prog X.w (upd H a ob) h' a ob):
  Inv X pins σ (upd H a ob) {s with heap:=h',toks:=t'}:=
 I.write (x:=a) (e:=a) mu (.inl rfl) (fun b q hb z=>(hs.2 b hb).trans z) he new
theorem dk_new {P:Program} {w:World} {H':Hp} {h':Heap} {kvs:List (Key×V)} {vs:List (Key×Value)} (z:kvs.length≤sizeLine) (hd:(a==sysModules)=false) (rel:KV kvs vs) (dd:h'.DictOf (aBh P w) a vs):
  aBw P w H' h' a (.dK kvs):=⟨z,hd,vs,rel,dd⟩
theorem d_setItem {H':Hp} {Q:Unit→Shared→Prop} (hu:A.units+1<cLine) (I:Inv X pins σ H s) (g:DPut H a y v H') (ry:RelV y u) (rv:RelV v r) (h: ∀s',Inv X pins σ H' s'→Q () s'):
  wpAny (model X.prog X.w) A (setItem (.ref a) u r) Q E s:=by
 rcases g with⟨kvs,k,e,ey,l,eH⟩ |⟨kvs,k,b,e,ey,eb,l,eH⟩
 ·subst ey eH
  obtain⟨z,hd,vs,rel,dd⟩:=dk_of I.hok e
  have hz:vs.length≤sizeLine:=by rw[←rel.length];exact z
  have hl:(putK kvs k v).length≤sizeLine:=by have:=length_putK kvs k v;omega
  refine wpAny_setItem_pairs (hsz:=hz) (kV_is ry) dd fun h' dd' hs=>h _ ?_
  have he: ∃q,h'.get? a=some q:=let ⟨q,_,_,hq,_⟩:=dd';⟨q,hq⟩
  exact d_write I (by rw[e];exact True.intro) hs he (dk_new hl hd (rel.put k rv) dd')
 ·subst ey eH
  cases (show u=Value.ref b from ry)
  obtain⟨z,hd,xs,rel,dd⟩:=dt_of I.hok e
  have hz:xs.length≤sizeLine:=by rw[←Paired.length rel];exact z
  have hl:(putK kvs k v).length≤sizeLine:=by have:=length_putK kvs k v;omega
  refine wpAny_setItem_heap (hsz:=hz) (tupleKind_room_in1 hu) (key_of I.hok eb) dd fun h' dd' hs=>h _ ?_
  obtain⟨q,es,ep,hq,h2,h3,h4,_,h5⟩:=dd'
  refine d_write I (by rw[e];exact True.intro) hs ⟨q,hq⟩ ⟨hl,hd,_,(rel.put k eb rv).keeps fun c ys ec=> ?_,q,es,ep,hq,h2,h3,h4,h5⟩
  rw[aAk (ne_of ec e (fun z=>nomatch z))]
  exact ec
end
section
variable {X:Cx} {pins:List (Addr×Obj)} {σ:St} {H:Hp} {s:Shared} {a:Addr} {kvs:List (Key×V)} {k:Key} {u:Value} {A:Around} {E:Value→Shared→Prop}
theorem d_len {Q:Value→Shared→Prop} (I:Inv X pins σ H s) (e:Rd H a (.dK kvs)) (h: ∀t s',Inv X pins σ H s'→Q (.int kvs.length t) s'):wpAny (model X.prog X.w) A (call (.builtin "len") [.ref a]) Q E s:=by
 obtain⟨z,hd,vs,rel,dd⟩:=dk_rd I.hok e
 refine call_len_dict hd dd (by rw[←rel.length];rw[sizeLine_eq] at z;omega) ?_
 rw[←rel.length]
 exact h _ _ (I.tok _)
end
noncomputable def NoSl (i:Expr):Prop:= ∀ov iv,subscripted i false ov iv=operate [ov,iv] (getItem ov iv)
theorem subD_of {prog:Program} {w:World} {A:Around} {E:Value→Shared→Prop} {s:Shared} {env:Env} {value slice:Expr} {pos:Pos} {T id:String} {Q:Value→Shared→Prop}
  (hl:typeLookup (.type T) "__getitem__"=pure (some (.builtin id))) (hs:NoSl slice)
  (h:wpAny (model prog w) A (eval value env) (fun o s₁=>wpAny (model prog w) A (eval slice env) (fun i s₂=>s₂.TypeIs o T∧wpAny (model prog w) A (getItem o i) Q E s₂) E s₁) E s):
  wpAny (model prog w) A (eval (.Subscript value slice pos) env) Q E s:=by
 refine Subscript_ (wpAny_mono h (fun o s₁ h₁=>wpAny_mono h₁ (fun i s₂ h₂=> ?_) fun _ _ x=>x) fun _ _ x=>x)
 obtain⟨hT,h₂⟩:=h₂
 unfold subscriptTail
 refine wpAny_bind ?_
 rw[getitemInPython_of_ne hT.not_modules]
 refine wpAny_bind (wpAny_specialOf hT hl ?_)
 have fin:wpAny (model prog w) A (subscripted slice false o i) (fun r s₃=>wpAny (model prog w) A (letTemporaryGo value o r>>=fun _=>pure r) Q E s₃) E s₂:=by
  rw[hs o i]
  exact wpAny_operating (wpAny_mono h₂ (fun r s₃ h₃=>wpAny_bind (wpAny_letTemporaryGo (wpAny_pure h₃))) fun _ _ x=>x)
 first
  | exact wpAny_pure (wpAny_bind fin)
  | exact wpAny_bind (wpAny_pure (wpAny_bind fin))
  | exact wpAny_bind fin
theorem dict_typeIs {X:Cx} {pins:List (Addr×Obj)} {σ:St} {H:Hp} {s:Shared} {a:Addr} {y:V} {o:Option V} (I:Inv X pins σ H s) (g:DGet H a y o):s.TypeIs (.ref a) "dict":=by
 rcases g with⟨kvs,k,e,_,_⟩ |⟨kvs,k,b,e,_,_,_⟩
 ·obtain⟨_,_,vs,_,dd⟩:=dk_rd I.hok e
  exact dd.typeIs
 ·obtain⟨_,_,xs,_,dd⟩:=dt_rd I.hok e
  exact dd.typeIs
noncomputable def tDGet (td ty:TE):TE:=fun σ H Q=>td σ H fun x H1=>ty σ H1 fun y H2=> ∃a v,x= .ref a∧DGet H2 a y (some v)∧Q v H2
noncomputable def sDPut (td ty tv:TE):TS:=fun D σ H=>tv σ H fun v H1=>td σ H1 fun x H2=>ty σ H2 fun y H3=> ∃a H4,x= .ref a∧DPut H3 a y v H4∧D.nx σ H4
section
variable {X:Cx} {o i e value:Expr} {pos pos' tpos:Pos} {td ty tv:TE}
theorem pe_dget (hu:X.A.units+1<cLine) (ho:PE X o td) (hi:PE X i ty) (hs:NoSl i):PE X (.Subscript o i pos) (tDGet td ty):=by
 intro pins s σ H Q I h
 refine subD_of PySem.F.slot_dict_getitem.lookup hs (thn (ho pins s σ H _ I h) fun u s1 ⟨x,H1,I1,rx,q1⟩=>thn (hi pins s1 σ H1 _ I1 q1) fun iv s2 ⟨y,H2,I2,ry,a,v,ex,g,q2⟩=> ?_)
 subst ex
 obtain rfl:u=Value.ref a:=rx
 exact⟨dict_typeIs I2 g,d_getItem hu I2 g ry fun w' s3 I3 rw'=>⟨v,H2,I3,rw',q2⟩⟩
theorem ps_dput (hu:X.A.units+1<cLine) (ho:PE X o td) (hi:PE X i ty) (hv:PE X value tv) (hs:swapsWith value (some (.Subscript o i pos')) pos.line X.env=pure false):
  PS X (.Assign [.Subscript o i pos'] value pos) (sDPut td ty tv):=by
 intro pins s σ H D I h
 refine wpAny_Assign_Subscript (thn (hv pins s σ H _ I h) fun r s1 ⟨v,H1,I1,rv,q1⟩=>thn (ho pins s1 σ H1 _ I1 q1) fun u s2 ⟨x,H2,I2,rx,q2⟩=>thn (hi pins s2 σ H2 _ I2 q2) fun iv s3 ⟨y,H3,I3,ry,a,H4,ex,g,q3⟩=> ?_) hs
 subst ex
 obtain rfl:u=Value.ref a:=rx
 exact d_setItem hu I3 g ry rv fun s4 I4=>⟨σ,H4,I4,q3⟩
end
theorem dk_empty {P:Program} {w:World} {H:Hp} (h:Heap) (hb:sysModules<h.objs.size):aBw P w H (h.push {cls:= .type "dict",data:= .dict #[]}) h.objs.size (.dK []):=
 ⟨Nat.zero_le _,beq_eq_false_iff_ne.mpr (Ne.symm (Nat.ne_of_lt hb)),[],.nil,Heap.DictOf.new h⟩
noncomputable def tDNewK:TE:=fun _ H Q=> ∀p,H p=none→Q (.ref p) (upd H p (.dK []))
section
variable {X:Cx} {pos:Pos}
theorem pe_dnewK:PE X (.Dict [] [] pos) tDNewK:=fun pins s σ H Q I h=>
 wpAny_Dict_empty ⟨.ref s.heap.objs.size,_,I.laid (a:=s.heap.objs.size) (o:= .dK []) (t':=s.toks) (fun _ _ q=>Heap.get?_push_of_some _ q) (Nat.le_refl _) (dk_empty s.heap I.big),rfl,h _ (I.hok.fresh (Nat.le_refl _))⟩
end
structure M1 (X:Cx) (o:Expr) (m:Str) (apos:Pos) (e:Expr) (cpos:Pos):Prop where
 base:attributeBase o m X.env (eval o X.env)=eval o X.env
 few:((backTo cpos (starEach [e] X.env)).all (fun x=> !x.1)&&(backToKw cpos (keywordEach [] X.env)).all (fun x=>x.1.isSome)
  &&decide (([e]:List Expr).length+([]:List Keyword).length+(if ([]:List Keyword).isEmpty then 0 else 1)<30))=true
 line:(apos.endLine==cpos.line)=true
 trees:backTo cpos (starEach [e] X.env)=[(false,eval e X.env)]
structure M2 (X:Cx) (o:Expr) (m:Str) (apos:Pos) (e f:Expr) (cpos:Pos):Prop where
 base:attributeBase o m X.env (eval o X.env)=eval o X.env
 few:((backTo cpos (starEach [e,f] X.env)).all (fun x=> !x.1)&&(backToKw cpos (keywordEach [] X.env)).all (fun x=>x.1.isSome)
  &&decide (([e,f]:List Expr).length+([]:List Keyword).length+(if ([]:List Keyword).isEmpty then 0 else 1)<30))=true
 line:(apos.endLine==cpos.line)=true
 trees:backTo cpos (starEach [e,f] X.env)=[(false,eval e X.env),(false,eval f X.env)]
noncomputable def IsD (H:Hp) (a:Addr):Prop:=(∃kvs,Rd H a (.dK kvs))∨∃kvs,Rd H a (.dT kvs)
theorem isD_at {X:Cx} {pins:List (Addr×Obj)} {σ:St} {H:Hp} {s:Shared} {a:Addr} (I:Inv X pins σ H s) (d:IsD H a):
  s.TypeIs (.ref a) "dict"∧(∀b,Value.ref a= .ref b→∃ob,s.heap.get? b=some ob∧ob.dict=none)∧(a==sysModules)=false:=by
 rcases d with⟨kvs,e⟩ |⟨kvs,e⟩
 ·obtain⟨_,hd,vs,_,dd⟩:=dk_rd I.hok e
  refine⟨dd.typeIs,fun b q=> ?_,hd⟩
  cases q
  obtain⟨ob,_,_,h1,h2,_⟩:=dd
  exact⟨ob,h1,h2.2.1⟩
 ·obtain⟨_,hd,xs,_,dd⟩:=dt_rd I.hok e
  refine⟨dd.typeIs,fun b q=> ?_,hd⟩
  cases q
  obtain⟨ob,_,_,h1,h2,_⟩:=dd
  exact⟨ob,h1,h2.2.1⟩
section
variable {X:Cx} {pins:List (Addr×Obj)} {σ:St} {H:Hp} {s:Shared} {a:Addr} {y d:V} {u r:Value} {o:Option V} {A:Around} {E:Value→Shared→Prop}
theorem d_get2 {Q:Value→Shared→Prop} (hu:A.units+1<cLine) (I:Inv X pins σ H s) (g:DGet H a y o) (ry:RelV y u) (rd:RelV d r) (h: ∀w' s',Inv X pins σ H s'→RelV (o.getD d) w'→Q w' s'):
  wpAny (model X.prog X.w) A (call (.builtin "dict.get") [.ref a,u,r]) Q E s:=by
 rcases g with⟨kvs,k,e,ey,l⟩ |⟨kvs,k,b,e,ey,eb,l⟩
 ·subst ey
  obtain⟨z,hd,vs,rel,dd⟩:=dk_rd I.hok e
  refine call_meetsIn PySem.F.slot_dict_get dd.typeIs PySem.F.entry_dict_get (PySem.F.args_dict_get_3 _ _ _) (meets_dict_get_default (aBh X.prog X.w) a (kV_is ry) hd r) ⟨_,dd.mapOf,h _ _ (I.tok _) ?_⟩
  rw[l]
  exact (rel.val k).getD rd
 ·subst ey
  cases (show u=Value.ref b from ry)
  obtain⟨z,hd,xs,rel,dd⟩:=dt_rd I.hok e
  refine call_meetsIn PySem.F.slot_dict_get dd.typeIs PySem.F.entry_dict_get (PySem.F.args_dict_get_3 _ _ _) (meetsH_dict_get_default (tupleKind (aBh X.prog X.w)) a b hd r) ⟨tupleKind_room_in1 hu,k,xs,key_of I.hok eb,dd,h _ _ (I.tok _) ?_⟩
  rw[l]
  exact (rel.val k).getD rd
end
noncomputable def tDGet2 (td ty tx:TE):TE:=fun σ H Q=>td σ H fun x H1=> ∃a,x= .ref a∧IsD H1 a∧ty σ H1 fun y H2=>tx σ H2 fun z H3=> ∃o,DGet H3 a y o∧Q (o.getD z) H3
section
variable {X:Cx} {o e f:Expr} {apos cpos:Pos} {td ty tx:TE}
theorem pe_dget2 (hu:X.A.units+1<cLine) (ho:PE X o td) (he:PE X e ty) (hf:PE X f tx) (m:M2 X o "get" apos e f cpos):PE X (.Call (.Attribute o "get" apos) [e,f] [] cpos) (tDGet2 td ty tx):=by
 intro pins s σ H Q I h
 refine wpAny_Call_method m.base m.few m.line PySem.F.plainAttrs_dict PySem.F.slot_dict_get PySem.F.type_dict_get (thn (ho pins s σ H _ I h) fun u s1 ⟨x,H1,I1,rx,a,ex,d,q1⟩=> ?_)
 subst ex
 obtain rfl:u=Value.ref a:=rx
 obtain⟨t1,t2,_⟩:=isD_at I1 d
 refine⟨t1,t2,?_⟩
 rw[m.trees]
 refine Calls.callWith_builtin rfl (Calls.evalArgs_plain (Calls.spliced_cons (thn (he pins s1 σ H1 _ I1 q1) fun iv s2 ⟨y,H2,I2,ry,q2⟩=>
  Calls.spliced_cons (thn (hf pins s2 σ H2 _ I2 q2) fun fv s3 ⟨z,H3,I3,rz,ov,g,q3⟩=>Calls.spliced_nil ?_))))
 exact d_get2 hu I3 g ry rz fun w' s4 I4 rw'=>⟨_,H3,I4,rw',q3⟩
end
end L2
namespace Att
open PySem PySem.W PySem.Calls PyProof.Rows
theorem ints_of_wellAll {P:Params} {h:Heap}: ∀(ns:List Int) (vs:List Value),WellAll P h vs (ns.map WData.int)→IntsAre vs ns:=by
 intro ns
 induction ns with
 | nil=>
  intro vs w
  rw[List.map_nil] at w
  cases w
  exact .nil
 | cons n ns ih=>
  intro vs w
  rw[List.map_cons] at w
  cases w with
  | cons a b=>
   cases a
   exact .cons _ _ (ih _ b)
theorem script_of {l:OpenLaw} {n:Nat} (hn:l.most=some n) {P:Params} {h:Heap} {args:List WData} {vals:List Value}
  (hpre:l.row.toRowW.claim.pre args=true) (hwl:WellAll P h vals args):
  ∃a vs ns,vals=[Value.ref a]∧args=[WData.list (ns.map WData.int)]∧h.get? a=some {cls:= .type "list",data:= .seq vs.toArray}∧IntsAre vs ns∧ns.length≤n:=by
 have hsh:WShape.hasAll [] args [.list .int]=true:=(pre_splitW hpre).1
 have hc:l.pre.holds [] {args:=args}=true:=(pre_splitW hpre).2
 obtain⟨d,r,rfl,h1,h2⟩:=hasAllW_cons hsh
 obtain rfl:=hasAllW_nil h2
 obtain⟨xs,rfl,h3⟩:=hasW_list h1
 obtain⟨ns,rfl⟩:=items_int h3
 have hlen:ns.length≤n:=by
  unfold OpenLaw.pre at hc
  have h4:(WTm.not (.lt (.lit (.int (n:Int))) (.len (.arg 0)))).holds [] {args:=[.list (ns.map .int)]}=true:=by
   have h4:=(holds_andW hc).1
   rw[hn] at h4
   exact h4
  have h5:=condW_of h4 (w_not (w_lt w_lit (w_len_list (w_arg rfl))))
  rw[List.length_map] at h5
  refine Nat.le_of_not_lt fun q=> ?_
  have q':(n:Int)<((ns.length:Nat):Int):=by omega
  first
   |(rw[decide_eq_true q'] at h5;exact absurd h5 (by decide))
   |(simp at h5;omega)
 cases hwl with
 | cons w1 w2=>
  cases w2
  cases w1 with
  | list ho hall=>exact⟨_,_,ns,rfl,rfl,ho,ints_of_wellAll ns _ hall,hlen⟩
theorem post_true (l:OpenLaw) (args:List WData):l.row.toRowW.claim.post args (.bool true) args=true:=
 postW_of (r:=l.row.toRowW) (X:=(true==true))
  (show WShape.has [] (.bool true) .bool=true by first | rfl | decide | simp[WShape.has,WShape.arms,WShape.armsAll])
  (show (WTm.eq .res (.lit (.bool true))).value [] {args:=args,res:=some (.bool true),after:=args}=some (.bool (true==true)) from w_eq_bool (w_res rfl) w_lit) rfl
theorem attach_call {l:OpenLaw} {n:Nat} {q:Program} {loose:List Str} {XP:(Str→Option Value)→Heap→Prop} {YP:World→Heap→Prop} {d:DefRec}
  (hn:l.most=some n) (hdf:d.params.defaults=[])
  (call: ∀(w:World) (s₀ s₁:Shared) (mg mb:Str→Option Value) (fa:Addr) (o:Obj) (pm cd doc:Value) (a:Addr) (vs:List Value) (ns:List Int),
   Ground q loose [] XP w s₀ mg mb s₁.heap→YP w s₁.heap→
   s₁.heap.get? fa=some o→o.data= .func (docDef d.name d.params d.body d.scope pm cd doc)→s₁.heap.CodeRec cd d.name→mg d.name=some (.ref fa)→
   s₁.heap.get? a=some {cls:= .type "list",data:= .seq vs.toArray}→IntsAre vs ns→ns.length≤n→s₁.gens= #[]→
   codeAny (model l.prog w) callerA (.call (.ref fa) ⟨[.ref a],[]⟩) (fun r s'=>r= .ok (.ret (.bool true))∧OldK s₁.heap s'.heap∧s'.os=s₁.os∧AllBare s'.gens) s₁):
  WalkO q loose XP YP l.row.toRowW d [] (fun f vs=>PySem.call f vs):=by
 intro w s₀ s₁ mg mb G Y fa o pm cd doc dV kV ho hd hcd hD hmg hg args vals as hpre hlay hrd hwl hlo
 obtain rfl:dV= .none:=Dflts.none hD hdf
 obtain rfl:kV= .none:=Dflts.noKw hD
 obtain⟨a,vs,ns,rfl,rfl,hobj,hints,hlen⟩:=script_of hn hpre hwl
 refine enter_call (codeAny_mono (call w s₀ s₁ mg mb fa o pm cd doc a vs ns G Y ho (fd_plain hd) hcd hmg hobj hints hlen hg) fun r s' hq=> ?_)
 obtain⟨rfl,h2,h3,h4⟩:=hq
 exact⟨.inl ⟨.bool true,.bool true,[],rfl,fun _=>rfl,.bool true,post_true l _,fun _=>⟨List.Pairwise.nil,fun _ hm=>(nomatch hm)⟩⟩,h2,h3,h4⟩
section
variable {prog:Program} {w:World} {A:Around} {E:Value→Shared→Prop} {s:Shared} {K:Frag}
noncomputable def ledger (h:Heap) (L d:Addr):List (Addr×Obj):=(List.range h.objs.size).filterMap fun a=>if a=L∨a=d then none else (h.get? a).map fun o=>(a,o)
end
end Att
namespace L2
open PySem PySem.Spec PyProof.Rows
theorem vals_ints: ∀{vs:List Value} {ns:List Int},IntsAre vs ns→Vals (ns.map V.int) vs
 | _,_,.nil=> .nil
 | _,_,.cons n t h=> .cons ⟨t,rfl⟩ (vals_ints h)
noncomputable def Only (H:Hp):Prop:= ∀b,H b=none∨∃o xs,H b=some (.frz o (.lst xs))
theorem law_call {P:Program} {w:World} {K:PySem.W.Frag} {mg mb:Str→Option Value} {CX:CXT} {k:Nat} {fa a:Addr} {fd:FuncData} {x:Str} {sp:Sp} {s₁:Shared} {vs:List Value} {ns:List Int}
  (KX:K.In s₁.heap) (hns:s₁.heap.Ns mainGlobals mg) (hb:s₁.heap.Ns builtinsNs mb) (hbb: ∀x:Str,x≠"__name__"→mb x=bootBuiltins x) (hlim:s₁.heap.NoLimit) (hg:s₁.gens= #[])
  (ha:s₁.heap.get? a=some {cls:= .type "list",data:= .seq vs.toArray}) (hi:IntsAre vs ns) (hl:ns.length≤sizeLine) (hr:aCw k callerA)
  (F: ∀base:Heap,K.In base→base.Ns mainGlobals mg→FnOk P w K mg base CX k fa fd [x] sp) (hbind: ∀(s:Shared) (u:Value),BindsTo s fd ⟨[u],[]⟩ [(x,u)])
  (hsp: ∀H:Hp,Only H→SqL K H a (ns.map V.int)→sp [.ref a] H (fun v _=>v= .bl true) fun _ _ _=>False)
  (hCX: ∀H e s',CX [] H s₁ (fun _ _ _=>False) e s'→False):
  codeAny (model P w) callerA (.call (.ref fa) ⟨[.ref a],[]⟩) (fun r s'=>r= .ok (.ret (.bool true))∧OldK s₁.heap s'.heap∧s'.os=s₁.os∧AllBare s'.gens) s₁:=by
 have rv:=vals_ints hi
 have lenV:=hi.length
 have core: ∀H:Hp,Only H→SqL K H a (ns.map V.int)→HOk P w H s₁.heap→(∀b,H b≠none→b=a)→(H a≠none→K.lookup a=none)→
   codeAny (model P w) callerA (.call (.ref fa) ⟨[.ref a],[]⟩) (fun r s'=>r= .ok (.ret (.bool true))∧OldK s₁.heap s'.heap∧s'.os=s₁.os∧AllBare s'.gens) s₁:=by
  intro H hO hS hok hA hK
  have base_of: ∀{b:Addr} {o:Obj},s₁.heap.get? b=some o→H b=none→(hidT s₁.heap H).get? b=some o:=fun e n=>hidT_get e n
  have noA: ∀{b:Addr} {o:Obj} {es:Array DictEntry} {ep:Nat},s₁.heap.get? b=some o→o.data= .dict es ep→H b=none:=fun {b o es ep} e d=>by
   cases q:H b with
   | none=>rfl
   | some u=>
    have e':b=a:=hA b (by rw[q];simp)
    subst e'
    rw[ha] at e;cases e
    have d':Data.seq vs.toArray _=Data.dict es ep:=d
    cases d'
  have nsK: ∀{b:Addr} {m:Str→Option Value},s₁.heap.Ns b m→(hidT s₁.heap H).Ns b m:=fun {b m} ⟨o,es,ep,e,d,r⟩=>⟨o,es,ep,base_of e (noA e d),d,r⟩
  have hKb:K.In (hidT s₁.heap H):=fun b o e=>base_of (KX b o e) (by
   cases q:H b with
   | none=>rfl
   | some u=>
    have e':b=a:=hA b (by rw[q];simp)
    subst e'
    rw[hK (by rw[q];simp)] at e;cases e)
  have hM:Mod K mg (hidT s₁.heap H):=⟨hKb,nsK hns,⟨mb,nsK hb,hbb⟩,let ⟨mc,h1,h2⟩:=hlim;⟨mc,nsK h1,h2⟩⟩
  have e0:Env0 P w K mg (hidT s₁.heap H) callerA [] s₁ H:=⟨rfl,hM,fun b o e=>of_hidT e,Nat.le_of_eq (hidT_size _ _),trivial,fun b hb=>absurd (show b∈([]:List Addr) from hb) (by simp),hok,.of_eq hg⟩
  refine codeAny_mono ((F _ hKb (nsK hns)).run callerA [] s₁ H ⟨[.ref a],[]⟩ [.ref a] [.ref a] _ _ hr e0 (hbind s₁ (.ref a)) (.cons rfl .nil) (hsp H hO hS)) fun r s' h=> ?_
  cases r with
  | error e=>exact (hCX H e s' h).elim
  | ok fl=>
   cases fl with
   | next=>exact False.elim h
   | brk=>exact False.elim h
   | cont=>exact False.elim h
   | ret u=>
    obtain⟨v,H',os,bare,un,hok',r',q⟩:=h
    have q':v= .bl true:=q
    subst q'
    obtain rfl:u=Value.bool true:=r'
    refine⟨rfl,OldK.of_keep fun b o e=> ?_,os,bare⟩
    cases q:H b with
    | none=>exact un.keep b o e q (by intro z;exact absurd (show b∈([]:List Addr) from z) (by simp)) (by simp)
    | some u=>
     rcases hO b with z |⟨ob,xs,z⟩
     ·rw[q] at z;cases z
     ·have z2:=un.frzs b ob _ z
      obtain⟨e1,_⟩:=hok b _ z
      obtain⟨e2,_⟩:=hok' b _ z2
      rw[e] at e1;cases e1
      exact e2
 cases hk:K.lookup a with
 | some o=>
  have e:=KX a o hk
  rw[ha] at e
  cases e
  refine core (fun _=>none) (fun _=> .inl rfl) (.inr ⟨_,vs.toArray,_,hk,rfl,rfl,rfl,by rw[List.size_toArray,lenV];exact hl,by simpa using rv⟩) (fun b u z=>by have z':(none:Option HO)=some u:=z;cases z') (fun b z=>absurd rfl z) fun z=>absurd rfl z
 | none=>
  refine core (fun b=>if b=a then some (.frz {cls:= .type "list",data:= .seq vs.toArray} (.lst (ns.map V.int))) else none) (fun b=> ?_) (.inl (.inr ⟨{cls:= .type "list",data:= .seq vs.toArray},if_pos rfl⟩)) (fun b u z=> ?_) (fun b z=> ?_) fun _=>hk
  ·by_cases hb:b=a
   ·exact .inr ⟨_,_,if_pos hb⟩
   ·exact .inl (if_neg hb)
  ·by_cases hb:b=a
   ·have z':=(if_pos hb).symm.trans z
    cases z'
    subst hb
    exact⟨ha,by rw[List.length_map];exact hl,vs,_,rv,ha⟩
   ·have z':=(if_neg hb).symm.trans z
    cases z'
  ·by_cases hb:b=a
   ·exact hb
   ·exact absurd (if_neg hb) z
noncomputable abbrev KOf {K:PySem.W.Frag} {h:Heap} (_:K.In h):PySem.W.Frag:=K
theorem walk_of {l:PySem.W.OpenLaw} {n k:Nat} {q:Program} {loose:List Str} {XP:(Str→Option Value)→Heap→Prop} {YP:World→Heap→Prop} {d:DefRec} {K:Params→PySem.W.Frag} {CX:World→CXT} {sp:World→Sp} {x:Str}
  (hn:l.most=some n) (hn2:n≤sizeLine) (hdf:d.params.defaults=[]) (hr:aCw k callerA)
  (hY: ∀(w:World) (h:Heap),YP w h→(K w.params).In h)
  (F: ∀(w:World) (mg:Str→Option Value) (fa:Addr) (h:Heap),(K w.params).In h→h.Ns mainGlobals mg→mg d.name=some (.ref fa)→
   ∃fd:FuncData,(∀(s:Shared) (u:Value),BindsTo s fd ⟨[u],[]⟩ [(x,u)])∧
    ∀base:Heap,(K w.params).In base→base.Ns mainGlobals mg→FnOk l.prog w (K w.params) mg base (CX w) k fa fd [x] (sp w))
  (hsp: ∀(w:World) (H:Hp) (a:Addr) (ns:List Int),ns.length≤n→Only H→SqL (K w.params) H a (ns.map V.int)→sp w [.ref a] H (fun v _=>v= .bl true) fun _ _ _=>False)
  (hCX: ∀(w:World) (H:Hp) (s:Shared) (e:Value) (s':Shared),CX w [] H s (fun _ _ _=>False) e s'→False):
  PySem.W.WalkO q loose XP YP l.row.toRowW d [] (fun f vs=>PySem.call f vs):=by
 refine Att.attach_call hn hdf fun w s₀ s₁ mg mb fa o pm cd doc a vs ns G Y ho hd hcd hmg hobj hints hlen hg=> ?_
 have KX:=hY w _ Y
 obtain⟨fd,hb,hF⟩:=F w mg fa _ KX G.T.g hmg
 exact law_call KX G.T.g G.T.b G.T.builtins G.T.nolimit hg hobj hints (Nat.le_trans hlen hn2) hr hF hb (fun H hO hS=>hsp w H a ns hlen hO hS) fun H e s'=>hCX w H s₁ e s'
noncomputable def inClass (s:Stmt) (j:Nat):Stmt:=match s with
 | .ClassDef _ _ _ body _ _ _ _ _ _ _=>body.getD j (.Pass ⟨0,0,0,0⟩)
 | _=> .Pass ⟨0,0,0,0⟩
noncomputable def defArgs (s:Stmt):Arguments:=match s with
 | .FunctionDef _ a _ _ _ _ _ _ _ _=>a
 | _=>{posonlyargs:=[],args:=[],vararg:=none,kwonlyargs:=[],kw_defaults:=[],kwarg:=none,defaults:=[]}
noncomputable def aA2 (s:Stmt):List Stmt:=match s with
 | .FunctionDef _ _ b _ _ _ _ _ _ _=>b
 | _=> []
noncomputable def aAe (s:Stmt):Scope:=match s with
 | .FunctionDef _ _ _ _ _ _ sc _ _ _=>sc
 | _=>{kind:= .function,names:=[],isGenerator:=false,isCoroutine:=false}
structure Fun (K:PySem.W.Frag) (x qual:Str) (st:Stmt) (f:Addr) (fd:FuncData):Prop where
 ex: ∃(oc:Value) (od:Option Addr) (kV doc pm:Value) (an:Option Addr) (cdv ct:Value) (osl:Array (Option Value)),
  fd=PySem.W.fnOf x qual (defArgs st) (aA2 st) (aAe st) .none kV doc pm an cdv ct∧K.lookup f=some ⟨oc,od,.func fd,osl⟩∧PySem.W.codeIn K cdv qual=true
 kp:PySem.W.keepIn K (.ref f)=true
section
variable {P:Program} {w:World} {K:PySem.W.Frag} {mg:Str→Option Value} {base:Heap}
theorem Fun.binds {x qual:Str} {st:Stmt} {f:Addr} {fd:FuncData} {ps:List Str} (F:Fun K x qual st f fd)
  (h: ∀(kV doc pm:Value) (an:Option Addr) (cdv ct:Value) (us:List Value),us.length=ps.length→bindArgs (PySem.W.fnOf x qual (defArgs st) (aA2 st) (aAe st) .none kV doc pm an cdv ct) ⟨us,[]⟩=pure (ps.zip us)):Binds K fd ps []:=by
 obtain⟨oc,od,kV,doc,pm,an,cdv,ct,osl,rfl,lk,hcd⟩:=F.ex
 exact .all (h kV doc pm an cdv ct)
theorem fun_mk {x qual:Str} {st:Stmt} {f:Addr} {oc:Value} {od an:Option Addr} {osl:Array (Option Value)} {kV doc pm cdv ct:Value} (l:K.lookup f=some ⟨oc,od,.func (PySem.W.fnOf x qual (defArgs st) (aA2 st) (aAe st) .none kV doc pm an cdv ct),osl⟩)
  (c:PySem.W.codeIn K cdv qual=true) (k:PySem.W.keepIn K (.ref f)=true):Fun K x qual st f (PySem.W.fnOf x qual (defArgs st) (aA2 st) (aAe st) .none kV doc pm an cdv ct):=⟨⟨oc,od,kV,doc,pm,an,cdv,ct,osl,rfl,l,c⟩,k⟩
end
theorem hu_of {A:Around} {k:Nat} (hr:aCw k A):A.units+1<cLine:=Nat.lt_of_le_of_lt (Nat.add_le_add_left (by decide:1≤64) _) hr.units
theorem small1000 {n:Nat} (h:n≤1000):n<sizeLine:=Nat.lt_of_le_of_lt h (by decide)
section
variable {X:Cx}
theorem pv (i:Nat) {x:Str} {pos:Pos} (hN:X.N[i]? =some x:=by rfl) (hv:Vis X.env.scope x:=by first | exact Or.inl rfl | exact Or.inr (Or.inl rfl) | exact Or.inr (Or.inr rfl)) (hd:(x==("__debug__":Str))=false:=by decide)
  (hcd:(x==("__classdict__":Str))=false:=by decide):PE X (.Name x pos) (tVar i):=pe_var hN hv hd hcd
end
noncomputable def Same (H H':Hp):Prop:= ∀b o,H b=some o→H' b=some o
theorem Same.refl (H:Hp):Same H H:=fun _ _ h=>h
theorem Same.trans {H H1 H2:Hp} (a:Same H H1) (b:Same H1 H2):Same H H2:=fun c o h=>b c o (a c o h)
theorem Same.seq {K:PySem.W.Frag} {H H':Hp} {a:Addr} {xs:List V} (e:Same H H') (h:SqL K H a xs):SqL K H' a xs:=by
 rcases h with (h |⟨o,h⟩) | h
 ·exact .inl (.inl (e _ _ h))
 ·exact .inl (.inr ⟨o,e _ _ h⟩)
 ·exact .inr h
end L2
set_option maxHeartbeats 4000000
namespace L2.HD
open PySem PySem.W
noncomputable def goU (thr okS:Thread→Bool) (f:SharedT→Thread→Option (SharedT×Thread)):Nat→SharedT→Thread→Option SharedT
 | 0,_,_=>none
 | n+1,s,t=>match thr t with
  | true=>some s
  | false=>match okS t with
   | false=>none
   | true=>match f s t with
    | some (s',t')=>goU thr okS f n s' t'
    | none=>none
theorem goU_top {tb:String→Option Builtin} {p:Program} {w:World} {n₀:Nat} {ann:Option Value}: ∀{n:Nat} {s s':SharedT} {t:Thread},
  goU through (stepOk n₀ ann) (stepT (denote tb) p w) n s t=some s'→topRun tb p w n₀ ann n s.abs t=some s'.abs
 | 0,_,_,_,h=>by cases h
 | n+1,s,s',t,h=>by
  unfold goU at h
  unfold topRun
  cases ht:through t with
  | true=>rw[ht] at h;cases h;rfl
  | false=>
   rw[ht] at h
   cases hk:stepOk n₀ ann t with
   | false=>rw[hk] at h;cases h
   | true=>
    rw[hk] at h
    cases hs:stepT (denote tb) p w s t with
    | none=>rw[hs] at h;cases h
    | some r=>obtain⟨s₂,t₂⟩:=r;rw[hs] at h;rw[stepT_spec hs];exact goU_top h
noncomputable def T0 (P:Params):BT:=(((((((((((BT.nil.ins 0 (boot_o_0 P)).ins 1 (boot_o_1 P)).ins 2 (boot_o_2 P)).ins 3 (boot_o_3 P)).ins 4 (boot_o_4 P)).ins 5 (boot_o_5 P)).ins 6 (boot_o_6 P)).ins 7 (boot_o_7 P)).ins 8 (boot_o_8 P)).ins 9 (boot_o_9 P)).ins 10 (boot_o_10 P))
noncomputable def S0 (w:World) (os:OsState):SharedT:=⟨T0 w.params,11,(boot_heap w.params).life,#[],boot_drawn,boot_toks,os⟩
theorem S0_abs (w:World) (os:OsState):(S0 w os).abs=⟨boot_heap w.params,#[],boot_drawn,boot_toks,os⟩:=by kernel_rfl
theorem size0 (w:World):((boot_heap w.params).isNs mainGlobals&&(#[]:Array GenState).size==0,(boot_heap w.params).objs.size,(boot_heap w.params).nsMap mainGlobals "__annotations__")=(true,11,some (.ref 6)):=by kernel_rfl
theorem left_of {p q:Program} {loose:List Str} {Xt:Shared→Bool} {α:Type} {Yf:Shared→α} {Ya:World→α} {N:Nat} {g0:Bool}
  (open_: ∀w:World,(fencedOpening treeTable p w N).map (fun s=>(s.heap,s.gens,s.drawn,s.toks))=some (boot_heap w.params,#[],boot_drawn,boot_toks))
  (run: ∀w:World,(fun os=>(goU through (stepOk 11 (some (.ref 6))) (stepT (denote treeTable) p w) N (S0 w os) (topStub p)).map (fun s=>
   ((staticsOk (importedModules p.main.body) (boot_heap w.params) s.abs.heap&&namesBound p s.abs.heap&&gensDone s.abs&&laidKept (boot_heap w.params) s.abs.heap),
    openSeen q loose (importedModules p.main.body) Xt g0 s.abs,Yf s.abs)))=fun _=>some (true,openGood q loose,Ya w)):LeftO p q loose Xt Yf Ya N g0:=fun w=>by
 obtain⟨⟨h,gs,d,k,os⟩,e,e'⟩:=Option.map_eq_some_iff.mp (open_ w)
 obtain⟨rfl,rfl,rfl,rfl⟩:h=boot_heap w.params∧gs= #[]∧d=boot_drawn∧k=boot_toks:=by simpa using e'
 obtain⟨s,r,z⟩:=Option.map_eq_some_iff.mp (congrFun (run w) os)
 have r:=goU_top r
 rw[S0_abs] at r
 obtain⟨z1,z2,z3⟩:_∧_∧_:=by simpa only[Prod.mk.injEq] using size0 w
 obtain⟨l1,l2,l3⟩:_∧_∧_:=by simpa only[Prod.mk.injEq] using z
 have t:topFrom treeTable p w N ⟨boot_heap w.params,#[],boot_drawn,boot_toks,os⟩=some s.abs:=by
  unfold topFrom
  dsimp only
  rw[z1,z2,z3,r]
  show (match staticsOk (importedModules p.main.body) (boot_heap w.params) s.abs.heap&&namesBound p s.abs.heap&&gensDone s.abs&&laidKept (boot_heap w.params) s.abs.heap with | true=>_ | false=>_)=_
  rw[l1]
 unfold openEnds
 rw[e]
 show (topFrom treeTable p w N _).map _=_
 rw[t]
 exact congrArg some (Prod.ext l2 l3)
noncomputable def vs (x:Str) (t:Nat):Value:= .str x t
noncomputable def vi (i:Int):Value:= .int i 0
noncomputable def de (P:Params) (x:Str) (t:Nat) (v:Value):DictEntry:=⟨PyData.keyHash P x,.str x t,v⟩
noncomputable def ob (c:String) (d:Data):Obj:={cls:= .type c,data:=d}
noncomputable def od (n:Nat) (es:List DictEntry):Obj:={cls:= .type "dict",data:= .dict es.toArray n}
noncomputable def ot (xs:List Value):Obj:={cls:= .type "tuple",data:= .seq xs.toArray}
noncomputable def ofd (c:String) (xs:List Value):Obj:={cls:= .type c,data:= .fields xs.toArray}
noncomputable def oc (x:Str) (xt:Nat) (q:Str) (a b c d e:Nat) (xs:List Value) (f g h:Nat):Obj:=
 ofd "code" ([.str x xt,.str q a,.str "/claim/cut.py" b,vi c,vi d,vi 0,vi 0,vi e]++xs++ [vi f,vi g,.str "/claim/cut.py" h])
noncomputable def of (x q:Str) (st:Stmt) (m:Str) (mt c:Nat):Obj:={cls:= .type "function",data:= .func (fnOf x q (defArgs st) (aA2 st) (aAe st) .none .none .none (.str m mt) none (.ref c) .none)}
theorem holds_of {l:OpenLaw} {q:Program} {d:DefRec} {K:Params→Frag} {as:List Addr} {e: ∀P,as=(K P).map (·.1)} {N:Nat}
  (left:LeftO l.prog q [] (fun s=>xlAt q [] s&&recOk (RowW.records l.row.toRowW) s) (Hook.obs (kHook K as e)) (Hook.val (kHook K as e)) N)
  (said:l.row.wellSaid=true) (hdef:defOf q l.row.name=some (d,[])) (hp:l.row.prog.theDef l.row.name=some (d.params,d.body,d.scope)) (hk:kwWritten? d.params.kwonlyargs d.params.kw_defaults=some [])
  (hwr:(!l.row.writes || l.row.records.isEmpty)=true) (ok:(chainsOk q&&opensWell l.row.prog&&(frees l.row.toRowW&&l.row.within.isEmpty))=true) (hb:l.row.prog.bare) (hw:l.row.toRowW.promised)
  (call:WalkO q [] (XL q []) (Hook.says (kHook K as e)) l.row.toRowW d [] fun f vs=>PySem.call f vs):l.row.Holds:=
 holds_open (r:=l.row) (q:=q) (loose:=[]) (Xt:=fun s=>xlAt q [] s&&recOk (RowW.records l.row.toRowW) s) (XP:=XL q []) (Yf:=Hook.obs (kHook K as e)) (Ya:=Hook.val (kHook K as e)) (YP:=Hook.says (kHook K as e)) (N:=N)
  left (Hook.of (kHook K as e)) (Hook.keeps (kHook K as e)) (fun s e=>xl_of s (Bool.and_eq_true_iff.mp e).1) XL.keeps hdef hp hk (fun s e=>recFacts_of (Bool.and_eq_true_iff.mp e).2) hwr said ok hb hw call
theorem fo {K:Frag} {x q:Str} {st:Stmt} {f:Addr} {m:Str} {mt c:Nat} (ps:List Str) (l:K.lookup f=some (of x q st m mt c)) (hc:codeIn K (.ref c) q=true) (hk:keepIn K (.ref f)=true)
  (b: ∀(kV doc pm:Value) (an:Option Addr) (cdv ct:Value) (us:List Value),us.length=ps.length→bindArgs (fnOf x q (defArgs st) (aA2 st) (aAe st) .none kV doc pm an cdv ct) ⟨us,[]⟩=pure (ps.zip us)): ∃fd,Fun K x q st f fd∧Binds K fd ps []:=
 ⟨_,fun_mk (show K.lookup f=some ⟨_,_,.func (fnOf x q (defArgs st) (aA2 st) (aAe st) .none .none .none (.str m mt) none (.ref c) .none),_⟩ from l) hc hk,(fun_mk (show K.lookup f=some ⟨_,_,.func (fnOf x q (defArgs st) (aA2 st) (aAe st) .none .none .none (.str m mt) none (.ref c) .none),_⟩ from l) hc hk).binds b⟩
end L2.HD
namespace L2.PU
open PySem PySem.Spec PyProof.Rows
theorem layNew_led (t:SetTable) (es:Array (Int×Value)) (h:Int) (x:Value):(layNew t es h x).2.1.led=t.led:=by
 unfold layNew
 split
 ·unfold SetTable.orStandIn
  dsimp only
  split
  ·rfl
  ·rfl
 ·rfl
theorem layNew_plain (t:SetTable) (es:Array (Int×Value)) (h:Int) (x:Value):t.plain=false→(layNew t es h x).2.1.plain=false:=by
 intro hp
 unfold layNew
 split
 ·unfold SetTable.orStandIn
  dsimp only
  split
  ·exact hp
  ·rfl
 ·rfl
theorem relaid_keeps {t t':SetTable} {hs:Array Int} {n:Nat} {o:Array Nat} (h:t.relaid hs n=some (t',o)):t'.led=t.led∧t'.plain=t.plain:=by
 unfold SetTable.relaid SetTable.laid at h
 simp only[Option.bind_eq_bind,Option.bind_eq_some_iff] at h
 obtain⟨a,_,e⟩:=h
 cases e
 exact⟨rfl,rfl⟩
theorem relay_led (t:SetTable) (es:Array (Int×Value)) (n:Nat):(relayAll t es n).2.1.led=t.led∧(t.plain=false→(relayAll t es n).2.1.plain=false):=by
 unfold relayAll
 split
 ·rename_i t' order hr
  obtain⟨h1,h2⟩:=relaid_keeps hr
  dsimp only
  split
  ·exact⟨h1,fun q=>h2.trans q⟩
  ·exact⟨rfl,fun _=>rfl⟩
 ·exact⟨rfl,fun _=>rfl⟩
theorem txts_kept {w:World} {h h':Heap} {a:Addr} (x:Txts w h a) (e: ∀o,h.get? a=some o→h'.get? a=some o):Txts w h' a:=let ⟨o,g,r⟩:=x;⟨o,e o g,r⟩
section
variable {prog:Program} {w:World} {A:Around} {E:Value→Shared→Prop} {s:Shared}
theorem add_tail {g:Bool→Sem Unit} (hg: ∀(b:Bool) (s₁:Shared) (Q':Unit→Shared→Prop),Q' () s₁→wpAny (model prog w) A (g b) Q' E s₁)
  {a:Addr} {o:Obj} {es:Array (Int×Value)} {ep:Nat} {t:SetTable} (ho:s.heap.get? a=some o) (hex:o.ExactSet) (hd:o.data= .set es ep t)
  {es1:Array (Int×Value)} {t2:SetTable} {S':Str→Bool} (hel1:ElemsOf (PySem.strKind prog w) es1.toList) (hmem1: ∀k',S' k'=true↔∃e∈es1.toList,(PySem.strKind prog w).is k' e.2=true)
  (hb1:es1.size<scanBound) (hf2:t2.fits es1.size=true) (hl2:w.params.followText "set-order"=true∨t2.led=true) (hp2:t2.plain=false) {wasDummy:Bool} {R:Option Bool→Shared→Prop}
  (h: ∀h',Heap.SameBut a s.heap h'→h'.SetOf (PySem.strKind prog w) a S' es1.size→Txts w h' a→R (some true) {s with heap:=h'}):
  wpAny (model prog w) A (do
    storeSet a es1 t2
    if (!wasDummy&&t2.tooFull)=true then do
      g (relayAll t2 es1 (SetTable.grown es1.size)).2.2
      storeSet a (relayAll t2 es1 (SetTable.grown es1.size)).1 (relayAll t2 es1 (SetTable.grown es1.size)).2.1
      pure (some true)
     else pure (some true)) R E s:=by
 refine wpAny_bind (wpAny_storeSet_of ho hd ?_ (fits_of_scanBound hb1))
 obtain⟨ho1,z1⟩:=SetOf_store (knd:=PySem.strKind prog w) ho hex hd hel1 hmem1 hb1 hf2
 have sb1:=Heap.SameBut.update s.heap a (Obj.putSet es1 t2)
 split
 ·have hp:=relayAll_perm t2 es1 (SetTable.grown es1.size)
  have hfr:=relayAll_fits t2 es1 (SetTable.grown es1.size)
  obtain⟨r1,r2⟩:=relay_led t2 es1 (SetTable.grown es1.size)
  generalize hRl:relayAll t2 es1 (SetTable.grown es1.size)=Rl at hp hfr r1 r2⊢
  obtain⟨es2,t3,gave2⟩:=Rl
  dsimp only at hp hfr r1 r2⊢
  have hel2:=hel1.perm hp
  have hmem2: ∀k',S' k'=true↔∃e∈es2.toList,(PySem.strKind prog w).is k' e.2=true:=fun k'=>(hmem1 k').trans ⟨fun⟨e,he,q⟩=>⟨e,hp.mem_iff.mpr he,q⟩,fun⟨e,he,q⟩=>⟨e,hp.mem_iff.mp he,q⟩⟩
  have hsz:es2.size=es1.size:=by rw[←Array.length_toList,hp.length_eq,Array.length_toList]
  have hb2:es2.size<scanBound:=by rw[hsz];exact hb1
  refine wpAny_bind (hg _ _ _ (wpAny_bind (wpAny_storeSet_of ho1 rfl ?_ (fits_of_scanBound hb2))))
  obtain⟨o2,z2⟩:=SetOf_store (knd:=PySem.strKind prog w) ho1 hex rfl hel2 hmem2 hb2 hfr
  rw[hsz] at z2
  exact wpAny_pure (h _ (sb1.trans (Heap.SameBut.update _ a _)) z2 ⟨_,o2,_,_,_,rfl,by rw[r1];exact hl2,.inr (r2 hp2)⟩)
 ·exact wpAny_pure (h _ sb1 z1 ⟨_,ho1,_,_,_,rfl,hl2,.inr hp2⟩)
theorem add_txts {a:Addr} {S:Str→Bool} {n:Nat} {k:Str} {u:Tok} {Q:Bool→Shared→Prop} (zS:s.heap.SetOf (PySem.strKind prog w) a S n) (zT:Txts w s.heap a) (hroom:n+1<scanBound)
  (h: ∀h',Heap.SameBut a s.heap h'→h'.SetOf (PySem.strKind prog w) a (fun k'=>S k' || decide (k'=k)) (if S k then n else n+1)→Txts w h' a→Q (!S k) {s with heap:=h'}):
  wpAny (model prog w) A (setAddHashed a (.str k u) ((PySem.strKind prog w).hash k)) Q E s:=by
 have hkey:(PySem.strKind prog w).is k (.str k u)=true:=by simp[PySem.strKind,Value.isStrOf]
 have hsc:(Value.str k u).scannable=true:=rfl
 obtain⟨o,es,ep,t,ho,hex,hd,hel,hmem,hb,hf,hn⟩:=id zS
 obtain⟨o',ho',es',ep',t',hd',hled,hpl⟩:=id zT
 rw[ho] at ho'
 cases ho'
 rw[hd] at hd'
 cases hd'
 have hb1:es.size+1<scanBound:=by rw[hn];exact hroom
 unfold setAddHashed setAddHashedIn
 refine wpAny_holding (wpAny_bind (wpAny_setState_of ho hd hf ?_))
 dsimp only
 rw[byScan_of hsc hb hel]
 simp only[↓reduceIte]
 unfold setAddByScan
 refine wpAny_bind (wpAny_bind (wpAny_rule (wpAny_bind (wpAny_setScan_of hkey ho hd hf hel ?_))))
 cases hr:List.findIdx? (fun e=>(PySem.strKind prog w).is k e.2) es.toList with
 | some j=>
  dsimp only
  obtain⟨hj,hpj,_⟩:=List.findIdx?_eq_some_iff_getElem.mp hr
  have hSk:S k=true:=(hmem k).mpr ⟨es.toList[j],List.getElem_mem hj,hpj⟩
  refine wpAny_pure (wpAny_pure ?_)
  have e:s={s with heap:=s.heap}:=by cases s;rfl
  have:=h s.heap (Heap.SameBut.refl a s.heap) ⟨o,es,ep,t,ho,hex,hd,hel,fun k'=>by
   rw[Bool.or_eq_true,decide_eq_true_eq,←hmem k']
   exact⟨fun hk=>hk.elim id (fun e=>e▸hSk),.inl⟩,hb,hf,by rw[hSk];exact hn⟩ zT
  rw[hSk] at this;rw[e];exact this
 | none=>
  dsimp only
  have hSk:S k=false:=by
   cases hk:S k with
   | false=>rfl
   | true=>obtain⟨e,he,hp⟩:=(hmem k).mp hk;have:=List.findIdx?_eq_none_iff.mp hr e he;rw[hp] at this;exact Bool.noConfusion this
  have hgw: ∀(b:Bool) {s₁:Shared} {Q':Unit→Shared→Prop},Q' () s₁→wpAny (model prog w) A (match b with | true=>rule "set.scan.the-table-gave-way" | false=>pure ()) Q' E s₁:=
   fun b s₁ Q' hq=>by cases b<;>first | exact wpAny_pure hq | exact wpAny_rule hq
  have hperm:=layNew_perm t es ((PySem.strKind prog w).hash k) (.str k u)
  have hfits:=layNew_fits t es ((PySem.strKind prog w).hash k) (.str k u)
  have hled1:=layNew_led t es ((PySem.strKind prog w).hash k) (.str k u)
  have hpl1:=layNew_plain t es ((PySem.strKind prog w).hash k) (.str k u)
  generalize hL:layNew t es ((PySem.strKind prog w).hash k) (.str k u)=L at hperm hfits hled1 hpl1⊢
  obtain⟨es1,t1,wasDummy,gave⟩:=L
  dsimp only at hperm hfits hled1 hpl1⊢
  rw[Array.toList_push] at hperm
  have hel1:=(hel.push hkey hsc).perm hperm
  have hmem1: ∀k',(S k' || decide (k'=k))=true↔∃e∈es1.toList,(PySem.strKind prog w).is k' e.2=true:=mem_push_iff hkey hmem hperm
  have hb1':es1.size<scanBound:=by rw[←Array.length_toList,hperm.length_eq,List.length_append,Array.length_toList];simpa using hb1
  refine wpAny_bind (hgw _ ?_)
  have hsz1:es1.size=n+1:=by rw[←Array.length_toList,hperm.length_eq,List.length_append,Array.length_toList,hn];rfl
  have hend: ∀h',Heap.SameBut a s.heap h'→h'.SetOf (PySem.strKind prog w) a (fun k'=>S k' || decide (k'=k)) es1.size→Txts w h' a→Q true {s with heap:=h'}:=by
   intro h' hsb z' zt;have:=h h' hsb;rw[hSk] at this;rw[hsz1] at z';exact this z' zt
  split
  ·refine wpAny_bind ?_
   rw[hashByValue_scannable 8 hsc]
   refine wpAny_pure ?_
   refine add_tail ?_ ho hex hd hel1 hmem1 hb1' ?_ ?_ ?_ ?_
   ·intro b s₁ Q' hq;cases b<;>first | exact wpAny_pure hq | exact wpAny_rule hq
   ·exact SetTable.fits_plain_off hfits
   ·show _∨t1.led=true
    rw[hled1];exact hled
   ·rfl
   ·intro h' hsb z' zt;dsimp only;exact wpAny_pure (hend h' hsb z' zt)
  ·rename_i hnp
   refine wpAny_bind (wpAny_pure ?_)
   simp only[↓reduceIte]
   refine add_tail ?_ ho hex hd hel1 hmem1 hb1' hfits ?_ ?_ ?_
   ·intro b s₁ Q' hq;cases b<;>first | exact wpAny_pure hq | exact wpAny_rule hq
   ·rw[hled1];exact hled
   ·exact Bool.eq_false_iff.mpr hnp
   ·intro h' hsb z' zt;dsimp only;exact wpAny_pure (hend h' hsb z' zt)
end
noncomputable def addS (σ:List Str) (v:Str):List Str:=if σ.contains v then σ else σ++ [v]
noncomputable def aDp (vs:List Str):List Str:=vs.foldl addS []
theorem metS_snoc (vs:List Str) (v:Str):aDp (vs++ [v])=addS (aDp vs) v:=by unfold aDp;rw[List.foldl_append];rfl
theorem addS_has (σ:List Str) (v k:Str):(addS σ v).contains k=(σ.contains k || decide (k=v)):=by
 unfold addS
 by_cases h:σ.contains v=true
 ·rw[if_pos h]
  by_cases e:k=v
  ·subst e;rw[h];simp
  ·simp[e]
 ·rw[if_neg h]
  by_cases e:k=v
  ·subst e;simp
  ·simp[e,List.contains_iff_mem]
theorem addS_len (σ:List Str) (v:Str):(addS σ v).length=if σ.contains v then σ.length else σ.length+1:=by unfold addS;split<;>simp
theorem metS_le (vs:List Str):(aDp vs).length≤vs.length:=by
 have g: ∀(vs σ:List Str),(vs.foldl addS σ).length≤σ.length+vs.length:=by
  intro vs
  induction vs with
  | nil=>intro σ;exact Nat.le_refl _
  | cons v vs ih=>
   intro σ
   rw[List.foldl_cons]
   have h1:=ih (addS σ v)
   have h2:(addS σ v).length≤σ.length+1:=by rw[addS_len];split<;>omega
   rw[List.length_cons]
   omega
 have:=g vs []
 unfold aDp
 simpa using this
theorem metS_has (vs:List Str) (k:Str):(aDp vs).contains k=vs.contains k:=by
 have g: ∀(vs σ:List Str),(vs.foldl addS σ).contains k=(σ.contains k || vs.contains k):=by
  intro vs
  induction vs with
  | nil=>intro σ;simp
  | cons v vs ih=>
   intro σ
   rw[List.foldl_cons,ih,addS_has,List.contains_cons]
   by_cases e:k=v
   ·subst e;simp
   ·have e':(k==v)=false:=by simpa using e
    simp[e,e']
 have:=g vs []
 unfold aDp
 simpa using this
section
variable {prog:Program} {w:World} {A:Around} {R:Result→Shared→Prop} {I:Addr} {fp wr:List Addr} {G:Array GenState→Array GenState→Prop} {n:Nat} {P:Nat→Value→Prop} {St:Nat→Shared→Prop}
theorem aCk {h:Heap} {a:Addr} {σ τ:List Str} {m:Nat} {S:Str→Bool} (z:h.SetOf (PySem.strKind prog w) a S m) (e: ∀k,S k=τ.contains k) (en:m=τ.length):h.SetOf (PySem.strKind prog w) a (fun k=>τ.contains k) τ.length:=by
 have e':S=fun k=>τ.contains k:=funext e
 subst e' en
 exact z
theorem setOf_kept {h h':Heap} {a:Addr} {m:Nat} {S:Str→Bool} (z:h.SetOf (PySem.strKind prog w) a S m) (e: ∀o,h.get? a=some o→h'.get? a=some o):h'.SetOf (PySem.strKind prog w) a S m:=by
 obtain⟨o,es,ep,t,ho,rest⟩:=z
 exact⟨o,es,ep,t,e o ho,rest⟩
theorem set_loop (W:WalksS prog w A.in1 I fp wr G n P St) (S:Addr) (hSf:S∉fp) (vs:List Str) (hn:vs.length=n) (hval: ∀i v,P i v→∃t,v= .str (vs.getD i Str.empty) t) (hb:n+1<scanBound):
  ∀(k i:Nat) (s:Shared),n-i=k→i≤n→St i s→s.heap.SetOf (PySem.strKind prog w) S (fun k=>(aDp (vs.take i)).contains k) (aDp (vs.take i)).length→Txts w s.heap S→
   (∀s',Moved (S::wr) G s s'→s'.heap.SetOf (PySem.strKind prog w) S (fun k=>(aDp vs).contains k) (aDp vs).length→Txts w s'.heap S→R (.ok (.ret .none)) s')→
   codeAny (model prog w) A (.builtin "set.update.loop" ⟨[.ref S,.ref I],[]⟩) R s:=by
 have nw:S∉wr:=fun z=>hSf (W.sub _ z)
 have up: ∀b∈wr,b∈S::wr:=fun b q=>List.mem_cons_of_mem _ q
 intro k
 induction k with
 | zero=>
  intro i s hk hi st zS zT q
  have ei:i=n:=by omega
  subst ei
  rw[←hn,List.take_length] at zS
  refine codeAny_builtin PyProof.Rows.F.entry_set_update_loop ?_
  rw[Around.under_plainId PyProof.Rows.F.plain_set_update_loop _]
  show wpAny _ A.in1 (pyNext (.ref I)>>=_) _ _ s
  refine wpAny_bind (W.done s _ _ st fun s' m=> ?_)
  exact wpAny_pure (q s' (m.mono up) (setOf_kept zS fun o e=>m.heap S o nw e) (txts_kept zT fun o e=>m.heap S o nw e))
 | succ k ih=>
  intro i s hk hi st zS zT q
  have lt:i<n:=by omega
  refine codeAny_builtin PyProof.Rows.F.entry_set_update_loop ?_
  rw[Around.under_plainId PyProof.Rows.F.plain_set_update_loop _]
  show wpAny _ A.in1 (pyNext (.ref I)>>=_) _ _ s
  refine wpAny_bind (W.item i s _ _ lt st fun v s' hP st' m=> ?_)
  obtain⟨t,rfl⟩:=hval i v hP
  have zS':=setOf_kept zS fun o e=>m.heap S o nw e
  have zT':=txts_kept zT fun o e=>m.heap S o nw e
  show wpAny _ A.in1 (holding [Value.str (vs.getD i Str.empty) t] (setAdd S (.str (vs.getD i Str.empty) t))>>=_) _ _ s'
  refine wpAny_bind (wpAny_holding ?_)
  unfold setAdd
  have key:(PySem.strKind prog w).is (vs.getD i Str.empty) (.str (vs.getD i Str.empty) t)=true:=by simp[PySem.strKind,Value.isStrOf]
  refine wpAny_holding (wpAny_bind ((PySem.strKind prog w).pyHash key ?_))
  have room:(aDp (vs.take i)).length+1<scanBound:=by
   have:=metS_le (vs.take i)
   rw[List.length_take] at this
   omega
  refine add_txts (s:={s' with toks:=s'.toks+1}) zS' zT' room fun h' sb z2 zt2=> ?_
  have es:aDp (vs.take (i+1))=addS (aDp (vs.take i)) (vs.getD i Str.empty):=by
   have hlt:i<vs.length:=by omega
   rw[←metS_snoc,List.take_succ,List.getElem?_eq_getElem hlt,List.getD_eq_getElem?_getD,List.getElem?_eq_getElem hlt]
   rfl
  have z3:h'.SetOf (PySem.strKind prog w) S (fun k=>(aDp (vs.take (i+1))).contains k) (aDp (vs.take (i+1))).length:=
   aCk (σ:=[]) z2 (fun k'=>by rw[es,addS_has]) (by rw[es,addS_len])
  refine wpAny_pure ⟨plainId_quiet PyProof.Rows.F.plain_set_update_loop _,ih (i+1) _ (by omega) lt (W.frame _ s' _ _ st' (Nat.le_succ _) fun b hb' o e=> ?_) z3 zt2 fun s'' m'' z'' zt''=> ?_⟩
  ·rw[sb.2 b (fun z:b=S=>hSf (by rw[←z];exact hb'))];exact e
  ·refine q s'' (Moved.trans W.gtrans ((m.mono up).then_heap (Nat.le_succ _) fun b o hb' e=> ?_) m'') z'' zt''
   rw[sb.2 b (fun z:b=S=>hb' (by rw[z];exact List.mem_cons_self))];exact e
end
noncomputable def ledW (w:World):Bool:= !w.params.followText "set-order"
noncomputable abbrev setO (led:Bool):Obj:={cls:= .type "set",dict:=none,data:= .set #[] 0 (.fresh 0 0 led)}
theorem sub_tuple_set:isSubtype (.type "tuple") (.type "set")=pure false:=by rw[isSubtype_type];kernel_rfl
theorem sub_tuple_frozenset:isSubtype (.type "tuple") (.type "frozenset")=pure false:=by rw[isSubtype_type];kernel_rfl
theorem txts_new {w:World} {h:Heap} {a:Addr} (e:h.get? a=some (setO (ledW w))):Txts w h a:=by
 refine⟨_,e,#[],0,_,rfl,?_,.inl rfl⟩
 show _∨ledW w=true
 unfold ledW
 cases w.params.followText "set-order"<;>simp
section
variable {prog:Program} {w:World} {A:Around} {E:Value→Shared→Prop} {s:Shared}
theorem code_set_led (a:Value) {Q₁:Value→Shared→Prop} (h:Q₁ (.ref s.heap.objs.size) {s with heap:=s.heap.push (setO (ledW w))}):
  codeAny (model prog w) A (.call (.builtin "set.__new__") ⟨[.type "set",a],[]⟩) (wants Q₁ E) s:=by
 refine codeAny_of_tree (show wpAny _ A.in1 (do checkBuiltinCall "set.__new__" ⟨[.type "set",a],[]⟩;again (.builtin "set.__new__" ⟨[.type "set",a],[]⟩)) _ _ s from ?_)
 refine wpAny_bind (wpAny_of_eq (F.newCall_set_1 a) (wpAny_pure ⟨plainId_quiet F.plain_set_new _,codeAny_builtin F.entry_set_new ?_⟩))
 rw[Around.under_plainId F.plain_set_new _]
 unfold Builtin.«set.__new__» Builtin.Frozenset.newClass
 have hsub:=sub_set_self
 obtain⟨hp,g,d,tk,os⟩:=s
 dsimp only
 wp_walk
 refine wpAny_askSetting (wpAny_pure ?_)
 dsimp only
 simp only[newObj]
 exact wpAny_bind (wpAny_alloc (wpAny_pure (wpAny_pure h)))
theorem seq_walk {l:Addr} {items:Array Value} {T:String} {o:Obj} {nn:Nat} {Q:Value→Shared→Prop} (hT:T="list"∨T="tuple") (hh:A.handled=none) (ho:s.heap.get? l=some o) (hc:o.cls= .type T) (hd:o.data= .seq items nn)
  (h: ∀(ob:Obj) (St:Nat→Heap→Prop),(∀A',A'.handled=none→Walks prog w A' s.heap.objs.size [s.heap.objs.size,l] [s.heap.objs.size] items.size (fun i v=>items[i]? =some v) St)→St 0 (s.heap.push ob)→Q (.ref s.heap.objs.size) {s with heap:=s.heap.push ob}):
  wpAny (model prog w) A (pyIter (.ref l)) Q E s:=by
 have lt:l<s.heap.objs.size:=Heap.lt_size ho
 rcases hT with rfl | rfl
 ·have hl:s.heap.IsList l items:=⟨o,ho,hc,nn,hd⟩
  exact wpAny_pyIter_list hl (h _ _ (fun A' hA=>Walks.list hA _ l (Nat.ne_of_lt lt) items) ⟨⟨_,Heap.get?_push_size _ rfl,rfl,rfl⟩,hl.push _⟩)
 ·have hl:s.heap.IsTuple l items:=⟨o,ho,hc,nn,hd⟩
  exact wpAny_pyIter_tuple hl (h _ _ (fun A' hA=>Walks.tuple hA _ l (Nat.ne_of_lt lt) items) ⟨⟨_,Heap.get?_push_size _ rfl,rfl,rfl⟩,hl.push _⟩)
theorem call_set_seq {l:Addr} {items:Array Value} {T:String} {o:Obj} {nn:Nat} {vs:List Str} {Q:Value→Shared→Prop} (hT:T="list"∨T="tuple") (hh:A.handled=none) (ho:s.heap.get? l=some o) (hc:o.cls= .type T) (hd:o.data= .seq items nn)
  (hv: ∀(i:Nat) (v:Value),items[i]? =some v→∃t,v=Value.str (vs.getD i Str.empty) t) (hn:vs.length=items.size) (hb:items.size+1<scanBound)
  (h: ∀(h':Heap) (tk:Nat),h'.SetOf (PySem.strKind prog w) s.heap.objs.size (fun k=>(aDp vs).contains k) (aDp vs).length→Txts w h' s.heap.objs.size→(∀b u,s.heap.get? b=some u→h'.get? b=some u)→Q (.ref s.heap.objs.size) {s with heap:=h',toks:=tk}):
  wpAny (model prog w) A (call (.type "set") [.ref l]) Q E s:=by
 obtain⟨c,tl,hmro⟩:=F.called_set.mro
 have hmade:=F.called_set.made
 have hsub:=F.called_set.sub
 have lt:l<s.heap.objs.size:=Heap.lt_size ho
 refine wpAny_call (codeAny_of_tree ?_)
 show wpAny _ _ (callAny (.type "set") _) _ _ _
 refine wpAny_pure ⟨Code.quiet_builtin _ (by decide+kernel),codeAny_builtin F.entry_type_call ?_⟩
 rw[Around.under_plain (weight_type_call_type "set" [.ref l] []) rfl]
 have h1:=F.called_set.notType
 have h2:=F.called_set.canCreate
 have hct:=F.typeCall_set_1 (.ref l)
 repeat (any_goals (first | assumption | wp_step))
 refine codeAny_mono (code_set_led (.ref l) (E:=E) (Q₁:=fun obj s₁=> ∃led:Bool,led=ledW w∧obj= .ref s.heap.objs.size∧s₁={s with heap:=s.heap.push (setO led)}) ⟨_,rfl,rfl,rfl⟩) fun r s₁ hr=> ?_
 cases r with
 | error e=>exact hr
 | ok fl=>
  cases fl with
  | ret obj=>
   obtain⟨led,hled,rfl,rfl⟩:=hr
   have zS:(s.heap.push (setO led)).get? s.heap.objs.size=some (setO led):=Heap.get?_push_size _ rfl
   have tS:Shared.TypeIs {s with heap:=s.heap.push (setO led)} (.ref s.heap.objs.size) "set":=⟨_,zS,rfl⟩
   have hli:=F.called_set.init.lookup
   have hbi:=F.called_set.init.bind (.ref s.heap.objs.size)
   repeat (any_goals (first | assumption | wp_step))
   refine codeAny_mono (codeAny_call_builtin (R:=wants (fun r s₂=>r= .none∧∃h' tk,s₂={s with heap:=h',toks:=tk}∧h'.SetOf (PySem.strKind prog w) s.heap.objs.size (fun k=>(aDp vs).contains k) (aDp vs).length∧Txts w h' s.heap.objs.size∧
     (∀b u,s.heap.get? b=some u→h'.get? b=some u)) E) F.called_set.init.plain F.entry_set_init (check_set_init_1 tS ?_)) fun r₂ s₂ hr₂=> ?_
   ·have ho':(s.heap.push (setO led)).get? l=some o:=Heap.get?_push_of_some _ ho
    have tL:Shared.TypeIs {s with heap:=s.heap.push (setO led)} (.ref l) T:=⟨o,ho',hc⟩
    have ns:isSubtype (.type T) (.type "set")=pure false:=by rcases hT with rfl | rfl<;>first | exact F.sub_list_set | exact sub_tuple_set
    have nf:isSubtype (.type T) (.type "frozenset")=pure false:=by rcases hT with rfl | rfl<;>first | exact F.sub_list_frozenset | exact sub_tuple_frozenset
    have nd:(Value.type T==Value.type "dict")=false:=by rcases hT with rfl | rfl<;>decide
    unfold Builtin.«set.__init__» noKeywords Builtin.Frozenset.updateFrom
    generalize hPI:pyIter=PI
    wp_walk
    subst hPI
    refine seq_walk (A:=A.in1.in1) hT (by simp[hh]) ho' hc hd fun ob St W st0=> ?_
    refine wpAny_bind (wpAny_runValue ?_)
    have sz:(s.heap.push (setO led)).objs.size=s.heap.objs.size+1:=Heap.size_push _ _
    have apart:s.heap.objs.size∉[(s.heap.push (setO led)).objs.size,l]:=by
     rw[sz]
     simp only[List.mem_cons,List.not_mem_nil,or_false,not_or]
     exact⟨by omega,Nat.ne_of_gt lt⟩
    refine set_loop ((W _ (by simp[hh])).toS) s.heap.objs.size apart vs hn (fun i v q=>hv i v q) hb (items.size-0) 0 _ (by omega) (Nat.zero_le _) st0 ?_ ?_ fun s' m z' zt'=> ?_
    ·exact aCk (σ:=[]) (τ:=[]) ((PyProof.Rows.setObjOf_fresh (knd:=PySem.strKind prog w) led).setOf (Heap.get?_push_of_some _ zS) (by decide)) (fun _=>rfl) rfl
    ·exact txts_new (by rw[←hled];exact Heap.get?_push_of_some _ zS)
    ·obtain⟨h',g',d',tk',os'⟩:=s'
     have eg:g'=s.gens:=m.gens
     have ed:d'=s.drawn:=m.drawn
     have eo:os'=s.os:=m.os
     subst eg ed eo
     refine wpAny_pure (show wpAny _ _ (ret Value.none) _ _ _ from wpAny_pure ⟨rfl,h',tk',rfl,z',zt',fun b u q=> ?_⟩)
     have lb:=Heap.lt_size q
     refine m.heap b u ?_ (Heap.get?_push_of_some _ (Heap.get?_push_of_some _ q))
     rw[sz]
     simp only[List.mem_cons,List.not_mem_nil,or_false,not_or]
     have lb':b<s.heap.objs.size:=lb
     exact⟨Nat.ne_of_lt lb',Nat.ne_of_lt (Nat.lt_succ_of_lt lb')⟩
   ·cases r₂ with
    | error e=>exact hr₂
    | ok fl₂=>
     cases fl₂ with
     | ret r=>
      obtain⟨rfl,h',tk,rfl,z',zt',k'⟩:=hr₂
      repeat (any_goals (first | assumption | wp_step))
      exact h _ _ z' zt' k'
     | _=>exact hr₂.elim
  | _=>exact hr.elim
end
theorem aBd:PySem.Slot "set_iterator" "__next__" "set_iterator.__next__":= .of (owner:="set_iterator") (n:="__next__") (by rw[typeLookup_type,builtinLookup_eq_fast];kernel_rfl) (by decide+kernel) (by decide+kernel) (by decide+kernel) (by first | exact .inl (by decide+kernel) | exact .inr (by decide+kernel)) (by rw[isSubtype_type];kernel_rfl)
theorem slot_si_iter:PySem.Slot "set_iterator" "__iter__" "set_iterator.__iter__":= .of (owner:="set_iterator") (n:="__iter__") (by rw[typeLookup_type,builtinLookup_eq_fast];kernel_rfl) (by decide+kernel) (by decide+kernel) (by decide+kernel) (by first | exact .inl (by decide+kernel) | exact .inr (by decide+kernel)) (by rw[isSubtype_type];kernel_rfl)
theorem aDx:entryFor table "set_iterator.__next__"=some Builtin.«set_iterator.__next__»:=entryFor_of_tree (by kernel_rfl)
theorem entry_si_iter:entryFor table "set_iterator.__iter__"=some Builtin.«dict_keyiterator.__iter__»:=entryFor_alias (id':="dict_keyiterator.__iter__") (by kernel_rfl) rfl (by decide+kernel) (by kernel_rfl)
theorem args_si_next (a:Value):argsOk "set_iterator.__next__" ⟨[a],[]⟩:=by unfold argsOk;kernel_rfl
theorem args_si_iter (a:Value):argsOk "set_iterator.__iter__" ⟨[a],[]⟩:=by unfold argsOk;kernel_rfl
theorem entry_set_iter:entryFor table "set.__iter__"=some Builtin.«frozenset.__iter__»:=entryFor_alias (id':="frozenset.__iter__") (by kernel_rfl) rfl (by decide+kernel) (by kernel_rfl)
theorem args_set_iter (a:Value):argsOk "set.__iter__" ⟨[a],[]⟩:=by unfold argsOk;kernel_rfl
section
variable {prog:Program} {w:World} {A:Around} {E:Value→Shared→Prop} {s:Shared}
theorem cons_erase {α:Type} {l:List α} {i:Nat} (h:i<l.length):(l[i]::l.eraseIdx i).Perm l:=by
 rw[List.eraseIdx_eq_take_drop_succ]
 have e:l.take i++l[i]::l.drop (i+1)=l:=by rw[←List.drop_eq_getElem_cons h,List.take_append_drop]
 have p:= @List.perm_middle α l[i] (l.take i) (l.drop (i+1))
 rw[e] at p
 exact p.symm
theorem wpAny_chosen {src:Source} {n:Nat} {Q:Nat→Shared→Prop} (h0:n≠0) (h: ∀i,i<n→∀d,Q i {s with drawn:=d}):wpAny (model prog w) A (choose src n) Q E s:=by
 intro Γ p hΓ
 unfold choose
 rw[Sem.wp_choose]
 refine⟨h0,?_⟩
 exact h _ (Nat.mod_lt _ (Nat.pos_of_ne_zero h0)) _
theorem draw_order {α:Type} (n:Nat): ∀(xs:List α) (s:Shared) (Q:List α→Shared→Prop),xs.length=n→(∀ys d,ys.Perm xs→Q ys {s with drawn:=d})→wpAny (model prog w) A (drawOrder n xs) Q E s:=by
 induction n with
 | zero=>
  intro xs s Q hn h
  cases xs with
  | cons _ _=>rw[List.length_cons] at hn;exact absurd hn (Nat.succ_ne_zero _)
  | nil=>
   unfold drawOrder
   exact wpAny_pure (h [] s.drawn (List.Perm.refl _))
 | succ n ih=>
  intro xs s Q hn h
  cases xs with
  | nil=>exact absurd hn.symm (Nat.succ_ne_zero _)
  | cons x xs=>
   unfold drawOrder
   refine wpAny_bind (wpAny_chosen (by simp) fun i hi d=> ?_)
   rw[List.getElem?_eq_getElem hi]
   dsimp only
   refine wpAny_bind (ih ((x::xs).eraseIdx i) _ _ ?_ fun ys d' hp=>wpAny_pure ?_)
   ·rw[List.length_eraseIdx_of_lt hi];omega
   ·refine h _ d' ?_
    exact (List.Perm.cons _ hp).trans (cons_erase hi)
theorem pick_perm {α:Type} (next:Nat→Nat): ∀(n k:Nat) (left:List α) (out:Array α),left.length=n→(pickOrder.go next n k left out).toList.Perm (out.toList++left)
 | 0,k,[],out,_=>by unfold pickOrder.go;simp
 | n+1,k,x::left,out,hn=>by
  unfold pickOrder.go
  have hl:next k%(x::left).length<(x::left).length:=Nat.mod_lt _ (by simp)
  rw[List.getElem?_eq_getElem hl]
  dsimp only
  refine (pick_perm next n (k+1) _ _ ?_).trans ?_
  ·rw[List.length_eraseIdx_of_lt hl];omega
  ·rw[Array.toList_push,List.append_assoc]
   exact List.Perm.append_left _ (cons_erase hl)
theorem pickO_perm {α:Type} (next:Nat→Nat) (es:Array α):(pickOrder next es).toList.Perm es.toList:=by
 have:=pick_perm next es.size 0 es.toList #[] (by simp)
 simpa[pickOrder] using this
noncomputable def IsSI (h:Heap) (it:Addr) (first:Value) (i:Int) (a:Addr) (n ep:Int):Prop:= ∃o,h.get? it=some o∧o.cls= .type "set_iterator"∧o.data= .fields #[first,rawInt i,.ref a,rawInt n,rawInt ep]
noncomputable def SetAt (h:Heap) (a:Addr) (es:Array (Int×Value)) (ep:Nat) (t:SetTable):Prop:= ∃o,h.get? a=some o∧o.data= .set es ep t
theorem si_self {it a:Addr} {first:Value} {i n ep:Int} {Q:Value→Shared→Prop} (hi:IsSI s.heap it first i a n ep) (q:Q (.ref it) s):wpAny (model prog w) A (pyIter (.ref it)) Q E s:=by
 obtain⟨o,ho,hc,hd⟩:=hi
 have hT:s.TypeIs (.ref it) "set_iterator":=⟨o,ho,hc⟩
 refine wpAny_pyIter_slot hT slot_si_iter (wpAny_call_entry slot_si_iter hT entry_si_iter ?_ (args_si_iter _))
 exact wpAny_pure ⟨_,rfl,"set_iterator",_,hT,aBd.lookup,q⟩
theorem si_item_drawn {it a tp:Addr} {π:List Nat} {i:Nat} {es:Array (Int×Value)} {ep:Nat} {t:SetTable} {k:Nat} {hv:Int} {x:Value} {Q:Option Value→Shared→Prop} (hi:IsSI s.heap it (.ref tp) i a es.size ep) (hs:SetAt s.heap a es ep t) (hf:t.fits es.size=true)
  (htp:IsTup s.heap tp (π.map fun (j:Nat)=>rawInt j).toArray) (hk:π[i]? =some k) (hx:es[k]? =some (hv,x))
  (q: ∀h',IsSI h' it (.ref tp) ((i:Int)+1) a es.size ep→Heap.SameBut it s.heap h'→Q (some x) {s with heap:=h'}):wpAny (model prog w) A (pyNext (.ref it)) Q E s:=by
 obtain⟨o,ho,hc,hd⟩:=id hi
 obtain⟨oa,hoa,hda⟩:=id hs
 obtain⟨ot,hot,hct,nt,hdt⟩:=id htp
 have hT:s.TypeIs (.ref it) "set_iterator":=⟨o,ho,hc⟩
 have hpl:(π.map fun (j:Nat)=>rawInt j).toArray[i]? =some (rawInt k):=by simp[hk]
 unfold pyNext
 refine wpAny_bind (wpAny_attempt (wpAny_callSpecial?_slot (name:=Str.ofString "__next__") hT aBd (wpAny_call_entry aBd hT aDx ?_ (args_si_next _))))
 unfold Builtin.«set_iterator.__next__»
 obtain⟨c1,d1,x1,l1⟩:=o
 dsimp only at hc hd
 subst hc hd
 wp_walk using AutoSeq1.wpAny_loadPart' ho,wpAny_setEntries_of hoa hda hf,wpAny_setState_of hoa hda hf,wpAny_seqItems hot hdt
 rw[Int.toNat_natCast,hpl]
 show wpAny _ _ (setNextDrawn a (k:Int).toNat (ep:Int).toNat>>=_) _ _ _
 rw[Int.toNat_natCast,Int.toNat_natCast]
 unfold setNextDrawn
 refine wpAny_bind (wpAny_bind (wpAny_setState_of hoa hda hf ?_))
 dsimp only
 rw[if_neg (by simp),hx]
 refine wpAny_pure ?_
 refine wpAny_bind (wpAny_setField ho rfl (by simp) (wpAny_pure ⟨x,rfl,wpAny_pure (q _ ?_ (Heap.SameBut.update ..))⟩))
 exact⟨_,Heap.get?_update_self _ ho (Obj.isFreed_of_fields (Obj.data_mapFields rfl _)),Obj.cls_mapFields ..,by rw[Obj.data_mapFields rfl];simp[rawInt]⟩
theorem si_end_drawn {it a tp:Addr} {π:List Nat} {es:Array (Int×Value)} {ep:Nat} {t:SetTable} {Q:Option Value→Shared→Prop} (hh:A.handled=none) (hi:IsSI s.heap it (.ref tp) π.length a es.size ep) (hs:SetAt s.heap a es ep t) (hf:t.fits es.size=true)
  (htp:IsTup s.heap tp (π.map fun (j:Nat)=>rawInt j).toArray) (q: ∀h' tk,Heap.ExtBut it s.heap h'→Q none {s with heap:=h',toks:=tk}):wpAny (model prog w) A (pyNext (.ref it)) Q E s:=by
 obtain⟨o,ho,hc,hd⟩:=id hi
 obtain⟨oa,hoa,hda⟩:=id hs
 obtain⟨ot,hot,hct,nt,hdt⟩:=id htp
 have hT:s.TypeIs (.ref it) "set_iterator":=⟨o,ho,hc⟩
 have hpl:(π.map fun (j:Nat)=>rawInt j).toArray[π.length]? =none:=by simp
 unfold pyNext
 refine wpAny_bind (wpAny_attempt (wpAny_callSpecial?_slot (name:=Str.ofString "__next__") hT aBd (wpAny_call_entry aBd hT aDx ?_ (args_si_next _))))
 unfold Builtin.«set_iterator.__next__»
 obtain⟨c1,d1,x1,l1⟩:=o
 dsimp only at hc hd
 subst hc hd
 wp_walk using AutoSeq1.wpAny_loadPart' ho,wpAny_setEntries_of hoa hda hf,wpAny_setState_of hoa hda hf,wpAny_seqItems hot hdt
 rw[Int.toNat_natCast,hpl]
 wp_walk using AutoSeq1.wpAny_loadPart' ho
 simp only[raiseNew];refine wpAny_bind (wpAny_handled ?_)
 rw[show A.in1.handled=none by simp[hh]];refine wpAny_bind (wpAny_pure (wpAny_throw ?_))
 refine wpAny_bind (wpAny_isInstance (T:="StopIteration") (b:=true) ⟨_,Heap.get?_push_size _ rfl,rfl⟩ isSubtype_stop (wpAny_pure (q _ _ ?_)))
 exact (((Heap.SameBut.update ..).trans (Heap.SameBut.update ..)).extBut.push _).push _
theorem si_item {it a:Addr} {slot i nx:Nat} {es:Array (Int×Value)} {ep:Nat} {t:SetTable} {x:Value} {Q:Option Value→Shared→Prop} (hi:IsSI s.heap it (rawInt slot) i a es.size ep) (hs:SetAt s.heap a es ep t) (hf:t.fits es.size=true)
  (hn: ∀(A:Around) (E:Value→Shared→Prop) (Q:Option (Value×Nat)→Shared→Prop),Q (some (x,nx)) s→wpAny (model prog w) A (setNext a slot i ep) Q E s)
  (q: ∀h',IsSI h' it (rawInt nx) ((i:Int)+1) a es.size ep→Heap.SameBut it s.heap h'→Q (some x) {s with heap:=h'}):wpAny (model prog w) A (pyNext (.ref it)) Q E s:=by
 obtain⟨o,ho,hc,hd⟩:=id hi
 obtain⟨oa,hoa,hda⟩:=id hs
 have hT:s.TypeIs (.ref it) "set_iterator":=⟨o,ho,hc⟩
 unfold pyNext
 refine wpAny_bind (wpAny_attempt (wpAny_callSpecial?_slot (name:=Str.ofString "__next__") hT aBd (wpAny_call_entry aBd hT aDx ?_ (args_si_next _))))
 unfold Builtin.«set_iterator.__next__»
 obtain⟨c1,d1,x1,l1⟩:=o
 dsimp only at hc hd
 subst hc hd
 generalize hSN:setNext=SN
 wp_walk using AutoSeq1.wpAny_loadPart' ho,wpAny_setEntries_of hoa hda hf
 subst hSN
 rw[Int.toNat_natCast,Int.toNat_natCast,Int.toNat_natCast]
 refine hn _ _ _ ?_
 dsimp only
 refine wpAny_bind (wpAny_setField ho rfl (by simp) ?_)
 have ho2:=Heap.get?_update_self (Obj.mapFields fun z=>z.setIfInBounds 0 (rawInt nx)) ho (Obj.isFreed_of_fields (Obj.data_mapFields rfl _))
 have hd2:(Obj.mapFields (fun z=>z.setIfInBounds 0 (rawInt nx)) {cls:=Value.type "set_iterator",dict:=d1,data:=Data.fields #[rawInt slot,rawInt i,Value.ref a,rawInt es.size,rawInt ep],slots:=l1}).data= .fields #[rawInt nx,rawInt i,Value.ref a,rawInt es.size,rawInt ep]:=by
  rw[Obj.data_mapFields rfl];simp
 refine wpAny_bind (wpAny_setField ho2 hd2 (by simp) (wpAny_pure ⟨x,rfl,wpAny_pure (q _ ?_ ((Heap.SameBut.update ..).trans (Heap.SameBut.update ..)))⟩))
 exact⟨_,Heap.get?_update_self _ ho2 (Obj.isFreed_of_fields (Obj.data_mapFields hd2 _)),(Obj.cls_mapFields ..).trans (Obj.cls_mapFields ..),by rw[Obj.data_mapFields hd2];simp[rawInt]⟩
theorem si_end {it a:Addr} {slot i:Nat} {es:Array (Int×Value)} {ep:Nat} {t:SetTable} {Q:Option Value→Shared→Prop} (hh:A.handled=none) (hi:IsSI s.heap it (rawInt slot) i a es.size ep) (hs:SetAt s.heap a es ep t) (hf:t.fits es.size=true)
  (hn: ∀(A:Around) (E:Value→Shared→Prop) (Q:Option (Value×Nat)→Shared→Prop),Q none s→wpAny (model prog w) A (setNext a slot i ep) Q E s)
  (q: ∀h' tk,Heap.ExtBut it s.heap h'→Q none {s with heap:=h',toks:=tk}):wpAny (model prog w) A (pyNext (.ref it)) Q E s:=by
 obtain⟨o,ho,hc,hd⟩:=id hi
 obtain⟨oa,hoa,hda⟩:=id hs
 have hT:s.TypeIs (.ref it) "set_iterator":=⟨o,ho,hc⟩
 unfold pyNext
 refine wpAny_bind (wpAny_attempt (wpAny_callSpecial?_slot (name:=Str.ofString "__next__") hT aBd (wpAny_call_entry aBd hT aDx ?_ (args_si_next _))))
 unfold Builtin.«set_iterator.__next__»
 obtain⟨c1,d1,x1,l1⟩:=o
 dsimp only at hc hd
 subst hc hd
 generalize hSN:setNext=SN
 wp_walk using AutoSeq1.wpAny_loadPart' ho,wpAny_setEntries_of hoa hda hf
 subst hSN
 rw[Int.toNat_natCast,Int.toNat_natCast,Int.toNat_natCast]
 refine hn _ _ _ ?_
 dsimp only
 wp_walk using AutoSeq1.wpAny_loadPart' ho
 simp only[raiseNew];refine wpAny_bind (wpAny_handled ?_)
 rw[show A.in1.handled=none by simp[hh]];refine wpAny_bind (wpAny_pure (wpAny_throw ?_))
 refine wpAny_bind (wpAny_isInstance (T:="StopIteration") (b:=true) ⟨_,Heap.get?_push_size _ rfl,rfl⟩ isSubtype_stop (wpAny_pure (q _ _ ?_)))
 exact ((Heap.SameBut.update ..).extBut.push _).push _
theorem next_text {a:Addr} {slot i:Nat} {es:Array (Int×Value)} {ep:Nat} {t:SetTable} {Q:Option (Value×Nat)→Shared→Prop} (hb:w.params.followText "set-order"=true) (hs:SetAt s.heap a es ep t) (hf:t.fits es.size=true)
  (q:Q (((pickOrder (w.params.setOrder a ep) es)[i]?).map fun e=>(e.2,slot)) s):wpAny (model prog w) A (setNext a slot i ep) Q E s:=by
 obtain⟨oa,hoa,hda⟩:=hs
 unfold setNext setsByText
 refine wpAny_bind (wpAny_setState_of hoa hda hf (wpAny_bind (wpAny_bind (wpAny_askSetting (wpAny_pure ?_)))))
 dsimp only
 rw[if_pos (show (model prog w).w.params.followText "set-order"=true from hb),if_neg (by simp)]
 unfold setWalk setsByText
 refine wpAny_bind (wpAny_bind (wpAny_setState_of hoa hda hf (wpAny_bind (wpAny_bind (wpAny_askSetting (wpAny_pure ?_))))))
 dsimp only
 rw[if_pos (show (model prog w).w.params.followText "set-order"=true from hb)]
 refine wpAny_bind (wpAny_askSetting (wpAny_pure (wpAny_pure q)))
theorem next_one {a:Addr} {slot i:Nat} {es:Array (Int×Value)} {ep:Nat} {t:SetTable} {Q:Option (Value×Nat)→Shared→Prop} (hb:w.params.followText "set-order"=false) (hl:t.led=true) (h1:es.size≤1) (hs:SetAt s.heap a es ep t) (hf:t.fits es.size=true)
  (q:Q (match es[SetTable.below t.place slot]?,t.place[SetTable.below t.place slot]? with | some (_,x),some j=>some (x,j+1) | _,_=>none) s):wpAny (model prog w) A (setNext a slot i ep) Q E s:=by
 obtain⟨oa,hoa,hda⟩:=hs
 unfold setNext setsByText
 refine wpAny_bind (wpAny_setState_of hoa hda hf (wpAny_bind (wpAny_bind (wpAny_askSetting (wpAny_pure ?_)))))
 dsimp only
 rw[if_neg (show ¬(model prog w).w.params.followText "set-order"=true by rw[show (model prog w).w.params.followText "set-order"=false from hb];decide)]
 have hd: ∀b:Bool,(b=true→False)→∀(x y:Sem (Option (Value×Nat))),wpAny (model prog w) A y Q E s→wpAny (model prog w) A (if b=true then x else y) Q E s:=fun b hb x y hy=>by rw[if_neg hb];exact hy
 refine hd _ ?_ _ _ ?_
 ·intro h
  have h2:(!t.plain&&decide (es.size>1))=true:=h
  simp at h2
  omega
 ·refine wpAny_bind ?_
  show wpAny _ _ (if (!t.led&& !es.isEmpty)=true then unsupported _ else pure ()) _ _ _
  rw[if_neg (by simp[hl])]
  exact wpAny_pure (wpAny_pure q)
end
section
variable {prog:Program} {w:World} {A:Around} {E:Value→Shared→Prop} {s:Shared}
theorem keepSI {h h':Heap} {it a:Addr} {f:Value} {i n ep:Int} (hi:IsSI h it f i a n ep) (e: ∀o,h.get? it=some o→h'.get? it=some o):IsSI h' it f i a n ep:=let ⟨o,g,r⟩:=hi;⟨o,e o g,r⟩
theorem keepSA {h h':Heap} {a:Addr} {es:Array (Int×Value)} {ep:Nat} {t:SetTable} (hi:SetAt h a es ep t) (e: ∀o,h.get? a=some o→h'.get? a=some o):SetAt h' a es ep t:=let ⟨o,g,r⟩:=hi;⟨o,e o g,r⟩
theorem keepTu {h h':Heap} {a:Addr} {xs:Array Value} (hi:IsTup h a xs) (e: ∀o,h.get? a=some o→h'.get? a=some o):IsTup h' a xs:=let ⟨o,g,r⟩:=hi;⟨o,e o g,r⟩
theorem Walks.set_drawn (hh:A.handled=none) {it a tp:Addr} (na:a≠it) (nt:tp≠it) {π:List Nat} {es:Array (Int×Value)} {ep:Nat} {t:SetTable} (hf:t.fits es.size=true) (hl:π.length=es.size) (hp: ∀k∈π,k<es.size):
  Walks prog w A it [it,a,tp] [it] es.size (fun i v=>(π.map fun k=>((es[k]?).map (·.2)).getD .none)[i]? =some v) (fun i h=>IsSI h it (.ref tp) (i:Nat) a es.size ep∧SetAt h a es ep t∧IsTup h tp (π.map fun (j:Nat)=>rawInt j).toArray) where
 sub:=fun b hb=>by simp at hb;simp[hb]
 frame:=fun i h h' st hk=>⟨keepSI st.1 (hk it (by simp)),keepSA st.2.1 (hk a (by simp)),keepTu st.2.2 (hk tp (by simp))⟩
 item:=fun i s Q E hi st hQ=>by
  have hi':i<π.length:=by omega
  have hk:π[i]? =some π[i]:=List.getElem?_eq_getElem hi'
  have hj:π[i]<es.size:=hp _ (List.getElem_mem hi')
  have hx:es[π[i]]? =some (es[π[i]].1,es[π[i]].2):=by rw[Array.getElem?_eq_getElem hj]
  refine si_item_drawn st.1 st.2.1 hf st.2.2 hk hx fun h' r sb=>hQ _ h' s.toks ?_ ⟨?_,keepSA st.2.1 (fun o=>sb.extBut a o na),keepTu st.2.2 (fun o=>sb.extBut tp o nt)⟩ fun b o hb e=>sb.extBut b o (fun z=>hb (by simp[z])) e
  ·simp[hk,hx]
  ·simpa using r
 done:=fun s Q E st hQ=>by
  refine si_end_drawn hh (π:=π) (by rw[hl];exact st.1) st.2.1 hf st.2.2 fun h' tk x=>hQ h' tk fun b o hb q=>x b o (fun z=>hb (by simp[z])) q
 self:=fun _ _ _ _ st hQ=>si_self st.1 hQ
theorem Walks.set_text (hh:A.handled=none) {it a:Addr} (na:a≠it) {es:Array (Int×Value)} {ep:Nat} {t:SetTable} (hf:t.fits es.size=true) (hb:w.params.followText "set-order"=true):
  Walks prog w A it [it,a] [it] es.size (fun i v=>((pickOrder (w.params.setOrder a ep) es).toList.map (·.2))[i]? =some v) (fun i h=>IsSI h it (rawInt (0:Nat)) (i:Nat) a es.size ep∧SetAt h a es ep t) where
 sub:=fun b hb=>by simp at hb;simp[hb]
 frame:=fun i h h' st hk=>⟨keepSI st.1 (hk it (by simp)),keepSA st.2 (hk a (by simp))⟩
 item:=fun i s Q E hi st hQ=>by
  have hsz:(pickOrder (w.params.setOrder a ep) es).size=es.size:=by
   have:=(pickO_perm (w.params.setOrder a ep) es).length_eq
   simpa using this
  have hx:(pickOrder (w.params.setOrder a ep) es)[i]? =some ((pickOrder (w.params.setOrder a ep) es)[i]'(by omega)):=Array.getElem?_eq_getElem (by omega)
  refine si_item (nx:=0) st.1 st.2 hf (fun A E Q q=>next_text hb st.2 hf (by rw[hx];exact q)) fun h' r sb=>hQ _ h' s.toks ?_ ⟨?_,keepSA st.2 (fun o=>sb.extBut a o na)⟩ fun b o hb e=>sb.extBut b o (fun z=>hb (by simp[z])) e
  ·simp[hx]
  ·simpa using r
 done:=fun s Q E st hQ=>by
  have hsz:(pickOrder (w.params.setOrder a ep) es).size=es.size:=by
   have:=(pickO_perm (w.params.setOrder a ep) es).length_eq
   simpa using this
  have hx:(pickOrder (w.params.setOrder a ep) es)[es.size]? =none:=Array.getElem?_eq_none (by omega)
  refine si_end hh st.1 st.2 hf (fun A E Q q=>next_text hb st.2 hf (by rw[hx];exact q)) fun h' tk x=>hQ h' tk fun b o hb q=>x b o (fun z=>hb (by simp[z])) q
 self:=fun _ _ _ _ st hQ=>si_self st.1 hQ
theorem fits_size {t:SetTable} {n:Nat} (h:t.fits n=true):t.place.size=n:=by
 simp only[SetTable.fits,Bool.and_eq_true,beq_iff_eq,decide_eq_true_eq] at h
 exact h.1
theorem below_0 {xs:Array Nat} (h:xs.size≤1):SetTable.below xs 0=0:=by
 obtain⟨l⟩:=xs
 match l,h with
 | [],_=>rfl
 | [x],_=>simp[SetTable.below,SetTable.below.go]
theorem below_1 {xs:Array Nat} {x:Nat} (h:xs= #[x]):SetTable.below xs (x+1)=1:=by subst h;simp[SetTable.below,SetTable.below.go]
theorem Walks.set_one (hh:A.handled=none) {it a:Addr} (na:a≠it) {es:Array (Int×Value)} {ep:Nat} {t:SetTable} (hf:t.fits es.size=true) (hb:w.params.followText "set-order"=false) (hl:t.led=true) (h1:es.size≤1):
  Walks prog w A it [it,a] [it] es.size (fun i v=>(es.toList.map (·.2))[i]? =some v) (fun i h=>(∃slot:Nat,IsSI h it (rawInt slot) (i:Nat) a es.size ep∧SetTable.below t.place slot=i)∧SetAt h a es ep t) where
 sub:=fun b hb=>by simp at hb;simp[hb]
 frame:=fun i h h' st hk=>⟨let ⟨c,x,y⟩:=st.1;⟨c,keepSI x (hk it (by simp)),y⟩,keepSA st.2 (hk a (by simp))⟩
 item:=fun i s Q E hi st hQ=>by
  obtain⟨⟨c,x,y⟩,z⟩:=st
  have hps:=fits_size hf
  have e1:es.size=1:=by omega
  have i0:i=0:=by omega
  subst i0
  have hx:es[0]? =some (es[0].1,es[0].2):=by rw[Array.getElem?_eq_getElem hi]
  have hj:t.place[0]? =some t.place[0]:=Array.getElem?_eq_getElem (by omega)
  refine si_item (nx:=t.place[0]+1) x z hf (fun A E Q q=>next_one hb hl h1 z hf (by rw[y,hx,hj];exact q)) fun h' r sb=>hQ _ h' s.toks ?_ ⟨⟨t.place[0]+1,by simpa using r,?_⟩,keepSA z (fun o=>sb.extBut a o na)⟩ fun b o hb e=>sb.extBut b o (fun z=>hb (by simp[z])) e
  ·simp[hx]
  ·have ep1:t.place= #[t.place[0]]:=by
    apply Array.ext
    ·simp;omega
    ·intro k k1 k2
     have:k=0:=by omega
     subst this;rfl
   exact below_1 ep1
 done:=fun s Q E st hQ=>by
  obtain⟨⟨c,x,y⟩,z⟩:=st
  have hx:es[es.size]? =none:=Array.getElem?_eq_none (by omega)
  refine si_end hh x z hf (fun A E Q q=>next_one hb hl h1 z hf (by rw[y,hx];exact q)) fun h' tk x=>hQ h' tk fun b o hb q=>x b o (fun z=>hb (by simp[z])) q
 self:=fun _ _ _ _ st hQ=>let ⟨_,x,_⟩:=st.1;si_self x hQ
theorem range_vals (es:Array (Int×Value)):(List.range es.size).map (fun k=>((es[k]?).map (·.2)).getD .none)=es.toList.map (·.2):=by
 apply List.ext_getElem
 ·simp
 ·intro i h1 h2
  simp at h1
  simp[h1]
theorem if_same {α:Type} {b c:Bool} (e:b=c) {x y:Sem α} {Q:α→Shared→Prop} (h:wpAny (model prog w) A (if c=true then x else y) Q E s):wpAny (model prog w) A (if b=true then x else y) Q E s:=by subst e;exact h
theorem set_iter {a:Addr} {o:Obj} {es:Array (Int×Value)} {ep:Nat} {t:SetTable} {Q:Value→Shared→Prop} (ho:s.heap.get? a=some o) (hx:o.ExactSet) (hd:o.data= .set es ep t) (hf:t.fits es.size=true) (hz:es.size≤sizeLine)
  (hw:w.params.followText "set-order"=true∨t.led=true) (hp:es.size=0∨t.plain=false)
  (q: ∀it fp St (vals:List Value) h' d,(∀B:Around,B.handled=none→Walks prog w B it fp [it] es.size (fun i v=>vals[i]? =some v) St)→St 0 h'→(∀b∈fp,b=a∨s.heap.objs.size≤b)→vals.Perm (es.toList.map (·.2))→s.heap.objs.size≤it→
   (∀b o,s.heap.get? b=some o→h'.get? b=some o)→Q (.ref it) {s with heap:=h',drawn:=d}):wpAny (model prog w) A (pyIter (.ref a)) Q E s:=by
 have hT:s.TypeIs (.ref a) "set":=⟨o,ho,hx.1⟩
 have lta:=Heap.lt_size ho
 refine wpAny_pyIter_slot hT F.slot_set_iter (wpAny_call_entry F.slot_set_iter hT entry_set_iter ?_ (args_set_iter _))
 unfold Builtin.«frozenset.__iter__»
 refine wpAny_bind (m:=Builtin.Frozenset.slot0 "__iter__" ⟨[.ref a],[]⟩) (wpAny_pure ?_)
 unfold Builtin.Frozenset.sizeOf
 refine wpAny_bind (wpAny_bind (wpAny_setEntries_of ho hd hf (wpAny_pure ?_)))
 unfold setDrawn setsByText
 refine wpAny_bind (wpAny_bind (wpAny_setState_of ho hd hf (wpAny_bind (wpAny_bind (wpAny_askSetting (wpAny_pure (wpAny_pure ?_)))))))
 refine if_same (c:= !w.params.followText "set-order"&&(!t.plain&&decide (es.size>1))) rfl ?_
 have tail: ∀(h1:Heap) (d:Drawn) (first:Value),(∀b o,s.heap.get? b=some o→h1.get? b=some o)→Q (.ref h1.objs.size) {s with heap:=h1.push {cls:= .type "set_iterator",data:= .fields #[first,rawInt (0:Nat),.ref a,rawInt es.size,rawInt ep]},drawn:=d}→
   wpAny (model prog w) A.in1 (do let e←setEpoch a;let v←newFields "set_iterator" [first,rawInt 0,.ref a,rawInt es.size,rawInt e];ret v) (fun fin s'=> ∃v,fin=Fin.done (Flow.ret v)∧∃T' r,s'.TypeIs v T'∧typeLookup (Value.type T') (Str.ofString "__next__")=pure (some r)∧Q v s') E {s with heap:=h1,drawn:=d}:=by
  intro h1 d first hk q1
  refine wpAny_bind (wpAny_setEpoch_of (hk _ _ ho) hd hf (wpAny_bind (wpAny_newObj_type (wpAny_pure ⟨_,rfl,"set_iterator",_,⟨_,Heap.get?_push_size _ rfl,rfl⟩,aBd.lookup,q1⟩))))
 have isi: ∀(h1:Heap) (first:Value),IsSI (h1.push {cls:= .type "set_iterator",data:= .fields #[first,rawInt (0:Nat),.ref a,rawInt es.size,rawInt ep]}) h1.objs.size first (0:Nat) a es.size ep:=fun h1 first=>⟨_,Heap.get?_push_size _ rfl,rfl,rfl⟩
 by_cases hb:w.params.followText "set-order"=true
 ·rw[if_neg (by simp[hb])]
  refine wpAny_bind (wpAny_pure (tail s.heap s.drawn _ (fun _ _ e=>e) ?_))
  refine q _ _ _ _ _ s.drawn (fun B hB=>Walks.set_text hB (Nat.ne_of_lt lta) hf hb) ⟨isi _ _,_,Heap.get?_push_of_some _ ho,hd⟩ ?_ ?_ (Nat.le_refl _) fun b o e=>Heap.get?_push_of_some _ e
  ·intro b hb2;simp only[List.mem_cons,List.not_mem_nil,or_false] at hb2;exact hb2.elim (fun e=> .inr (e▸Nat.le_refl _)) .inl
  ·exact (pickO_perm _ es).map _
 ·have hb0:w.params.followText "set-order"=false:=by simpa using hb
  have hl:t.led=true:=hw.resolve_left hb
  by_cases h1:es.size≤1
  ·rw[if_neg (by simp;omega)]
   refine wpAny_bind (wpAny_pure (tail s.heap s.drawn _ (fun _ _ e=>e) ?_))
   refine q _ _ _ _ _ s.drawn (fun B hB=>Walks.set_one hB (Nat.ne_of_lt lta) hf hb0 hl h1) ⟨⟨0,isi _ _,below_0 (by rw[fits_size hf];exact h1)⟩,_,Heap.get?_push_of_some _ ho,hd⟩ ?_ (List.Perm.refl _) (Nat.le_refl _) fun b o e=>Heap.get?_push_of_some _ e
   intro b hb2;simp only[List.mem_cons,List.not_mem_nil,or_false] at hb2;exact hb2.elim (fun e=> .inr (e▸Nat.le_refl _)) .inl
  ·have hpl:t.plain=false:=hp.resolve_left (by omega)
   rw[if_pos (by simp[hb0,hpl];omega)]
   refine wpAny_bind (draw_order es.size (List.range es.size) _ _ (by simp) fun π d hπ=> ?_)
   have hlen:π.length=es.size:=by simpa using hπ.length_eq
   refine wpAny_bind (wpAny_newObj_type ?_ (by show (π.map _).toArray.size≤sizeLine;simp;omega))
   refine tail (s.heap.push _) d _ (fun _ _ e=>Heap.get?_push_of_some _ e) ?_
   have lt1:a<(s.heap.push {cls:= .type "tuple",data:= .seq (π.map fun (i:Nat)=>rawInt i).toArray}).objs.size:=by rw[size_push'];exact Nat.lt_succ_of_lt lta
   refine q _ _ _ _ _ d (fun B hB=>Walks.set_drawn (tp:=s.heap.objs.size) hB (Nat.ne_of_lt lt1) (by rw[size_push'];exact Nat.ne_of_lt (Nat.lt_succ_self _)) hf hlen (fun k hk=>by simpa using hπ.subset hk)) ⟨isi _ _,⟨_,Heap.get?_push_of_some _ (Heap.get?_push_of_some _ ho),hd⟩,⟨_,Heap.get?_push_of_some _ (Heap.get?_push_size _ rfl),rfl,0,rfl⟩⟩ ?_ ?_ (by rw[size_push'];exact Nat.le_succ _) fun b o e=>Heap.get?_push_of_some _ (Heap.get?_push_of_some _ e)
   ·intro b hb2;simp only[List.mem_cons,List.not_mem_nil,or_false] at hb2;rw[size_push'] at hb2;exact hb2.elim (fun e=> .inr (e▸Nat.le_succ _)) (fun h=>h.elim .inl (fun e=> .inr (e▸Nat.le_refl _)))
   ·rw[←range_vals];exact hπ.map _
end
section
variable {prog:Program} {w:World} {A:Around} {E:Value→Shared→Prop} {s:Shared}
theorem sub_set_self:isSubtype (.type "set") (.type "set")=pure true:=by rw[isSubtype_type];kernel_rfl
theorem collect_set {a:Addr} {o:Obj} {es:Array (Int×Value)} {ep:Nat} {t:SetTable} {Q:List Value→Shared→Prop} (hh:A.handled=none) (ho:s.heap.get? a=some o) (hx:o.ExactSet) (hd:o.data= .set es ep t) (hf:t.fits es.size=true) (hz:es.size≤sizeLine)
  (hw:w.params.followText "set-order"=true∨t.led=true) (hp:es.size=0∨t.plain=false)
  (hQ: ∀vals h' tk d,vals.Perm (es.toList.map (·.2))→s.heap.objs.size≤h'.objs.size→(∀b o,s.heap.get? b=some o→h'.get? b=some o)→Q vals {s with heap:=h',toks:=tk,drawn:=d}):wpAny (model prog w) A (collect (.ref a)) Q E s:=by
 have lta:=Heap.lt_size ho
 have nea:s.heap.objs.size≠a:=Nat.ne_of_gt lta
 have hT: ∀h' d,(h':Heap).get? a=some o→Shared.TypeIs {s with heap:=h',drawn:=d} (.ref a) "set":=fun h' d e=>⟨o,e,hx.1⟩
 generalize hL:({cls:= .type "list",data:= .seq ([]:List Value).toArray}:Obj)=L
 have ho1:(s.heap.push L).get? a=some o:=Heap.get?_push_of_some _ ho
 have l1:(s.heap.push L).get? s.heap.objs.size=some L:=Heap.get?_push_size _ (by rw[←hL];rfl)
 have h1:Builtin.List.listSameRef (.ref s.heap.objs.size) (.ref a)=false:=by simp[Builtin.List.listSameRef,nea]
 unfold collect;refine wpAny_bind (wpAny_runValue (codeAny_builtin F.entry_proto_collect ?_))
 rw[Around.under_plainId F.plain_proto_collect _];show wpAny _ A.in1 (newList []>>=fun l=>again (.builtin "list.__iadd__" ⟨[l,.ref a],[]⟩)) _ _ s
 refine wpAny_bind (wpAny_newObj_type (wpAny_pure ⟨plainId_quiet F.plain_list_iadd _,codeAny_builtin F.entry_list_iadd ?_⟩))
 rw[Around.under_plainId F.plain_list_iadd _];show wpAny _ A.in1 (Builtin.List.listExtendWith (.ref s.heap.objs.size) (.ref a) (.ref s.heap.objs.size)) _ _ _
 rw[hL]
 unfold Builtin.List.listExtendWith;refine wpAny_bind (wpAny_typeOf (hT _ s.drawn ho1) ?_)
 rw[if_neg (by rw[h1];decide)]
 refine wpAny_bind (set_iter (s:={s with heap:=s.heap.push L}) ho1 hx hd hf hz hw hp fun it fp St vals h2 d W0 st0 hfp hperm hit hk=>wpAny_bind (wpAny_holding ?_))
 have ho2:=hk a o ho1
 have l2:=hk _ _ l1
 unfold Builtin.List.listLengthHint;refine wpAny_bind (wpAny_specialOf (hT _ d ho2) F.slot_set_len.lookup ?_)
 generalize hid:("set.__len__":String)=id0;(fail_if_success (clear hid id0));wp_delta;rw[show splitId id0=some ("set","__len__") from by subst hid;decide+kernel];subst hid
 refine wpAny_bind (wpAny_isInstance (b:=true) (hT _ d ho2) sub_set_self ?_)
 rw[if_neg (by decide)]
 refine if_same (c:=true) ?_ ?_
 ·decide+kernel
 rw[if_pos rfl]
 refine wpAny_bind (wpAny_typeOf (hT _ d ho2) (wpAny_pure ?_))
 refine if_same (c:=true) ?_ ?_
 ·decide+kernel
 rw[if_pos rfl]
 subst hL
 refine wpAny_bind (wpAny_rule (wpAny_bind ?_))
 show wpAny _ A.in1 (updateSeq s.heap.objs.size (·.push .none)>>=fun _=>updateSeq s.heap.objs.size (·.pop)) _ _ _
 refine wpAny_bind (wpAny_updateSeq l2 rfl ?_)
 have l3:=Heap.get?_update_self (Obj.mapSeq (·.push Value.none)) l2 rfl
 refine wpAny_updateSeq l3 rfl ?_
 have l4:=Heap.get?_update_self (Obj.mapSeq (·.pop)) l3 rfl
 refine wpAny_pure ⟨plainId_quiet F.plain_extend_loop _,?_⟩
 have W:=(W0 A.in1 (by simp[hh])).toS
 have hit':s.heap.objs.size+1≤it:=by have h:=hit;dsimp only at h;rw[size_push'] at h;exact h
 have nei:s.heap.objs.size≠it:=Nat.ne_of_lt hit'
 have off:s.heap.objs.size∉fp:=by
  intro h
  rcases hfp _ h with e | e
  ·exact nea e
  ·dsimp only at e;rw[size_push'] at e;exact absurd e (Nat.not_succ_le_self _)
 have hk2: ∀b u,b≠s.heap.objs.size→h2.get? b=some u→((h2.update s.heap.objs.size (Obj.mapSeq fun x=>x.push Value.none)).update s.heap.objs.size (Obj.mapSeq fun x=>x.pop)).get? b=some u:=fun b u hb e=>(Heap.get?_update_other _ _ (Ne.symm hb)).trans ((Heap.get?_update_other _ _ (Ne.symm hb)).trans e)
 refine codeAny_extend_loopS W hz _ off _ es.size 0 _ _ _ rfl (Nat.zero_le _) ((W0 A.in1 (by simp[hh])).frame _ _ _ st0 fun b hb u e=>hk2 b u (fun z=>off (z▸hb)) e) l4 (ItemsOf.nil _) fun s' acc c' hm hS' hacc=> ?_
 show wpAny _ A (load s.heap.objs.size>>=_) _ _ s'
 refine wpAny_bind (wpAny_load hS' (wpAny_pure ?_))
 obtain⟨h',g',d',tk',os'⟩:=s'
 have eg:g'=s.gens:=hm.gens
 have ed:d'=d:=hm.drawn
 have eo:os'=s.os:=hm.os
 subst eg ed eo
 have hlen:vals.length=es.size:=by simpa using hperm.length_eq
 have ea:acc.toList=vals:=by
  have hsz:=hacc.1
  apply List.ext_getElem?
  intro i
  by_cases hi:i<es.size
  ·have hv:=hacc.2 i acc[i] (by simp[hsz,hi])
   rw[hv];simp[hsz,hi]
  ·rw[List.getElem?_eq_none (by simp[hsz];omega),List.getElem?_eq_none (by omega)]
 rw[ea]
 refine hQ vals h' tk' _ hperm (Nat.le_of_lt (Heap.lt_size hS')) fun b u e=> ?_
 have lb:=Heap.lt_size e
 refine hm.heap b u ?_ (hk2 b u (Nat.ne_of_lt lb) (hk b u (Heap.get?_push_of_some _ e)))
 simp only[List.mem_cons,List.not_mem_nil,or_false,not_or]
 exact⟨Nat.ne_of_lt lb,Nat.ne_of_lt (Nat.lt_trans lb hit')⟩
end
noncomputable def leS (a b:Str):Bool:= !ltCps b.cps.toList a.cps.toList
noncomputable def srtS (xs:List Str):List Str:=xs.mergeSort leS
theorem leS_iff (a b:Str):leS a b=true↔a.cps.toList≤b.cps.toList:=by
 unfold leS;rw[ltCps_eq];simp
theorem leS_trans (a b c:Str) (h1:leS a b=true) (h2:leS b c=true):leS a c=true:=by
 rw[leS_iff] at*;exact List.le_trans h1 h2
theorem leS_total (a b:Str):(leS a b || leS b a)=true:=by
 rw[Bool.or_eq_true,leS_iff,leS_iff];exact List.le_total _ _
theorem leS_anti (a b:Str) (h1:leS a b=true) (h2:leS b a=true):a=b:=by
 rw[leS_iff] at*;exact Str.ext' (Array.toList_inj.mp (List.le_antisymm h1 h2))
theorem srtS_perm (xs:List Str):(srtS xs).Perm xs:=List.mergeSort_perm xs leS
theorem srtS_pair (xs:List Str):(srtS xs).Pairwise (fun a b=>leS a b=true):=List.pairwise_mergeSort leS_trans leS_total xs
theorem rising_pair: ∀(l:List Str) (p:Str),risingS p l=true→(p::l).Pairwise (fun a b=>leS a b=true)
 | [],p,_=>by simp
 | x::r,p,h=>by
  have h':(!ltCps x.cps.toList p.cps.toList&&risingS x r)=true:=h
  rw[Bool.and_eq_true] at h'
  have ih:=rising_pair r x h'.2
  refine List.pairwise_cons.mpr ⟨fun y hy=> ?_,ih⟩
  rcases List.mem_cons.mp hy with e | e
  ·rw[e];exact h'.1
  ·exact leS_trans _ _ _ h'.1 (List.rel_of_pairwise_cons ih e)
theorem sortedS_pair: ∀(l:List Str),sortedS l=true→l.Pairwise (fun a b=>leS a b=true)
 | [],_=> .nil
 | x::r,h=>rising_pair r x h
theorem srtS_of {xs ys:List Str} (hs:sortedS ys=true) (hp:ys.Perm xs):ys=srtS xs:=
 List.Perm.eq_of_pairwise (fun a b _ _=>leS_anti a b) (sortedS_pair ys hs) (srtS_pair xs) (hp.trans (srtS_perm xs).symm)
theorem perm_of_mem {α:Type} [DecidableEq α]: ∀(xs ys:List α),xs.Nodup→(∀k,k∈xs→k∈ys)→ys.length=xs.length→ys.Perm xs
 | [],ys,_,_,h=>by cases ys with | nil=>exact .refl _ | cons _ _=>simp at h
 | x::xs,ys,hn,hm,h=>by
  have hx:=hm x (by simp)
  have hp:=List.perm_cons_erase hx
  refine hp.trans (List.Perm.cons x (perm_of_mem xs (ys.erase x) (List.nodup_cons.mp hn).2 (fun k hk=> ?_) ?_))
  ·have ne:k≠x:=fun e=>(List.nodup_cons.mp hn).1 (e▸hk)
   exact (List.mem_erase_of_ne ne).mpr (hm k (by simp[hk]))
  ·rw[List.length_erase_of_mem hx,h];simp
theorem addS_nodup {σ:List Str} {v:Str} (h:σ.Nodup):(addS σ v).Nodup:=by
 unfold addS
 split
 ·exact h
 ·rename_i hc
  have hn:v∉σ:=fun hm=>hc (by simpa using hm)
  first
  | exact List.nodup_cons.mpr ⟨hn,h⟩
  |(rw[List.nodup_append];exact⟨h,by simp,by intro a ha b hb;simp at hb;subst hb;intro e;subst e;exact hn ha⟩)
theorem metS_nodup_from (vs:List Str): ∀(σ:List Str),σ.Nodup→(vs.foldl addS σ).Nodup:=by
 induction vs with
 | nil=>intro σ h;exact h
 | cons v r ih=>intro σ h;exact ih _ (addS_nodup h)
theorem aCl (vs:List Str):(aDp vs).Nodup:=metS_nodup_from vs [] .nil
section
variable {prog:Program} {w:World} {A:Around} {E:Value→Shared→Prop} {s:Shared}
theorem sorted_of {x:Value} {xs:List Str} {Q:Value→Shared→Prop} (hh:A.handled=none) (h64:xs.length<64)
  (hc: ∀(B:Around) (Q':List Value→Shared→Prop),B.handled=none→(∀vals ts h' tk d,StrsAre vals ts→ts.Perm xs→s.heap.objs.size≤h'.objs.size→(∀b o,s.heap.get? b=some o→h'.get? b=some o)→Q' vals {s with heap:=h',toks:=tk,drawn:=d})→wpAny (model prog w) B (collect x) Q' E s)
  (h: ∀out l h' tk d m,StrsAre out (srtS xs)→s.heap.objs.size≤l→h'.get? l=some {cls:= .type "list",data:= .seq out.toArray m}→(∀b o,s.heap.get? b=some o→h'.get? b=some o)→Q (.ref l) {s with heap:=h',toks:=tk,drawn:=d}):
  wpAny (model prog w) A (call (.builtin "sorted") [x]) Q E s:=by
 refine Calls.call_function_entry kind_sorted plain_sorted entry_sorted (args_sorted1 _) ?_
 unfold Builtin.«sorted»
 refine wpAny_bind (m:=checkCount "sorted" 1 1 _) (wpAny_pure ?_)
 refine wpAny_bind (hc A.in1 _ (by simp[hh]) fun vals ts h1 tk d hS hp le hk=> ?_)
 have hvl:vals.length<64:=by rw[hS.len_eq,hp.length_eq];exact h64
 refine wpAny_bind (wpAny_newList ?_)
 have hoL:(h1.push (seqObj "list" vals.toArray 0)).get? h1.objs.size=some (seqObj "list" vals.toArray 0):=Heap.get?_push_size _ rfl
 show wpAny _ _ _ _ _ {s with heap:=h1.push (seqObj "list" vals.toArray 0),toks:=tk,drawn:=d}
 refine wpAny_bind (wpAny_holding (wpAny_call_entry slot_list_sort ⟨_,hoL,rfl⟩ entry_list_sort (list_sort_treeK strKind_oneLt hoL hS.keysOf (fun v₁ v₂ rest e=>keyKind_strs (by rw[←e];exact hS)) hvl fun st' a1 a2=>⟨_,rfl,?_⟩) (args_list_sort _)))
 refine wpAny_pure ⟨_,rfl,?_⟩
 obtain⟨ss',b1,b2,b3⟩:=sorted_out_str hS a1 a2
 have e:=srtS_of b3 (b2.trans hp)
 subst e
 generalize (Array.map (fun x=>x.snd) (arrOf st'))=out at b1⊢
 obtain⟨ol⟩:=out
 have k1:=get?_update_seq hoL (fun _=> #[])
 have k2:=get?_update_seq (Heap.get?_push_of_some (seqObj "list" #[] 0) (Heap.get?_push_of_some (seqObj "tuple" vals.toArray 0) k1)) (fun _=>ol.toArray)
 refine h ol h1.objs.size _ tk d _ b1 le k2 fun b o e=> ?_
 have lt:=Heap.lt_size (hk b o e)
 have ne:h1.objs.size≠b:=Nat.ne_of_gt lt
 show (sortedHeap _ _ _ _).get? b=some o
 unfold sortedHeap
 rw[Heap.get?_update_other _ _ ne]
 refine Heap.get?_push_of_some _ (Heap.get?_push_of_some _ ?_)
 rw[Heap.get?_update_other _ _ ne]
 exact Heap.get?_push_of_some _ (hk b o e)
theorem strs_of: ∀(vals:List Value),(∀v∈vals,∃k t,v=Value.str k t)→∃ts,StrsAre vals ts
 | [],_=>⟨[],.nil⟩
 | v::vs,h=>by
  obtain⟨k,t,e⟩:=h v (by simp)
  obtain⟨ts,h2⟩:=strs_of vs fun v hv=>h v (by simp[hv])
  subst e
  exact⟨k::ts,.cons k t h2⟩
theorem strs_mem: ∀{vals:List Value} {ts:List Str},StrsAre vals ts→∀{k:Str} {t:Tok},Value.str k t∈vals→k∈ts
 | _,_,.cons y u r,k,t,h=>by
  rcases List.mem_cons.mp h with e | e
  ·injection e with e1;subst e1;simp
  ·exact List.mem_cons_of_mem _ (strs_mem r e)
theorem sorted_set {a:Addr} {ss:List Str} {Q:Value→Shared→Prop} (hh:A.handled=none) (h64:ss.length<64) (hn:ss.Nodup) (z:s.heap.SetOf (PySem.strKind prog w) a (fun k=>ss.contains k) ss.length) (zt:Txts w s.heap a)
  (h: ∀out l h' tk d m,StrsAre out (srtS ss)→s.heap.objs.size≤l→h'.get? l=some {cls:= .type "list",data:= .seq out.toArray m}→(∀b o,s.heap.get? b=some o→h'.get? b=some o)→Q (.ref l) {s with heap:=h',toks:=tk,drawn:=d}):
  wpAny (model prog w) A (call (.builtin "sorted") [.ref a]) Q E s:=by
 obtain⟨o,es,ep,t,ho,hx,hd,hel,hm,hb,hf,hsz⟩:=z
 obtain⟨o2,ho2,es2,ep2,t2,hd2,hw,hp⟩:=zt
 rw[ho] at ho2
 cases ho2
 rw[hd] at hd2
 cases hd2
 have hs:sizeLine=16777216:=sizeLine_eq
 refine sorted_of hh h64 (fun B Q' hB q=>collect_set hB ho hx hd hf (by unfold scanBound at hb;omega) hw hp fun vals h' tk d pv le kp=> ?_) h
 have hstr: ∀v∈vals,∃k t,v=Value.str k t:=by
  intro v hv
  obtain⟨e,he,rfl⟩:=List.mem_map.mp (pv.subset hv)
  obtain⟨⟨k,hk,_⟩,_⟩:=hel e he
  obtain⟨t,et⟩:=Value.isStrOf_shape hk
  exact⟨k,t,et⟩
 obtain⟨ts,hS⟩:=strs_of vals hstr
 refine q vals ts h' tk d hS (perm_of_mem ss ts hn (fun k hk=> ?_) ?_) le kp
 ·obtain⟨e,he,hi⟩:=(hm k).mp (by simpa using hk)
  obtain⟨t,et⟩:=Value.isStrOf_shape hi
  refine strs_mem hS (t:=t) (pv.symm.subset ?_)
  rw[←et]
  exact List.mem_map.mpr ⟨e,he,rfl⟩
 ·rw[←hS.len_eq,pv.length_eq,List.length_map,Array.length_toList,hsz]
end
inductive D where
 | non | bl (b:Bool) | int (i:Int) | str (x:Str) | tup (ds:List D) | lst (ds:List D) | obj (C:Addr) (fs:List (Str×D))
 | dk (kvs:List (Key×D)) | dt (kvs:List (List Key×D)) | exc (C:Addr) | set (ss:List Str)
noncomputable def excAt (a C:Addr) (h:Heap):Prop:= ∃o,h.get? a=some o∧o.cls= .ref C
noncomputable def TQ (K:PySem.W.Frag) (H:Hp) (a:Addr) (vs:List V):Prop:=H a=some (.tup vs)
theorem TQ.of {K:PySem.W.Frag} {H:Hp} {a:Addr} {vs:List V} (h:H a=some (.tup vs)):TQ K H a vs:=h
theorem TQ.sq {K:PySem.W.Frag} {H:Hp} {a:Addr} {vs:List V} (h:TQ K H a vs):SqT K H a vs:=SqT.of h
instance {K:PySem.W.Frag} {H:Hp} {a:Addr} {vs:List V}:Coe (TQ K H a vs) (SqT K H a vs):=⟨TQ.sq⟩
theorem rd_mono {H H':Hp} (e:Same H H') {a:Addr} {u:HO} (h:Rd H a u):Rd H' a u:=h.imp (e _ _) fun⟨o,q⟩=>⟨o,e _ _ q⟩
mutual
inductive Is (K:PySem.W.Frag) (H:Hp):D→V→Prop where
 | non:Is K H .non .non
 | bl (b:Bool):Is K H (.bl b) (.bl b)
 | int (i:Int):Is K H (.int i) (.int i)
 | str (x:Str):Is K H (.str x) (.str x)
 | tup {a:Addr} {ds:List D} {vs:List V} (h:TQ K H a vs) (r:IsL K H ds vs):Is K H (.tup ds) (.ref a)
 | lst {a:Addr} {ds:List D} {vs:List V} (h:SqL K H a vs) (r:IsL K H ds vs):Is K H (.lst ds) (.ref a)
 | obj {a C dx:Addr} {fs:List (Str×D)} {vs:List (Str×V)} (h:H a=some (.ins C dx vs)) (r:IsF K H fs vs):Is K H (.obj C fs) (.ref a)
 | dk {a:Addr} {kvs:List (Key×D)} {vs:List (Key×V)} (h:Rd H a (.dK vs)) (r:IsK K H kvs vs):Is K H (.dk kvs) (.ref a)
 | dt {a:Addr} {kvs:List (List Key×D)} {vs:List (List Key×V)} (h:H a=some (.dT vs)) (r:IsT K H kvs vs):Is K H (.dt kvs) (.ref a)
 | exc {a C:Addr} (h:H a=some (.ext (excAt a C))):Is K H (.exc C) (.ref a)
 | set {a:Addr} {ss:List Str} (h:H a=some (.set (fun k=>ss.contains k) ss.length)):Is K H (.set ss) (.ref a)
inductive IsK (K:PySem.W.Frag) (H:Hp):List (Key×D)→List (Key×V)→Prop where
 | nil:IsK K H [] []
 | cons {x:Key} {d:D} {v:V} {ds:List (Key×D)} {vs:List (Key×V)} (h:Is K H d v) (r:IsK K H ds vs):IsK K H ((x,d)::ds) ((x,v)::vs)
inductive IsT (K:PySem.W.Frag) (H:Hp):List (List Key×D)→List (List Key×V)→Prop where
 | nil:IsT K H [] []
 | cons {x:List Key} {d:D} {v:V} {ds:List (List Key×D)} {vs:List (List Key×V)} (h:Is K H d v) (r:IsT K H ds vs):IsT K H ((x,d)::ds) ((x,v)::vs)
inductive IsL (K:PySem.W.Frag) (H:Hp):List D→List V→Prop where
 | nil:IsL K H [] []
 | cons {d:D} {v:V} {ds:List D} {vs:List V} (h:Is K H d v) (r:IsL K H ds vs):IsL K H (d::ds) (v::vs)
inductive IsF (K:PySem.W.Frag) (H:Hp):List (Str×D)→List (Str×V)→Prop where
 | nil:IsF K H [] []
 | cons {x:Str} {d:D} {v:V} {ds:List (Str×D)} {vs:List (Str×V)} (h:Is K H d v) (r:IsF K H ds vs):IsF K H ((x,d)::ds) ((x,v)::vs)
end
section
variable {K:PySem.W.Frag} {H H':Hp}
theorem SqT.mono {a:Addr} {xs:List V} (e:Same H H') (h:SqT K H a xs):SqT K H' a xs:=by
 rcases h with (h |⟨o,h⟩) | h
 ·exact .inl (.inl (e _ _ h))
 ·exact .inl (.inr ⟨o,e _ _ h⟩)
 ·exact .inr h
theorem Is.mono (e:Same H H') {d:D} {v:V} (h:Is K H d v):Is K H' d v:=
 Is.rec (motive_1:=fun d v _=>Is K H' d v) (motive_2:=fun ds vs _=>IsK K H' ds vs) (motive_3:=fun ds vs _=>IsT K H' ds vs) (motive_4:=fun ds vs _=>IsL K H' ds vs) (motive_5:=fun ds vs _=>IsF K H' ds vs)
  .non .bl .int .str (fun h _ r=> .tup (e _ _ h) r) (fun h _ r=> .lst (e.seq h) r) (fun h _ r=> .obj (e _ _ h) r) (fun h _ r=> .dk (rd_mono e h) r) (fun h _ r=> .dt (e _ _ h) r) (fun h=> .exc (e _ _ h)) (fun h=> .set (e _ _ h))
  .nil (fun _ _ i r=> .cons i r) .nil (fun _ _ i r=> .cons i r) .nil (fun _ _ i r=> .cons i r) .nil (fun _ _ i r=> .cons i r) h
theorem IsK.mono (e:Same H H'): ∀{ds:List (Key×D)} {vs:List (Key×V)},IsK K H ds vs→IsK K H' ds vs:=by
 intro ds
 induction ds with
 | nil=>intro vs h;cases h;exact .nil
 | cons d ds ih=>intro vs h;cases h with | cons i r=>exact .cons (i.mono e) (ih r)
theorem IsT.mono (e:Same H H'): ∀{ds:List (List Key×D)} {vs:List (List Key×V)},IsT K H ds vs→IsT K H' ds vs:=by
 intro ds
 induction ds with
 | nil=>intro vs h;cases h;exact .nil
 | cons d ds ih=>intro vs h;cases h with | cons i r=>exact .cons (i.mono e) (ih r)
theorem IsL.mono (e:Same H H'): ∀{ds:List (D)} {vs:List (V)},IsL K H ds vs→IsL K H' ds vs:=by
 intro ds
 induction ds with
 | nil=>intro vs h;cases h;exact .nil
 | cons d ds ih=>intro vs h;cases h with | cons i r=>exact .cons (i.mono e) (ih r)
theorem IsF.mono (e:Same H H'): ∀{ds:List (Str×D)} {vs:List (Str×V)},IsF K H ds vs→IsF K H' ds vs:=by
 intro ds
 induction ds with
 | nil=>intro vs h;cases h;exact .nil
 | cons d ds ih=>intro vs h;cases h with | cons i r=>exact .cons (i.mono e) (ih r)
theorem IsL.length: ∀{ds:List D} {vs:List V},IsL K H ds vs→ds.length=vs.length:=by
 intro ds
 induction ds with
 | nil=>intro vs h;cases h;rfl
 | cons d ds ih=>intro vs h;cases h with | cons _ r=>exact congrArg (· +1) (ih r)
theorem IsL.get: ∀{ds:List D} {vs:List V} {i:Nat} {d:D},IsL K H ds vs→ds[i]? =some d→∃v,vs[i]? =some v∧Is K H d v
 | _,_,_,_,.nil,e=>by simp at e
 | _,_,0,_,.cons h _,e=>by simp at e;subst e;exact⟨_,rfl,h⟩
 | _,_,i+1,d,.cons _ r,e=>by
  obtain⟨v,h1,h2⟩:=IsL.get (i:=i) (d:=d) r (by simpa using e)
  exact⟨v,by simpa using h1,h2⟩
theorem IsL.getV: ∀{ds:List D} {vs:List V} {i:Nat} {v:V},IsL K H ds vs→vs[i]? =some v→∃d,ds[i]? =some d∧Is K H d v
 | _,_,_,_,.nil,e=>by simp at e
 | _,_,0,_,.cons h _,e=>by simp at e;subst e;exact⟨_,rfl,h⟩
 | _,_,i+1,v,.cons _ r,e=>by
  obtain⟨d,h1,h2⟩:=IsL.getV (i:=i) (v:=v) r (by simpa using e)
  exact⟨d,by simpa using h1,h2⟩
theorem IsL.append: ∀{ds es:List D} {vs ws:List V},IsL K H ds vs→IsL K H es ws→IsL K H (ds++es) (vs++ws):=by
 intro ds
 induction ds with
 | nil=>intro es vs ws h s;cases h;exact s
 | cons d ds ih=>intro es vs ws h s;cases h with | cons i r=>exact .cons i (ih r s)
theorem IsL.take: ∀{ds:List D} {vs:List V} (n:Nat),IsL K H ds vs→IsL K H (ds.take n) (vs.take n)
 | _,_,0,_=> .nil
 | _,_,_+1,.nil=> .nil
 | _,_,n+1,.cons h r=> .cons h (IsL.take n r)
theorem IsL.drop: ∀{ds:List D} {vs:List V} (n:Nat),IsL K H ds vs→IsL K H (ds.drop n) (vs.drop n)
 | _,_,0,r=>r
 | _,_,_+1,.nil=> .nil
 | _,_,n+1,.cons _ r=>IsL.drop n r
theorem IsF.lookup: ∀{fs:List (Str×D)} {vs:List (Str×V)} {x:Str} {d:D},IsF K H fs vs→fs.lookup x=some d→∃v,vs.lookup x=some v∧Is K H d v
 | _,_,_,_,.nil,e=>by simp at e
 | _,_,x,d,.cons (x:=y) (d:=d') (v:=v') (ds:=fs) (vs:=vs) h r,e=>by
  rw[List.lookup_cons] at e⊢
  cases q:(x==y) with
  | true=>rw[q] at e;simp at e;subst e;exact⟨_,rfl,h⟩
  | false=>rw[q] at e;exact IsF.lookup r e
theorem IsF.lookupNone: ∀{fs:List (Str×D)} {vs:List (Str×V)} {x:Str},IsF K H fs vs→fs.lookup x=none→vs.lookup x=none:=by
 intro fs
 induction fs with
 | nil=>intro vs x h e;cases h;rfl
 | cons f fs ih=>
  intro vs x h e
  cases h with
  | cons i r=>
   rename_i y d' v' vs
   rw[List.lookup_cons] at e⊢
   cases q:(x==y) with
   | true=>rw[q] at e;simp at e
   | false=>rw[q] at e;exact ih r e
theorem IsF.length: ∀{ds:List (Str×D)} {vs:List (Str×V)},IsF K H ds vs→ds.length=vs.length:=by
 intro ds
 induction ds with
 | nil=>intro vs h;cases h;rfl
 | cons d ds ih=>intro vs h;cases h with | cons _ r=>exact congrArg (· +1) (ih r)
theorem isL_ints: ∀(ns:List Int),IsL K H (ns.map D.int) (ns.map V.int)
 | []=> .nil
 | n::r=> .cons (.int n) (isL_ints r)
end
inductive DO where
 | k (kvs:List (Key×D)) | t (kvs:List (List Key×D))
noncomputable def DO.d:DO→D
 | .k kvs=> .dk kvs
 | .t kvs=> .dt kvs
noncomputable def kD:Key→D
 | .inl i=> .int i
 | .inr x=> .str x
inductive NK where
 | l | k (ks:List Key) | t (ks:List (List Key))
noncomputable def NK.d:NK→List (List D)→D
 | .l,ls=> .lst (ls.map D.lst)
 | .k ks,ls=> .dk (ks.zip (ls.map D.lst))
 | .t ks,ls=> .dt (ks.zip (ls.map D.lst))
inductive SV where
 | sh (d:D) | own (ds:List D) | oin (a C dx:Addr) (fs:List (Str×D)) | ow (o:DO) | tk (ks:List Key) | nl (kd:NK) (ls:List (List D))
noncomputable abbrev Rho:=List (Option SV)
noncomputable def SV.cur:SV→D
 | .sh d=>d
 | .own ds=> .lst ds
 | .oin _ C _ fs=> .obj C fs
 | .ow o=>o.d
 | .tk ks=> .tup (ks.map kD)
 | .nl kd ls=>kd.d ls
open Classical in
noncomputable def Off (H:Hp) (O:Nat→Option Addr):Hp:=fun b=>if∃i,O i=some b then none else H b
theorem Off.same (H:Hp) (O:Nat→Option Addr):Same (Off H O) H:=fun b o h=>by
 unfold Off at h
 split at h
 ·cases h
 ·exact h
theorem Off.of {H:Hp} {O:Nat→Option Addr} {b:Addr} {o:HO} (h:H b=some o) (n: ∀i,O i≠some b):Off H O b=some o:=by
 unfold Off
 rw[if_neg (fun⟨i,e⟩=>n i e)]
 exact h
theorem Off.not {H:Hp} {O:Nat→Option Addr} {b:Addr} {o:HO} (h:Off H O b=some o): ∀i,O i≠some b:=fun i e=>by
 unfold Off at h
 rw[if_pos ⟨i,e⟩] at h
 cases h
theorem Off.mono {H H':Hp} {O:Nat→Option Addr} (e:Same H H'):Same (Off H O) (Off H' O):=fun b o h=>Off.of (e _ _ (Off.same H O b o h)) (Off.not h)
theorem Off.less {H:Hp} {O O':Nat→Option Addr} (e: ∀i a,O' i=some a→∃j,O j=some a):Same (Off H O) (Off H O'):=fun b o h=>Off.of (Off.same H O b o h) fun i q=>by
 obtain⟨j,z⟩:=e i b q
 exact Off.not h j z
theorem Off.upd {H:Hp} {O:Nat→Option Addr} {a:Addr} {o:HO} {i:Nat} (h:O i=some a):Off (upd H a o) O=Off H O:=by
 funext b
 unfold Off
 by_cases q: ∃j,O j=some b
 ·rw[if_pos q,if_pos q]
 ·rw[if_neg q,if_neg q,aAk]
  intro z;subst z;exact q ⟨i,h⟩
noncomputable def mutO:HO→Bool
 | .lst _=>true
 | .ins _ _ _=>true
 | .dK _=>true
 | .dT _=>true
 | _=>false
noncomputable def OwnK (H:Hp) (O:Nat→Option Addr):Prop:= ∀i a,O i=some a→∃w,H a=some w∧mutO w=true
noncomputable def IsO (K:PySem.W.Frag) (H:Hp):DO→HO→Prop
 | .k kvs,.dK vs=>IsK K H kvs vs
 | .t kvs,.dT vs=>IsT K H kvs vs
 | _,_=>False
theorem IsO.mono {K:PySem.W.Frag} {H H':Hp} (e:Same H H') {o:DO} {w:HO} (h:IsO K H o w):IsO K H' o w:=by
 cases o<;>cases w<;>first | exact False.elim h | skip
 ·exact IsK.mono e h
 ·exact IsT.mono e h
theorem IsO.mut {K:PySem.W.Frag} {H:Hp} {o:DO} {w:HO} (h:IsO K H o w):mutO w=true:=by
 cases o<;>cases w<;>first | exact False.elim h | rfl
theorem IsO.is {K:PySem.W.Frag} {H:Hp} {o:DO} {w:HO} {a:Addr} (ha:H a=some w) (h:IsO K H o w):Is K H o.d (.ref a):=by
 cases o<;>cases w<;>first | exact False.elim h | skip
 ·exact .dk (.inl ha) h
 ·exact .dt ha h
theorem is_kD {K:PySem.W.Frag} {H:Hp} (k:Key):Is K H (kD k) (kV k):=by
 cases k
 ·exact .int _
 ·exact .str _
theorem isL_kD {K:PySem.W.Frag} {H:Hp}: ∀(ks:List Key),IsL K H (ks.map kD) (ks.map kV)
 | []=> .nil
 | k::ks=> .cons (is_kD k) (isL_kD ks)
theorem OwnK.mono {H H':Hp} {O:Nat→Option Addr} (e:Same H H') (h:OwnK H O):OwnK H' O:=fun i a q=>by
 obtain⟨w,h1,h2⟩:=h i a q
 exact⟨w,e _ _ h1,h2⟩
noncomputable def nx (n i j:Nat):Nat:=n*(j+1)+i
noncomputable def PV:NK→List Addr→HO→Prop
 | .l,bs,.lst vs=>vs=bs.map V.ref
 | .k ks,bs,.dK kvs=>ks.length=bs.length∧kvs=ks.zip (bs.map V.ref)
 | .t ks,bs,.dT kvs=>ks.length=bs.length∧kvs=ks.zip (bs.map V.ref)
 | _,_,_=>False
noncomputable def InL (K:PySem.W.Frag) (H:Hp) (O:Nat→Option Addr) (n i:Nat):Nat→List Addr→List (List D)→Prop
 | _,[],[]=>True
 | j,b::bs,ds::ls=>(O (nx n i j)=some b∧∃vs,H b=some (.lst vs)∧IsL K (Off H O) ds vs)∧InL K H O n i (j+1) bs ls
 | _,_,_=>False
theorem nx_le {n i:Nat} (j:Nat):n≤nx n i j:=by
 unfold nx
 rw[Nat.mul_add,Nat.mul_one]
 omega
theorem InL.move {K:PySem.W.Frag} {H H':Hp} {O O':Nat→Option Addr} {n i:Nat} (hO: ∀m b w,n≤m→O m=some b→H b=some w→O' m=some b∧H' b=some w) (sm:Same (Off H O) (Off H' O')): ∀{bs:List Addr} {ls:List (List D)} {j:Nat},InL K H O n i j bs ls→InL K H' O' n i j bs ls
 | [],[],_,_=>True.intro
 | b::bs,ds::ls,j,⟨⟨h1,vs,h2,h3⟩,h4⟩=>by
  obtain⟨e1,e2⟩:=hO _ b _ (nx_le j) h1 h2
  exact⟨⟨e1,vs,e2,h3.mono sm⟩,InL.move hO sm h4⟩
 | [],_::_,_,h=>False.elim h
 | _::_,[],_,h=>False.elim h
noncomputable def NL (K:PySem.W.Frag) (H:Hp) (O:Nat→Option Addr) (σ:St) (i:Nat) (kd:NK) (ls:List (List D)):Prop:=
 ∃a w bs,O i=some a∧σ[i]? =some (some (.ref a))∧H a=some w∧PV kd bs w∧InL K H O σ.length i 0 bs ls
theorem NL.move {K:PySem.W.Frag} {H H':Hp} {O O':Nat→Option Addr} {σ σ':St} {i:Nat} {kd:NK} {ls:List (List D)} (hl:σ'.length=σ.length) (hs:σ'[i]? =σ[i]?) (hO: ∀m b w,(m=i∨σ.length≤m)→O m=some b→H b=some w→O' m=some b∧H' b=some w) (sm:Same (Off H O) (Off H' O'))
  (h:NL K H O σ i kd ls):NL K H' O' σ' i kd ls:=by
 obtain⟨a,w,bs,h1,h2,h3,h4,h5⟩:=h
 obtain⟨e1,e2⟩:=hO i a w (.inl rfl) h1 h3
 refine⟨a,w,bs,e1,hs.trans h2,e2,h4,?_⟩
 rw[hl]
 exact InL.move (fun m b w hm=>hO m b w (.inr hm)) sm h5
noncomputable def Slot (K:PySem.W.Frag) (H:Hp) (O:Nat→Option Addr) (σ:St) (i:Nat):SV→Prop
 | .sh d=> ∃v,σ[i]? =some (some v)∧Is K (Off H O) d v
 | .own ds=> ∃a vs,O i=some a∧σ[i]? =some (some (.ref a))∧H a=some (.lst vs)∧IsL K (Off H O) ds vs
 | .oin a C dx fs=>O i=some a∧σ[i]? =some (some (.ref a))∧dx≠a∧(∃vs,H a=some (.ins C dx vs)∧IsF K (Off H O) fs vs)
 | .ow o=> ∃a w,O i=some a∧σ[i]? =some (some (.ref a))∧H a=some w∧IsO K (Off H O) o w
 | .tk ks=> ∃a,σ[i]? =some (some (.ref a))∧Off H O a=some (.tup (ks.map kV))
 | .nl kd ls=>NL K H O σ i kd ls
theorem inL_is {K:PySem.W.Frag} {H:Hp} {O:Nat→Option Addr} {n i:Nat}: ∀{bs:List Addr} {ls:List (List D)} {j:Nat},InL K H O n i j bs ls→IsL K H (ls.map D.lst) (bs.map V.ref)
 | [],[],_,_=> .nil
 | b::bs,ds::ls,j,⟨⟨_,vs,h2,h3⟩,h4⟩=> .cons (.lst (SqL.of h2) (h3.mono (Off.same _ _))) (inL_is h4)
 | [],_::_,_,h=>False.elim h
 | _::_,[],_,h=>False.elim h
theorem isK_zip {K:PySem.W.Frag} {H:Hp}: ∀{ks:List Key} {ds:List D} {vs:List V},IsL K H ds vs→IsK K H (ks.zip ds) (ks.zip vs)
 | [],_,_,_=> .nil
 | _::_,_,_,.nil=> .nil
 | _::_,_,_,.cons i r=> .cons i (isK_zip r)
theorem isT_zip {K:PySem.W.Frag} {H:Hp}: ∀{ks:List (List Key)} {ds:List D} {vs:List V},IsL K H ds vs→IsT K H (ks.zip ds) (ks.zip vs)
 | [],_,_,_=> .nil
 | _::_,_,_,.nil=> .nil
 | _::_,_,_,.cons i r=> .cons i (isT_zip r)
theorem NL.is {K:PySem.W.Frag} {H:Hp} {O:Nat→Option Addr} {σ:St} {i:Nat} {kd:NK} {ls:List (List D)} (h:NL K H O σ i kd ls): ∃v,σ[i]? =some (some v)∧Is K H (kd.d ls) v:=by
 obtain⟨a,w,bs,h1,h2,h3,h4,h5⟩:=h
 refine⟨.ref a,h2,?_⟩
 have z:=inL_is h5
 cases kd<;>cases w<;>first | exact False.elim h4 | skip
 ·cases h4;exact .lst (SqL.of h3) z
 ·cases h4.2;exact .dk (.inl h3) (isK_zip z)
 ·cases h4.2;exact .dt h3 (isT_zip z)
noncomputable def Rel (K:PySem.W.Frag) (H₀:Hp) (ρ:Rho) (σ:St) (H:Hp):Prop:=
 ∃O:Nat→Option Addr,(∀i j a,O i=some a→O j=some a→i=j)∧OwnK H O∧Same H₀ (Off H O)∧ρ.length=σ.length∧∀i sv,ρ[i]? =some (some sv)→Slot K H O σ i sv
section
variable {K:PySem.W.Frag} {H₀ H H':Hp} {ρ:Rho} {σ:St}
theorem Slot.mono {O:Nat→Option Addr} {i:Nat} {sv:SV} (e:Same H H') (h:Slot K H O σ i sv):Slot K H' O σ i sv:=by
 cases sv with
 | sh d=>obtain⟨v,h1,h2⟩:=h;exact⟨v,h1,h2.mono (Off.mono e)⟩
 | own ds=>obtain⟨a,vs,h1,h2,h3,h4⟩:=h;exact⟨a,vs,h1,h2,e _ _ h3,h4.mono (Off.mono e)⟩
 | oin a C dx fs=>obtain⟨h1,h2,h3,vs,h4,h5⟩:=h;exact⟨h1,h2,h3,vs,e _ _ h4,h5.mono (Off.mono e)⟩
 | ow o=>obtain⟨a,w,h1,h2,h3,h4⟩:=h;exact⟨a,w,h1,h2,e _ _ h3,h4.mono (Off.mono e)⟩
 | tk ks=>obtain⟨a,h1,h2⟩:=h;exact⟨a,h1,Off.mono e _ _ h2⟩
 | nl kd ls=>exact NL.move rfl rfl (fun m b w _ e1 e2=>⟨e1,e _ _ e2⟩) (Off.mono e) h
theorem Rel.mono (e:Same H H') (r:Rel K H₀ ρ σ H):Rel K H₀ ρ σ H':=by
 obtain⟨O,h1,ho,h2,hl,h3⟩:=r
 exact⟨O,h1,ho.mono e,h2.trans (Off.mono e),hl,fun i sv q=>(h3 i sv q).mono e⟩
theorem Rel.get (r:Rel K H₀ ρ σ H) {i:Nat} {sv:SV} (q:ρ[i]? =some (some sv)): ∃v,σ[i]? =some (some v)∧Is K H sv.cur v:=by
 obtain⟨O,h1,ho,h2,hl,h3⟩:=r
 have z:=h3 i sv q
 cases sv with
 | sh d=>obtain⟨v,e1,e2⟩:=z;exact⟨v,e1,e2.mono (Off.same _ _)⟩
 | own ds=>obtain⟨a,vs,e1,e2,e3,e4⟩:=z;exact⟨.ref a,e2,.lst (SqL.of e3) (e4.mono (Off.same _ _))⟩
 | oin a C dx fs=>obtain⟨e1,e2,e3,vs,e4,e5⟩:=z;exact⟨.ref a,e2,.obj e4 (e5.mono (Off.same _ _))⟩
 | ow o=>obtain⟨a,w,e1,e2,e3,e4⟩:=z;exact⟨.ref a,e2,(e4.mono (Off.same _ _)).is e3⟩
 | tk ks=>obtain⟨a,e1,e2⟩:=z;exact⟨.ref a,e1,.tup (TQ.of (Off.same _ _ _ _ e2)) (isL_kD ks)⟩
 | nl kd ls=>exact NL.is z
theorem Rel.kept (r:Rel K H₀ ρ σ H):Same H₀ H:=by
 obtain⟨O,h1,ho,h2,_⟩:=r
 exact h2.trans (Off.same _ _)
end
mutual
noncomputable def D.imm:D→Bool
 | .non=>true | .bl _=>true | .int _=>true | .str _=>true
 | .tup ds=>immL ds
 | .lst _=>false
 | .obj _ _=>false
 | .dk _=>false
 | .dt _=>false
 | .exc _=>false
 | .set _=>false
noncomputable def immL:List D→Bool
 | []=>true
 | d::ds=>d.imm&&immL ds
end
section
variable {K:PySem.W.Frag} {H H':Hp}
theorem Is.alike (ht: ∀b xs,H b=some (.tup xs)→H' b=some (.tup xs)) (hf: ∀b o u,H b=some (.frz o u)→H' b=some (.frz o u)) {d:D} {v:V} (q:d.imm=true) (h:Is K H d v):Is K H' d v:=
 Is.rec (motive_1:=fun d v _=>d.imm=true→Is K H' d v) (motive_2:=fun _ _ _=>True) (motive_3:=fun _ _ _=>True) (motive_4:=fun ds vs _=>immL ds=true→IsL K H' ds vs) (motive_5:=fun _ _ _=>True)
  (fun _=> .non) (fun b _=> .bl b) (fun i _=> .int i) (fun x _=> .str x) (fun h _ r q=> .tup (ht _ _ h) (r q)) (fun _ _ _ q=>Bool.noConfusion (show false=true from q)) (fun _ _ _ q=>Bool.noConfusion (show false=true from q)) (fun _ _ _ q=>Bool.noConfusion (show false=true from q)) (fun _ _ _ q=>Bool.noConfusion (show false=true from q)) (fun _ q=>Bool.noConfusion (show false=true from q)) (fun _ q=>Bool.noConfusion (show false=true from q))
  trivial (fun _ _ _ _=>trivial) trivial (fun _ _ _ _=>trivial) (fun _=> .nil) (fun _ _ i r q=> .cons (i (Bool.and_eq_true_iff.mp q).1) (r (Bool.and_eq_true_iff.mp q).2)) trivial (fun _ _ _ _=>trivial) h q
theorem IsL.alike (ht: ∀b xs,H b=some (.tup xs)→H' b=some (.tup xs)) (hf: ∀b o u,H b=some (.frz o u)→H' b=some (.frz o u)): ∀{ds:List D} {vs:List V},immL ds=true→IsL K H ds vs→IsL K H' ds vs:=by
 intro ds
 induction ds with
 | nil=>intro vs q h;cases h;exact .nil
 | cons d ds ih=>
  intro vs q h
  rw[immL,Bool.and_eq_true] at q
  cases h with | cons i r=>exact .cons (Is.alike ht hf q.1 i) (ih q.2 r)
theorem off_imm {O:Nat→Option Addr} (ho:OwnK H O) {d:D} {v:V} (q:d.imm=true) (h:Is K H d v):Is K (Off H O) d v:=by
 refine Is.alike (fun b xs e=>Off.of e fun i z=> ?_) (fun b o u e=>Off.of e fun i z=> ?_) q h
 ·obtain⟨u,w,m⟩:=ho i b z;rw[w] at e;cases e;cases m
 ·obtain⟨u,w,m⟩:=ho i b z;rw[w] at e;cases e;cases m
theorem offL_imm {O:Nat→Option Addr} (ho:OwnK H O) {ds:List D} {vs:List V} (q:immL ds=true) (h:IsL K H ds vs):IsL K (Off H O) ds vs:=by
 refine IsL.alike (fun b xs e=>Off.of e fun i z=> ?_) (fun b o u e=>Off.of e fun i z=> ?_) q h
 ·obtain⟨u,w,m⟩:=ho i b z;rw[w] at e;cases e;cases m
 ·obtain⟨u,w,m⟩:=ho i b z;rw[w] at e;cases e;cases m
end
noncomputable abbrev M (α:Type):=Option (Except Addr α)
noncomputable def ok {α:Type} (a:α):M α:=some (.ok a)
noncomputable def err {α:Type} (c:Addr):M α:=some (.error c)
noncomputable def bnd {α β:Type} (m:M α) (k:α→M β):M β:=match m with
 | none=>none
 | some (.error c)=>some (.error c)
 | some (.ok a)=>k a
@[simp] theorem aDk {α β:Type} (a:α) (k:α→M β):bnd (ok a) k=k a:=rfl
@[simp] theorem bnd_err {α β:Type} (c:Addr) (k:α→M β):bnd (err c:M α) k=err c:=rfl
@[simp] theorem bnd_none {α β:Type} (k:α→M β):bnd (none:M α) k=none:=rfl
theorem aBo {α:Type} {a b:α} (h:ok a=ok b):a=b:=by cases h;rfl
theorem bnd_eq_ok {α β:Type} {m:M α} {k:α→M β} {b:β} (h:bnd m k=ok b): ∃a,m=ok a∧k a=ok b:=by
 unfold bnd at h
 split at h
 ·cases h
 ·cases h
 ·exact⟨_,rfl,h⟩
noncomputable def Fly (P:Program) (w:World) (outer:List Env) (s:Shared) (ea c:Addr) (H':Hp) (s':Shared):Prop:=
 ∃Bs a0,Heap.FlyingW Bs outer ea (.ref c) a0 s'.heap∧(∀b o o',s.heap.get? b=some o'→b∉frs outer→s'.heap.get? b=some o→Bs.get? b=some o)∧HOk P w H' Bs
noncomputable def Exc (X:Cx) (pins:List (Addr×Obj)) (σ:St) (H:Hp) (c:Addr) (e:Value) (s:Shared):Prop:= ∃ea,e= .ref ea∧
 ((∃h args,Heap.MadeExcOf h s.heap ea (.ref c) args∧Inv X pins σ H {s with heap:=h})∨
  (∃s1 H1,Inv X pins σ H1 s1∧s.os=s1.os∧AllBare s.gens∧Un (frs X.stack) [] H1 H s1.heap s.heap∧Fly X.prog X.w X.stack s1 ea c H s))
noncomputable def Thr (X:Cx) (σ:St) (H:Hp) (c:Addr):Prop:= ∀(pins:List (Addr×Obj)) (s:Shared) (H':Hp) (e:Value),Same H H'→Exc X pins σ H' c e s→X.xe e s
theorem Thr.mono {X:Cx} {σ:St} {H H':Hp} {c:Addr} (e:Same H H') (t:Thr X σ H c):Thr X σ H' c:=fun pins s H2 ev q x=>t pins s H2 ev (e.trans q) x
noncomputable def Res {α:Type} (X:Cx) (σ:St) (H:Hp) (Q:α→Prop) (m:M α):Prop:=match m with
 | none=>False
 | some (.error c)=>Thr X σ H c
 | some (.ok a)=>Q a
theorem Res.bind {α β:Type} {X:Cx} {σ:St} {H:Hp} {Q:β→Prop} {m:M α} {k:α→M β} (h:Res X σ H Q (bnd m k)):Res X σ H (fun a=>Res X σ H Q (k a)) m:=by
 unfold bnd at h
 split at h
 ·exact h
 ·exact h
 ·exact h
theorem Res.mono {α:Type} {X:Cx} {σ:St} {H H':Hp} {Q Q':α→Prop} {m:M α} (e:Same H H') (h:Res X σ H Q m) (i: ∀a,Q a→Q' a):Res X σ H' Q' m:=by
 unfold Res at*
 split at h
 ·exact h
 ·exact Thr.mono e h
 ·exact i _ h
theorem Res.imp {α:Type} {X:Cx} {σ:St} {H:Hp} {Q Q':α→Prop} {m:M α} (h:Res X σ H Q m) (i: ∀a,Q a→Q' a):Res X σ H Q' m:=h.mono (Same.refl H) i
noncomputable def tD (X:Cx) (B:Hp) (f:Rho→M D):TE:=fun σ H Q=> ∃ρ,Rel X.K B ρ σ H∧Res X σ H (fun d=> ∀v H',Same H H'→Is X.K H' d v→Q v H') (f ρ)
noncomputable def tDT (X:Cx) (B:Hp) (f:Rho→M Bool):TT:=fun σ H Q=> ∃ρ,Rel X.K B ρ σ H∧Res X σ H (fun b=> ∀H',Same H H'→Q b H') (f ρ)
noncomputable def tDA (X:Cx) (B:Hp) (f:Rho→M (List D)):TA:=fun σ H Q=> ∃ρ,Rel X.K B ρ σ H∧Res X σ H (fun ds=> ∀vs H',Same H H'→IsL X.K H' ds vs→Q vs H') (f ρ)
noncomputable abbrev PD (X:Cx) (B:Hp) (e:Expr) (f:Rho→M D):Prop:=PE X e (tD X B f)
noncomputable abbrev PDT (X:Cx) (B:Hp) (e:Expr) (f:Rho→M Bool):Prop:=PT X e (tDT X B f)
noncomputable abbrev PDW (X:Cx) (B:Hp) (e:Expr) (f:Rho→M Bool):Prop:=PW X e (tDT X B f)
noncomputable abbrev PDA (X:Cx) (B:Hp) (es:List Expr) (f:Rho→M (List D)):Prop:=PA X es (tDA X B f)
section
variable {X:Cx} {B:Hp} {e a b c:Expr} {es:List Expr} {pos:Pos}
theorem PE.of {t t':TE} (h:PE X e t) (i: ∀σ H Q,t' σ H Q→t σ H Q):PE X e t':=fun pins s σ H Q I q=>h pins s σ H Q I (i σ H Q q)
theorem PT.of {t t':TT} (h:PT X e t) (i: ∀σ H Q,t' σ H Q→t σ H Q):PT X e t':=fun pins s σ H Q I q=>h pins s σ H Q I (i σ H Q q)
theorem PW.of {t t':TT} (h:PW X e t) (i: ∀σ H Q,t' σ H Q→t σ H Q):PW X e t':=fun wh pins s σ H Q I q=>h wh pins s σ H Q I (i σ H Q q)
theorem PA.of {t t':TA} (h:PA X es t) (i: ∀σ H Q,t' σ H Q→t σ H Q):PA X es t':=fun pos pins s σ H Q I q=>h pos pins s σ H Q I (i σ H Q q)
noncomputable def look (i:Nat):Rho→M D:=fun ρ=>match ρ[i]? with
 | some (some sv)=>ok sv.cur
 | _=>none
theorem aAb (i:Nat) {x:Str} {pos:Pos} (hN:X.N[i]? =some x:=by rfl) (hv:Vis X.env.scope x:=by first | exact Or.inl rfl | exact Or.inr (Or.inl rfl) | exact Or.inr (Or.inr rfl)) (hd:(x==("__debug__":Str))=false:=by decide)
  (hcd:(x==("__classdict__":Str))=false:=by decide):PD X B (.Name x pos) (look i):=by
 refine PE.of (pe_var hN hv hd hcd) fun σ H Q h=> ?_
 obtain⟨ρ,r,h⟩:=h
 unfold look at h
 split at h
 ·rename_i sv q
  obtain⟨v,e1,e2⟩:=r.get q
  exact⟨v,e1,h v H (Same.refl H) e2⟩
 ·exact False.elim h
noncomputable def con (d:D):Rho→M D:=fun _=>ok d
theorem aAu {i j pos}:PD X B (.Constant (.int i) j pos) (con (.int i)):=PE.of pe_int fun σ H Q ⟨ρ,r,h⟩=>h _ H (Same.refl H) (.int i)
theorem pd_bl {i j pos}:PD X B (.Constant (.bool i) j pos) (con (.bl i)):=PE.of pe_bl fun σ H Q ⟨ρ,r,h⟩=>h _ H (Same.refl H) (.bl i)
theorem pd_non {j pos}:PD X B (.Constant .none j pos) (con .non):=PE.of pe_non fun σ H Q ⟨ρ,r,h⟩=>h _ H (Same.refl H) .non
theorem pd_str {x j pos}:PD X B (.Constant (.str x) j pos) (con (.str x)):=PE.of pe_str fun σ H Q ⟨ρ,r,h⟩=>h _ H (Same.refl H) (.str x)
noncomputable def b2 (g:D→D→M D) (fa fb:Rho→M D):Rho→M D:=fun ρ=>bnd (fa ρ) fun x=>bnd (fb ρ) fun y=>g x y
noncomputable def R2ok (X:Cx) (r:R2) (g:D→D→M D):Prop:= ∀(H:Hp) (x y:V) (dx dy d:D) (Q:VK),Is X.K H dx x→Is X.K H dy y→g dx dy=ok d→(∀v H',Same H H'→Is X.K H' d v→Q v H')→r x y H Q
noncomputable def NoErr {α β:Type} (g:α→β→M D):Prop:= ∀x y c,g x y≠err c
variable {fa fb fc:Rho→M D}
theorem b2_red {r:R2} {g:D→D→M D} (hg:R2ok X r g) (hn:NoErr g) {σ:St} {H:Hp} {Q:VK} (h:tD X B (b2 g fa fb) σ H Q):tOp r (tD X B fa) (tD X B fb) σ H Q:=by
 obtain⟨ρ,r1,h⟩:=h
 refine⟨ρ,r1,(Res.bind h).imp fun dx h1 v H1 e1 i1=>⟨ρ,r1.mono e1,(Res.bind h1).mono e1 fun dy h2 u H2 e2 i2=> ?_⟩⟩
 cases q:g dx dy with
 | none=>rw[q] at h2;exact False.elim h2
 | some z=>
  cases z with
  | error c=>exact absurd q (hn dx dy c)
  | ok d=>
   rw[q] at h2
   exact hg H2 v u dx dy d Q (i1.mono e2) i2 q fun w H3 e3 i3=>h2 w H3 ((e1.trans e2).trans e3) i3
theorem pd_op {op:Operator} {r:R2} {g:D→D→M D} (ho:OpR X (binaryOp op) r) (hg:R2ok X r g) (hn:NoErr g) (ha:PD X B a fa) (hb:PD X B b fb):PD X B (.BinOp a op b pos) (b2 g fa fb):=
 PE.of (pe_op ho ha hb) fun _ _ _ h=>b2_red hg hn h
theorem pd_cmp {op:CmpOp} {r:R2} {g:D→D→M D} (ho:OpR X (compareOp op) r) (hg:R2ok X r g) (hn:NoErr g) (ha:PD X B a fa) (hb:PD X B b fb) (hm:behindInMarks op b=false):PD X B (.Compare a [op] [b] pos) (b2 g fa fb):=
 PE.of (pe_cmpR ho ha hb hm) fun _ _ _ h=>b2_red hg hn h
noncomputable def tru:D→M Bool
 | .non=>ok false
 | .bl b=>ok b
 | .int i=>ok (i !=0)
 | .tup ds=>ok (!ds.isEmpty)
 | .lst ds=>ok (!ds.isEmpty)
 | _=>none
noncomputable def blOf:D→M Bool
 | .bl b=>ok b
 | _=>none
noncomputable def test (f:Rho→M D):Rho→M Bool:=fun ρ=>bnd (f ρ) tru
noncomputable def aAy (f:Rho→M D):Rho→M Bool:=fun ρ=>bnd (f ρ) blOf
theorem pdt_cmp {op:CmpOp} {r:R2} {g:D→D→M D} (ho:OpR X (compareOp op) r) (hg:R2ok X r g) (hn:NoErr g) (ha:PD X B a fa) (hb:PD X B b fb) (hm:behindInMarks op b=false):PDT X B (.Compare a [op] [b] pos) (aAy (b2 g fa fb)):=by
 refine PT.of (pt_cmpR ho ha hb hm) fun σ H Q h=> ?_
 obtain⟨ρ,r1,h⟩:=h
 refine b2_red hg hn ⟨ρ,r1,(Res.bind h).imp fun d h1 v H1 e1 i1=> ?_⟩
 unfold blOf at h1
 split at h1
 ·rename_i k
  cases i1
  exact⟨k,rfl,h1 H1 e1⟩
 ·exact False.elim h1
theorem isEmpty_isL {K:PySem.W.Frag} {H:Hp} {ds:List D} {vs:List V} (r:IsL K H ds vs):vs.isEmpty=ds.isEmpty:=by cases r<;>rfl
theorem tru_V {K:PySem.W.Frag} {H:Hp} {d:D} {v:V} {k:Bool} (i:Is K H d v) (h:tru d=ok k):TruV K v H k:=by
 cases i with
 | non=>exact (aBo h).symm
 | bl b=>exact (aBo h).symm
 | int i=>exact (aBo h).symm
 | str x=>exact absurd h (by simp[tru,ok])
 | tup h1 r=>exact .inr (.inl ⟨_,h1,by rw[isEmpty_isL r];exact (aBo h).symm⟩)
 | lst h1 r=>exact .inl ⟨_,h1,by rw[isEmpty_isL r];exact (aBo h).symm⟩
 | obj h1 r=>exact absurd h (by simp[tru,ok])
 | dk h1 r=>exact absurd h (by simp[tru,ok])
 | dt h1 r=>exact absurd h (by simp[tru,ok])
 | exc h1=>exact absurd h (by simp[tru,ok])
 | set h1=>exact absurd h (by simp[tru,ok])
theorem tru_noerr (d:D) (c:Addr):tru d≠err c:=by cases d<;>simp[tru,ok,err]
theorem aDo (ha:PD X B a fa) (he: ∀whole,isTrue a X.env whole=(do let v←whole;standAt a.pos;holding [v] (truthy v)):=by intro _;rfl):PDT X B a (test fa):=by
 refine PT.of (pt_truth ha he) fun σ H Q h=> ?_
 obtain⟨ρ,r1,h⟩:=h
 refine⟨ρ,r1,(Res.bind h).imp fun d h1 v H1 e1 i1=> ?_⟩
 cases q:tru d with
 | none=>rw[q] at h1;exact False.elim h1
 | some z=>
  cases z with
  | error c=>exact absurd q (tru_noerr d c)
  | ok k=>rw[q] at h1;exact⟨k,tru_V i1 q,h1 H1 e1⟩
variable {ta tb tc:Rho→M Bool} {rest:List Expr}
noncomputable def andB (f g:Rho→M Bool):Rho→M Bool:=fun ρ=>bnd (f ρ) fun x=>if x=true then g ρ else ok false
noncomputable def orB (f g:Rho→M Bool):Rho→M Bool:=fun ρ=>bnd (f ρ) fun x=>if x=true then ok true else g ρ
noncomputable def notB (f:Rho→M Bool):Rho→M Bool:=fun ρ=>bnd (f ρ) fun x=>ok (!x)
theorem pdw_and1 (ha:PDT X B a ta):PDW X B (.BoolOp .And [a] pos) ta:=pw_and1 ha
theorem pdw_or1 (ha:PDT X B a ta):PDW X B (.BoolOp .Or [a] pos) ta:=pw_or1 ha
theorem pdw_and (ha:PDT X B a ta) (hb:PDW X B (.BoolOp .And (b::rest) pos) tb):PDW X B (.BoolOp .And (a::b::rest) pos) (andB ta tb):=by
 refine PW.of (pw_and ha hb) fun σ H Q h=> ?_
 obtain⟨ρ,r1,h⟩:=h
 refine⟨ρ,r1,(Res.bind h).imp fun x h1 H1 e1=> ?_⟩
 cases x with
 | true=>exact⟨ρ,r1.mono e1,Res.mono e1 h1 fun y q H2 e2=>q H2 (e1.trans e2)⟩
 | false=>exact h1 H1 e1
theorem pdw_or (ha:PDT X B a ta) (hb:PDW X B (.BoolOp .Or (b::rest) pos) tb):PDW X B (.BoolOp .Or (a::b::rest) pos) (orB ta tb):=by
 refine PW.of (pw_or ha hb) fun σ H Q h=> ?_
 obtain⟨ρ,r1,h⟩:=h
 refine⟨ρ,r1,(Res.bind h).imp fun x h1 H1 e1=> ?_⟩
 cases x with
 | false=>exact⟨ρ,r1.mono e1,Res.mono e1 h1 fun y q H2 e2=>q H2 (e1.trans e2)⟩
 | true=>exact h1 H1 e1
theorem PDW.pdt {f:Rho→M Bool} (h:PDW X B e f):PDT X B e f:=h.pt
theorem pdt_not (ha:PDT X B a ta):PDT X B (.UnaryOp .Not a pos) (notB ta):=by
 refine PT.of (pt_not ha) fun σ H Q h=> ?_
 obtain⟨ρ,r1,h⟩:=h
 exact⟨ρ,r1,(Res.bind h).imp fun x h1 H1 e1=>h1 H1 e1⟩
noncomputable def andV (f g:Rho→M D):Rho→M D:=fun ρ=>bnd (f ρ) fun x=>bnd (blOf x) fun k=>if k=true then g ρ else ok (.bl false)
noncomputable def orV (f g:Rho→M D):Rho→M D:=fun ρ=>bnd (f ρ) fun x=>bnd (blOf x) fun k=>if k=true then ok (.bl true) else g ρ
theorem blOf_res {σ:St} {H:Hp} {Q:Bool→Prop} {d:D} (h:Res X σ H Q (blOf d)): ∃k,d= .bl k∧Q k:=by
 unfold blOf at h
 split at h
 ·exact⟨_,rfl,h⟩
 ·exact False.elim h
theorem pd_one {op} (h:PD X B a fa):PD X B (.BoolOp op [a] pos) fa:=pe_one h
theorem pd_and (ha:PD X B a fa) (hb:PD X B (.BoolOp .And (b::rest) pos) fb):PD X B (.BoolOp .And (a::b::rest) pos) (andV fa fb):=by
 refine PE.of (pe_and ha hb) fun σ H Q h=> ?_
 obtain⟨ρ,r1,h⟩:=h
 refine⟨ρ,r1,(Res.bind h).imp fun d h1 v H1 e1 i1=> ?_⟩
 obtain⟨k,rfl,h2⟩:=blOf_res (Res.bind h1)
 cases i1
 refine⟨k,rfl,?_⟩
 cases k with
 | true=>exact⟨ρ,r1.mono e1,Res.mono e1 h2 fun y q u H2 e2 i2=>q u H2 (e1.trans e2) i2⟩
 | false=>exact h2 _ H1 e1 (.bl false)
theorem pd_or (ha:PD X B a fa) (hb:PD X B (.BoolOp .Or (b::rest) pos) fb):PD X B (.BoolOp .Or (a::b::rest) pos) (orV fa fb):=by
 refine PE.of (pe_or ha hb) fun σ H Q h=> ?_
 obtain⟨ρ,r1,h⟩:=h
 refine⟨ρ,r1,(Res.bind h).imp fun d h1 v H1 e1 i1=> ?_⟩
 obtain⟨k,rfl,h2⟩:=blOf_res (Res.bind h1)
 cases i1
 refine⟨k,rfl,?_⟩
 cases k with
 | false=>exact⟨ρ,r1.mono e1,Res.mono e1 h2 fun y q u H2 e2 i2=>q u H2 (e1.trans e2) i2⟩
 | true=>exact h2 _ H1 e1 (.bl true)
noncomputable def aB4:Expr→Bool
 | .Starred .. =>false
 | _=>true
theorem aAx {e:Expr} {es:List Expr} {env:Env} (h:aB4 e=true):starEach (e::es) env=(false,eval e env)::starEach es env:=by
 cases e<;>first | rfl | cases h
theorem star1 {e:Expr} {env:Env} (h:aB4 e=true):starEach [e] env=[(false,eval e env)]:=aAx h
theorem star2 {e f:Expr} {env:Env} (h:aB4 e=true) (h':aB4 f=true):starEach [e,f] env=[(false,eval e env),(false,eval f env)]:=by rw[aAx h,star1 h']
noncomputable def aAv:Rho→M (List D):=fun _=>ok []
noncomputable def aAc (f:Rho→M D) (g:Rho→M (List D)):Rho→M (List D):=fun ρ=>bnd (f ρ) fun x=>bnd (g ρ) fun xs=>ok (x::xs)
variable {ga:Rho→M (List D)}
theorem aAl:PDA X B [] aAv:=PA.of aBx fun σ H Q ⟨ρ,r,h⟩=>h [] H (Same.refl H) .nil
theorem aAd (ha:PD X B e fa) (hr:PDA X B es ga) (hs:starEach (e::es) X.env=(false,eval e X.env)::starEach es X.env:=by exact aAx rfl):PDA X B (e::es) (aAc fa ga):=by
 refine PA.of (aA4 ha hr hs) fun σ H Q h=> ?_
 obtain⟨ρ,r1,h⟩:=h
 refine⟨ρ,r1,(Res.bind h).imp fun d h1 v H1 e1 i1=>⟨ρ,r1.mono e1,(Res.bind h1).mono e1 fun ds h2 vs H2 e2 i2=> ?_⟩⟩
 exact h2 (v::vs) H2 (e1.trans e2) (.cons (i1.mono e2) i2)
theorem aAn {H:Hp} {p:Addr} (h:H p=none) (o:HO):Same H (upd H p o):=fun b u q=>by rw[aAk (aCc q h)];exact q
noncomputable def mkT (g:Rho→M (List D)):Rho→M D:=fun ρ=>bnd (g ρ) fun ds=>if ds.length≤1000 then ok (.tup ds) else none
noncomputable def mkL (g:Rho→M (List D)):Rho→M D:=fun ρ=>bnd (g ρ) fun ds=>if ds.length≤1000 then ok (.lst ds) else none
theorem le_line {n:Nat} (h:n≤1000):n≤sizeLine:=Nat.le_of_lt (small1000 h)
theorem pd_tup {x1} (h:PDA X B es ga):PD X B (.Tuple es x1 pos) (mkT ga):=by
 refine PE.of (pe_tup h) fun σ H Q h=> ?_
 obtain⟨ρ,r1,h⟩:=h
 refine⟨ρ,r1,(Res.bind h).imp fun ds h1 vs H1 e1 i1=> ?_⟩
 by_cases hl:ds.length≤1000
 ·rw[if_pos hl] at h1
  exact⟨by rw[←i1.length];exact le_line hl,fun p hp=>h1 _ _ (e1.trans (aAn hp _)) (.tup (TQ.of aAi) (i1.mono (aAn hp _)))⟩
 ·rw[if_neg hl] at h1;exact False.elim h1
theorem pd_lst (h:PDA X B es ga):PD X B (.List es pos) (mkL ga):=by
 refine PE.of (pe_lst h) fun σ H Q h=> ?_
 obtain⟨ρ,r1,h⟩:=h
 refine⟨ρ,r1,(Res.bind h).imp fun ds h1 vs H1 e1 i1=> ?_⟩
 by_cases hl:ds.length≤1000
 ·rw[if_pos hl] at h1
  exact⟨by rw[←i1.length];exact le_line hl,fun p hp=>h1 _ _ (e1.trans (aAn hp _)) (.lst (SqL.of aAi) (i1.mono (aAn hp _)))⟩
 ·rw[if_neg hl] at h1;exact False.elim h1
end
noncomputable def gSub:D→D→M D
 | .int i,.int j=>ok (.int (i-j))
 | _,_=>none
noncomputable def mulB (i j:Int):Bool:=decide (Builtin.Int.intBits i≤1048576)&&decide (Builtin.Int.intBits j≤1048576)
noncomputable def gMul:D→D→M D
 | .int i,.int j=>if mulB i j=true then ok (.int (i*j)) else none
 | _,_=>none
noncomputable def aD8:D→D→M D
 | .int i,.int j=>if 0<j∧j<1073741824 then ok (.int (i/j)) else none
 | _,_=>none
noncomputable def gMod:D→D→M D
 | .int i,.int j=>if 0<j then ok (.int (i%j)) else none
 | _,_=>none
noncomputable def gPow:D→D→M D
 | .int i,.int j=>if 0≤j∧j≤1000∧i.natAbs<1000 then ok (.int (i^j.toNat)) else none
 | _,_=>none
section
variable {X:Cx} {B:Hp} {a b:Expr} {fa fb:Rho→M D} {pos:Pos}
theorem mulB_ok {i j:Int} (h:mulB i j=true):IntMulOk i j:=by
 unfold mulB at h
 rw[Bool.and_eq_true] at h
 exact IntMulOk.of_bits (of_decide_eq_true h.1) (of_decide_eq_true h.2)
theorem op_mulB:OpR X (binaryOp .Mult) (rI (fun i j=>mulB i j=true) fun i j=> .int (i*j)):=opI fun _ _ _ _ _ _ _ hc q=>mul_int q (mulB_ok hc)
theorem r_int0 {h:Int→Int→Int} {g:D→D→M D} (hg: ∀dx dy d,g dx dy=ok d→∃i j,dx= .int i∧dy= .int j∧d= .int (h i j)):R2ok X (rI0 fun i j=> .int (h i j)) g:=by
 intro H x y dx dy d Q ix iy e q
 obtain⟨i,j,rfl,rfl,rfl⟩:=hg _ _ _ e
 cases ix;cases iy
 exact⟨i,j,rfl,rfl,q _ H (Same.refl H) (.int _)⟩
theorem r_int {C:Int→Int→Prop} {h:Int→Int→Int} {g:D→D→M D} (hg: ∀dx dy d,g dx dy=ok d→∃i j,dx= .int i∧dy= .int j∧C i j∧d= .int (h i j)):R2ok X (rI C fun i j=> .int (h i j)) g:=by
 intro H x y dx dy d Q ix iy e q
 obtain⟨i,j,rfl,rfl,c,rfl⟩:=hg _ _ _ e
 cases ix;cases iy
 exact⟨i,j,rfl,rfl,c,q _ H (Same.refl H) (.int _)⟩
theorem pd_sub (ha:PD X B a fa) (hb:PD X B b fb):PD X B (.BinOp a .Sub b pos) (b2 gSub fa fb):=
 pd_op op_sub (r_int0 fun dx dy d e=>by
  unfold gSub at e
  split at e<;>first |(cases e;done) | exact⟨_,_,rfl,rfl,(aBo e).symm⟩) (by intro x y c h;unfold gSub at h;(repeat' split at h)<;>cases h) ha hb
theorem pd_fdiv (ha:PD X B a fa) (hb:PD X B b fb):PD X B (.BinOp a .FloorDiv b pos) (b2 aD8 fa fb):=
 pd_op op_fdiv (r_int fun dx dy d e=>by
  unfold aD8 at e
  split at e<;>first |(cases e;done) | skip
  split at e
  ·rename_i h;exact⟨_,_,rfl,rfl,h,(aBo e).symm⟩
  ·exact nomatch e) (by intro x y c h;unfold aD8 at h;(repeat' split at h)<;>cases h) ha hb
theorem pd_mod (ha:PD X B a fa) (hb:PD X B b fb):PD X B (.BinOp a .Mod b pos) (b2 gMod fa fb):=
 pd_op op_mod (r_int fun dx dy d e=>by
  unfold gMod at e
  split at e<;>first |(cases e;done) | skip
  split at e
  ·rename_i h;exact⟨_,_,rfl,rfl,h,(aBo e).symm⟩
  ·exact nomatch e) (by intro x y c h;unfold gMod at h;(repeat' split at h)<;>cases h) ha hb
theorem pd_pow (ha:PD X B a fa) (hb:PD X B b fb):PD X B (.BinOp a .Pow b pos) (b2 gPow fa fb):=
 pd_op op_pow (r_int fun dx dy d e=>by
  unfold gPow at e
  split at e<;>first |(cases e;done) | skip
  split at e
  ·rename_i h;exact⟨_,_,rfl,rfl,⟨h.1,by omega,by have:=h.2.2;omega⟩,(aBo e).symm⟩
  ·exact nomatch e) (by intro x y c h;unfold gPow at h;(repeat' split at h)<;>cases h) ha hb
noncomputable def gLt:D→D→M D
 | .int i,.int j=>ok (.bl (decide (i<j)))
 | _,_=>none
noncomputable def gGt:D→D→M D
 | .int i,.int j=>ok (.bl (decide (j<i)))
 | _,_=>none
noncomputable def eqF:D→D→Option Bool
 | .non,.non=>some true
 | .non,.int _=>some false
 | .int _,.non=>some false
 | .non,.bl _=>some false
 | .bl _,.non=>some false
 | .non,.str _=>some false
 | .str _,.non=>some false
 | .int i,.int j=>some (decide (i=j))
 | .bl i,.bl j=>some (decide (i=j))
 | .str i,.str j=>some (decide (i=j))
 | .int _,.str _=>some false
 | .str _,.int _=>some false
 | .bl _,.str _=>some false
 | .str _,.bl _=>some false
 | _,_=>none
noncomputable def gEq (x y:D):M D:=match eqF x y with
 | some b=>ok (.bl b)
 | none=>none
noncomputable def gNe (x y:D):M D:=match eqF x y with
 | some b=>ok (.bl (!b))
 | none=>none
noncomputable def isNon:D→Bool
 | .non=>true
 | _=>false
noncomputable def gIs:D→D→M D
 | x,.non=>ok (.bl (isNon x))
 | _,_=>none
theorem r_intB {h:Int→Int→Bool} {g:D→D→M D} (hg: ∀dx dy d,g dx dy=ok d→∃i j,dx= .int i∧dy= .int j∧d= .bl (h i j)):R2ok X (rI0 fun i j=> .bl (h i j)) g:=by
 intro H x y dx dy d Q ix iy e q
 obtain⟨i,j,rfl,rfl,rfl⟩:=hg _ _ _ e
 cases ix;cases iy
 exact⟨i,j,rfl,rfl,q _ H (Same.refl H) (.bl _)⟩
theorem r_lt:R2ok X (rI0 fun i j=> .bl (decide (i<j))) gLt:=r_intB fun dx dy d e=>by
  unfold gLt at e
  split at e<;>first |(cases e;done) | exact⟨_,_,rfl,rfl,(aBo e).symm⟩
theorem r_gt:R2ok X (rI0 fun i j=> .bl (decide (j<i))) gGt:=r_intB fun dx dy d e=>by
  unfold gGt at e
  split at e<;>first |(cases e;done) | exact⟨_,_,rfl,rfl,(aBo e).symm⟩
theorem n_lt:NoErr gLt:=by intro x y c h;unfold gLt at h;split at h<;>cases h
theorem n_gt:NoErr gGt:=by intro x y c h;unfold gGt at h;split at h<;>cases h
theorem n_is:NoErr gIs:=by intro x y c;cases y<;>(intro h;exact nomatch h)
theorem n_eq:NoErr gEq:=by intro x y c h;unfold gEq at h;split at h<;>exact nomatch h
theorem n_ne:NoErr gNe:=by intro x y c h;unfold gNe at h;split at h<;>exact nomatch h
theorem eqF_V {K:PySem.W.Frag} {H:Hp} {dx dy:D} {x y:V} {b:Bool} (ix:Is K H dx x) (iy:Is K H dy y) (e:eqF dx dy=some b):scal x y=true∧decide (x=y)=b:=by
 cases ix with
 | non=>cases iy<;>first |(cases e;done) |(have e':=Option.some.inj e;subst e';exact⟨rfl,by simp⟩)
 | bl=>cases iy<;>first |(cases e;done) |(have e':=Option.some.inj e;subst e';exact⟨rfl,by simp⟩)
 | int=>cases iy<;>first |(cases e;done) |(have e':=Option.some.inj e;subst e';exact⟨rfl,by simp⟩)
 | str=>cases iy<;>first |(cases e;done) |(have e':=Option.some.inj e;subst e';exact⟨rfl,by simp⟩)
 | _=>exact nomatch e
theorem r_eq:R2ok X rEq gEq:=by
 intro H x y dx dy d Q ix iy e q
 unfold gEq at e
 split at e
 ·rename_i b hb
  obtain⟨h1,h2⟩:=eqF_V ix iy hb
  have e':=aBo e;subst e'
  exact⟨h1,by rw[h2];exact q _ H (Same.refl H) (.bl _)⟩
 ·exact nomatch e
theorem r_ne:R2ok X rNe gNe:=by
 intro H x y dx dy d Q ix iy e q
 unfold gNe at e
 split at e
 ·rename_i b hb
  obtain⟨h1,h2⟩:=eqF_V ix iy hb
  have e':=aBo e;subst e'
  exact⟨h1,by rw[h2];exact q _ H (Same.refl H) (.bl _)⟩
 ·exact nomatch e
theorem isNon_V {K:PySem.W.Frag} {H:Hp} {dx:D} {x:V} (ix:Is K H dx x):decide (x=V.non)=isNon dx:=by
 cases ix<;>simp[isNon]
theorem r_is:R2ok X (fun x y H Q=>y= .non∧Q (.bl (decide (x= .non))) H) gIs:=by
 intro H x y dx dy d Q ix iy e q
 cases iy<;>first |(cases e;done) | skip
 have e':=aBo e;subst e'
 exact⟨rfl,by rw[isNon_V ix];exact q _ H (Same.refl H) (.bl _)⟩
theorem pd_eq (ha:PD X B a fa) (hb:PD X B b fb):PD X B (.Compare a [.Eq] [b] pos) (b2 gEq fa fb):=pd_cmp op_eq r_eq n_eq ha hb (nomark _)
theorem pd_is (ha:PD X B a fa) (hb:PD X B b fb):PD X B (.Compare a [.Is] [b] pos) (b2 gIs fa fb):=pd_cmp op_isN r_is n_is ha hb (nomark _)
theorem pdt_lt (ha:PD X B a fa) (hb:PD X B b fb):PDT X B (.Compare a [.Lt] [b] pos) (aAy (b2 gLt fa fb)):=pdt_cmp op_lt r_lt n_lt ha hb (nomark _)
theorem pdt_gt (ha:PD X B a fa) (hb:PD X B b fb):PDT X B (.Compare a [.Gt] [b] pos) (aAy (b2 gGt fa fb)):=pdt_cmp op_gt r_gt n_gt ha hb (nomark _)
theorem pdt_eq (ha:PD X B a fa) (hb:PD X B b fb):PDT X B (.Compare a [.Eq] [b] pos) (aAy (b2 gEq fa fb)):=pdt_cmp op_eq r_eq n_eq ha hb (nomark _)
theorem pdt_ne (ha:PD X B a fa) (hb:PD X B b fb):PDT X B (.Compare a [.NotEq] [b] pos) (aAy (b2 gNe fa fb)):=pdt_cmp op_ne r_ne n_ne ha hb (nomark _)
theorem pdt_is (ha:PD X B a fa) (hb:PD X B b fb):PDT X B (.Compare a [.Is] [b] pos) (aAy (b2 gIs fa fb)):=pdt_cmp op_isN r_is n_is ha hb (nomark _)
noncomputable def gIx:D→D→M D
 | .lst ds,.int i=>match atI ds i with | some d=>ok d | none=>none
 | .tup ds,.int i=>match atI ds i with | some d=>ok d | none=>none
 | .str z,.int i=>if z.length≤1000 then (match atI z.cps.toList i with | some c=>ok (.str ⟨#[c]⟩) | none=>none) else none
 | _,_=>none
theorem n_ix:NoErr gIx:=by intro x y c h;unfold gIx at h;(repeat' split at h)<;>cases h
theorem atI_isL {K:PySem.W.Frag} {H:Hp} {ds:List D} {vs:List V} {i:Int} {d:D} (r:IsL K H ds vs) (e:atI ds i=some d): ∃v,atI vs i=some v∧Is K H d v:=by
 unfold atI at e⊢
 rw[r.length] at e
 cases q:ixN vs.length i with
 | none=>rw[q] at e;exact nomatch e
 | some j=>rw[q] at e;exact r.get e
theorem r_ix:R2ok X (rIx X.K) gIx:=by
 intro H x y dx dy d Q ix iy e q
 unfold gIx at e
 split at e
 ·split at e
  ·rename_i d' hd
   cases ix with
   | lst h r=>
    cases iy
    have e':=aBo e;subst e'
    obtain⟨v,h1,h2⟩:=atI_isL r hd
    exact .inl ⟨_,_,_,v,rfl,rfl,h,h1,q _ H (Same.refl H) h2⟩
  ·cases e
 ·split at e
  ·rename_i d' hd
   cases ix with
   | tup h r=>
    cases iy
    have e':=aBo e;subst e'
    obtain⟨v,h1,h2⟩:=atI_isL r hd
    exact .inr (.inl ⟨_,_,_,v,rfl,rfl,h,h1,q _ H (Same.refl H) h2⟩)
  ·cases e
 ·split at e
  ·rename_i hz
   split at e
   ·rename_i c hc
    cases ix;cases iy
    have e':=aBo e;subst e'
    exact .inr (.inr ⟨_,_,c,rfl,rfl,Nat.le_trans hz (by decide),hc,q _ H (Same.refl H) (.str _)⟩)
   ·cases e
  ·cases e
 ·cases e
theorem pd_ix (ha:PD X B a fa) (hb:PD X B b fb) (hs:PlainIx b):PD X B (.Subscript a b pos) (b2 gIx fa fb):=PE.of (pe_ix ix_seq ha hb hs) fun _ _ _ h=>b2_red r_ix n_ix h
noncomputable def oPart (f:Rho→M D):Rho→M (Option Int):=fun ρ=>bnd (f ρ) fun d=>match d with | .int i=>ok (some i) | _=>none
noncomputable def oNone:Rho→M (Option Int):=fun _=>ok none
noncomputable def tDO (X:Cx) (B:Hp) (f:Rho→M (Option Int)):TO:=fun σ H Q=> ∃ρ,Rel X.K B ρ σ H∧Res X σ H (fun o=> ∀H',Same H H'→Q o H') (f ρ)
theorem pdo_none:PO X none (tDO X B oNone):=fun pins s σ H Q I ⟨ρ,r,h⟩=>po_none pins s σ H Q I (h H (Same.refl H))
theorem pdo_some {e:Expr} (he:PD X B e fa):PO X (some e) (tDO X B (oPart fa)):=fun pins s σ H Q I ⟨ρ,r,h⟩=>by
 refine po_some he pins s σ H Q I ⟨ρ,r,(Res.bind h).imp fun d h1 v H1 e1 i1=> ?_⟩
 cases i1<;>first | exact False.elim h1 | exact⟨_,rfl,h1 H1 e1⟩
noncomputable def cutD (xs:List D) (lo hi:Option Int):List D:=(xs.drop (HT.sIx xs.length 0 lo)).take (HT.sIx xs.length xs.length hi-HT.sIx xs.length 0 lo)
noncomputable def aDq (z:Str) (lo hi:Option Int):Str:=⟨((z.cps.toList.drop (HT.sIx z.length 0 lo)).take (HT.sIx z.length z.length hi-HT.sIx z.length 0 lo)).toArray⟩
theorem cut_whole {α:Type} (xs:List α) {i j:Nat} (h:i=0) (h':j=xs.length):(xs.drop i).take (j-i)=xs:=by
 subst h h'
 rw[List.drop_zero,Nat.sub_zero,List.take_length]
section
variable {prog:Program} {w:World} {A:Around} {E:Value→Shared→Prop} {s:Shared}
theorem getItem_tuple_whole {t sl:Addr} {items:Array Value} {vl vu:Value} {lo hi:Option Int} {Q:Value→Shared→Prop} (ht:IsTup s.heap t items) (hs:s.heap.IsSliceOf sl vl vu .none) (pl:IsPart vl lo) (pu:IsPart vu hi)
  (hw:HT.sIx items.size 0 lo=0∧HT.sIx items.size items.size hi=items.size) (h:Q (.ref t) s):wpAny (model prog w) A (getItem (.ref t) (.ref sl)) Q E s:=by
 obtain⟨os,hos,hcs,hds⟩:=id hs
 have hTs:s.TypeIs (.ref sl) "slice":=⟨os,hos,hcs⟩
 unfold getItem
 try with_reducible refine wpAny_holding ?_
 first | refine wpAny_bind (wpAny_pure ?_) | skip
 refine wpAny_bind (wpAny_sequenceKey ht.typeIs (by decide) ?_)
 refine wpAny_bind (wpAny_callSpecial?_slot (name:=Str.ofString "__getitem__") ht.typeIs PyProof.Rows.slot_tuple_getitem
  (wpAny_call_entry PyProof.Rows.slot_tuple_getitem ht.typeIs entry_tuple_getitem ?_ (args_tuple_getitem _ _)))
 show wpAny _ _ (Builtin.Tuple.tupleItemsOf (.ref t)>>=_) _ _ s
 refine wpAny_bind (tupleItemsOf_ ht ?_)
 refine wpAny_bind (wpAny_typeOf hTs ?_)
 rw[if_pos (by decide)]
 refine wpAny_bind (HT.sliceApplied_gen hs pl pu ?_)
 show wpAny _ _ (if (((HT.sIx items.size 0 lo:Nat):Int)==0&&(1:Int)==1&&(HT.sIx items.size items.size hi-HT.sIx items.size 0 lo)==items.size)=true then _ else _) _ _ s
 rw[if_pos (by rw[hw.1,hw.2];simp)]
 refine wpAny_bind (m:=Builtin.Tuple.tupleIsExact _) (wpAny_bind (m:=typeOf _) (wpAny_typeOf ht.typeIs (wpAny_pure ?_)))
 rw[if_pos (by decide)]
 exact wpAny_bind (wpAny_rule (wpAny_bind (wpAny_pure (wpAny_pure ⟨_,rfl,wpAny_pure h⟩))))
theorem strPicked_cut (z:Str) (l u:Option (Int×Tok)):slicePicked z l u none=(List.range (HT.sIx z.length z.length (u.map (·.1))-HT.sIx z.length 0 (l.map (·.1)))).map (HT.sIx z.length 0 (l.map (·.1))+ ·):=by
 have cl: ∀(i:Int) (d:Nat),max 0 (min (if i<0 then i+(z.length:Int) else i) (z.length:Int))=((HT.sIx z.length d (some i):Nat):Int):=by
  intro i d
  show _=(((if i<0 then (i+(z.length:Int)).toNat else min i.toNat z.length):Nat):Int)
  by_cases hv:i<0
  ·simp only[if_pos hv];omega
  ·simp only[if_neg hv];omega
 have e:slicePicked z l u none=sliceRange ((HT.sIx z.length 0 (l.map (·.1)):Nat):Int) ((HT.sIx z.length z.length (u.map (·.1)):Nat):Int) 1:=by
  unfold slicePicked Builtin.Str.strSliceIndices
  simp only[Option.map_none,Option.getD_none,show (1:Int)>0 by decide,if_true]
  congr 1
  ·cases l with
   | none=>rfl
   | some i=>exact cl i.1 0
  ·cases u with
   | none=>rfl
   | some i=>exact cl i.1 z.length
 rw[e,sliceRange_one]
end
section
variable {X:Cx}
noncomputable def rSlW (K:PySem.W.Frag):V→Option Int→Option Int→Hp→VK→Prop:=fun x lo hi H Q=> ∃a xs,x= .ref a∧SqT K H a xs∧(HT.sIx xs.length 0 lo=0∧HT.sIx xs.length xs.length hi=xs.length)∧Q (.ref a) H
theorem sl_tupW:SlR X (rSlW X.K):=by
 intro pins s σ H x v vl vu lo hi sl Q I rx hs pl pu h
 obtain⟨a,xs,rfl,hx,hw,q⟩:=h
 cases rx
 obtain⟨its,r,ht,hz⟩:=I.tuple hx
 have hlen:its.toArray.size=xs.length:=by rw[List.size_toArray];exact r.length.symm
 exact⟨"tuple",_,PyProof.Rows.slot_tuple_getitem.lookup,ht.typeIs,getItem_tuple_whole ht hs pl pu (by rw[hlen];exact hw) ⟨.ref a,H,I,rfl,q⟩⟩
noncomputable def rSlS:V→Option Int→Option Int→Hp→VK→Prop:=fun x lo hi H Q=> ∃z,x= .str z∧z.length≤sizeLine∧Q (.str (aDq z lo hi)) H
theorem part_of {v:Value} {o:Option Int} (p:IsPart v o): ∃l:Option (Int×Tok),v=partValue l∧l.map (·.1)=o:=by
 cases p with
 | none=>exact⟨none,rfl,rfl⟩
 | int i t=>exact⟨some (i,t),rfl,rfl⟩
theorem sl_str:SlR X rSlS:=by
 intro pins s σ H x v vl vu lo hi sl Q I rx hs pl pu h
 obtain⟨z,rfl,hz,q⟩:=h
 obtain⟨t,rfl⟩:=rx
 obtain⟨l,rfl,rfl⟩:=part_of pl
 obtain⟨u,rfl,rfl⟩:=part_of pu
 refine⟨"str",_,slot_str_getitem.lookup,typeIs_str s z t,?_⟩
 refine wpAny_getItem_str_slice (l:=l) (u:=u) (st:=none) hs rfl ?_
 have hp:=strPicked_cut z l u
 have hj:HT.sIx z.length z.length (u.map (·.1))≤z.length:=HT.sIx_le _ _ (Nat.le_refl _) _
 have hi0:HT.sIx z.length 0 (l.map (·.1))≤z.length:=HT.sIx_le _ 0 (Nat.zero_le _) _
 have hc:z.cps.toList.length=z.length:=by simp[Str.length]
 unfold sliceMade
 rw[hp]
 split
 ·rename_i hh
  simp only[Option.map_none,Option.getD_none,List.length_map,List.length_range,Bool.and_eq_true,beq_iff_eq] at hh
  have e:aDq z (l.map (·.1)) (u.map (·.1))=z:=by
   unfold aDq
   rw[cut_whole _ (by omega) (by omega)]
  exact⟨.str z,H,I,⟨t,rfl⟩,by rw[e] at q;exact q⟩
 ·rw[pick_run]
  refine⟨?_,⟨.str (aDq z (l.map (·.1)) (u.map (·.1))),H,I.tok _,⟨_,rfl⟩,q⟩⟩
  show ((z.cps.toList.drop (HT.sIx z.length 0 (l.map (·.1)))).take _).toArray.size≤sizeLine
  rw[List.size_toArray,List.length_take,List.length_drop,hc]
  omega
end
noncomputable def gCut:D→Option Int→Option Int→M D
 | .lst ds,lo,hi=>ok (.lst (cutD ds lo hi))
 | .tup ds,lo,hi=>ok (.tup (cutD ds lo hi))
 | .str z,lo,hi=>if z.length≤1000 then ok (.str (aDq z lo hi)) else none
 | _,_,_=>none
noncomputable def cut3 (fa:Rho→M D) (fl fh:Rho→M (Option Int)):Rho→M D:=fun ρ=>bnd (fa ρ) fun x=>bnd (fl ρ) fun l=>bnd (fh ρ) fun h=>gCut x l h
theorem isL_cut {K:PySem.W.Frag} {H:Hp} {ds:List D} {vs:List V} (r:IsL K H ds vs) (lo hi:Option Int):IsL K H (cutD ds lo hi) (cutV vs lo hi):=by
 unfold cutD cutV
 rw[r.length]
 exact (r.drop _).take _
theorem pd_slice {e:Expr} {lo hi:Option Expr} {fl fh:Rho→M (Option Int)} {p2:Pos} (he:PD X B e fa) (hl:PO X lo (tDO X B fl)) (hu:PO X hi (tDO X B fh)):PD X B (.Subscript e (.Slice lo hi none p2) pos) (cut3 fa fl fh):=by
 refine PE.of (pe_slice (SlR.or sl_list (SlR.or sl_tup (SlR.or sl_tupW sl_str))) he hl hu) fun σ H Q h=> ?_
 obtain⟨ρ,r1,h⟩:=h
 refine⟨ρ,r1,(Res.bind h).imp fun d h1 v H1 e1 i1=>⟨ρ,r1.mono e1,(Res.bind h1).mono e1 fun l h2 H2 e2=>⟨ρ,(r1.mono e1).mono e2,(Res.bind h2).mono (e1.trans e2) fun u h3 H3 e3=> ?_⟩⟩⟩
 have i3:=(i1.mono e2).mono e3
 cases i3 with
 | lst hh r=>exact .inl ⟨_,_,rfl,hh,fun p hp=>h3 _ _ (((e1.trans e2).trans e3).trans (aAn hp _)) (.lst (SqL.of aAi) ((isL_cut r l u).mono (aAn hp _)))⟩
 | tup hh r=>
  rename_i a' ds' vs'
  have hlen:=r.length
  by_cases hn:HT.sIx vs'.length 0 l=0∧HT.sIx vs'.length vs'.length u=vs'.length
  ·have e:cutD ds' l u=ds':=by
    unfold cutD
    rw[hlen]
    exact cut_whole _ hn.1 (by rw[hn.2,hlen])
   refine .inr (.inr (.inl ⟨_,_,rfl,hh,hn,?_⟩))
   have h4:=h3 _ _ ((e1.trans e2).trans e3) (show Is X.K H3 (.tup (cutD ds' l u)) (.ref a') by rw[e];exact .tup hh r)
   exact h4
  ·exact .inr (.inl ⟨_,_,rfl,hh,hn,fun p hp=>h3 _ _ (((e1.trans e2).trans e3).trans (aAn hp _)) (.tup (TQ.of aAi) ((isL_cut r l u).mono (aAn hp _)))⟩)
 | str z=>
  dsimp only[gCut] at h3
  split at h3
  ·rename_i hz
   exact .inr (.inr (.inr ⟨_,rfl,Nat.le_trans hz (by decide),h3 _ _ ((e1.trans e2).trans e3) (.str _)⟩))
  ·exact False.elim h3
 | _=>exact False.elim h3
end
noncomputable def tyN:D→Option String
 | .non=>some "NoneType"
 | .bl _=>some "bool"
 | .int _=>some "int"
 | .str _=>some "str"
 | .tup _=>some "tuple"
 | .lst _=>some "list"
 | .obj _ _=>none
 | .dk _=>some "dict"
 | .dt _=>some "dict"
 | .exc _=>none
 | .set _=>none
noncomputable def isB (t T:String):Bool:=t==T ||(t=="bool"&&T=="int")
noncomputable def kTys:List String:=["tuple","list","bool","str","int","dict"]
theorem kit_tab (K:PySem.W.Frag) {d:D} {t T:String} (ht:tyN d=some t) (hT:T∈kTys):PySem.W.kitOne K (.type t) (.type T)=some (isB t T):=by
 unfold kTys at hT
 simp only[List.mem_cons,List.not_mem_nil,or_false] at hT
 cases d<;>(have e:=ht;unfold tyN at e;first |(cases e;done) | skip)<;>(have e':=Option.some.inj e;subst e')<;>rcases hT with rfl | rfl | rfl | rfl | rfl | rfl<;>kernel_rfl
section
variable {X:Cx} {B:Hp} {pins:List (Addr×Obj)} {σ:St} {H:Hp} {s:Shared}
theorem kit_of {d:D} {x:V} {u:Value} {t:String} (I:Inv X pins σ H s) (i:Is X.K H d x) (r:RelV x u) (ht:tyN d=some t):
  ∃HH:Heap→Prop,PySem.W.KitX X.K u (.type t) HH∧HH s.heap∧u≠ .builtin "__main__.__loader__#opaque":=by
 cases i with
 | non=>cases r;cases ht;exact⟨_,PySem.W.kitx_none,True.intro,fun z=>nomatch z⟩
 | bl b=>cases r;cases ht;exact⟨_,PySem.W.kitx_bool,True.intro,fun z=>nomatch z⟩
 | int b=>obtain⟨t,rfl⟩:=r;cases ht;exact⟨_,PySem.W.kitx_int,True.intro,fun z=>nomatch z⟩
 | str b=>obtain⟨t,rfl⟩:=r;cases ht;exact⟨_,PySem.W.kitx_str,True.intro,fun z=>nomatch z⟩
 | lst h rr=>
  cases r;cases ht
  obtain⟨its,_,⟨o,n,e,hc,_,_⟩,_⟩:=I.list h
  exact⟨_,PySem.W.kitx_list,⟨o,e,hc⟩,fun z=>nomatch z⟩
 | tup h rr=>
  cases r;cases ht
  obtain⟨its,_,⟨o,e,hc,_,_⟩,_⟩:=I.tuple h.sq
  exact⟨_,PySem.W.kitx_tuple,⟨o,e,hc⟩,fun z=>nomatch z⟩
 | obj h rr=>cases ht
 | dk h rr=>
  cases r;cases ht
  obtain⟨_,_,vs,_,o,es,ep,e1,e2,_⟩:=(show aBw X.prog X.w H s.heap _ (.dK _) from h.ok I.hok)
  exact⟨_,PySem.W.kitx_dict,⟨o,e1,e2.1⟩,fun z=>nomatch z⟩
 | dt h rr=>
  cases r;cases ht
  obtain⟨_,_,vs,_,o,es,ep,e1,e2,_⟩:=(show aBw X.prog X.w H s.heap _ (.dT _) from I.hok _ _ h)
  exact⟨_,PySem.W.kitx_dict,⟨o,e1,e2.1⟩,fun z=>nomatch z⟩
 | exc h=>cases ht
 | set h=>cases ht
noncomputable def kitL (t:String):List String→Bool
 | []=>false
 | T::r=>if isB t T=true then true else kitL t r
theorem kitAny_tab (K:PySem.W.Frag) {d:D} {t:String} (ht:tyN d=some t): ∀{Ts:List String},(∀T∈Ts,T∈kTys)→PySem.W.kitAny K (.type t) (Ts.map Value.type)=some (kitL t Ts)
 | [],_=>rfl
 | T::r,h=>by
  show (match PySem.W.kitOne K (.type t) (.type T) with | some true=>some true | some false=>PySem.W.kitAny K (.type t) (r.map Value.type) | none=>none)=_
  rw[kit_tab K ht (h T (by simp))]
  unfold kitL
  cases q:isB t T with
  | true=>rfl
  | false=>exact kitAny_tab K ht fun T' hT=>h T' (by simp[hT])
end
section
variable {X:Cx} {B:Hp} {e:Expr} {fa:Rho→M D} {pos p p2:Pos}
noncomputable def isi (T:String) (f:Rho→M D):Rho→M D:=fun ρ=>bnd (f ρ) fun d=>match tyN d with | some t=>ok (.bl (isB t T)) | none=>none
noncomputable def isi2 (Ts:List String) (f:Rho→M D):Rho→M D:=fun ρ=>bnd (f ρ) fun d=>match tyN d with | some t=>ok (.bl (kitL t Ts)) | none=>none
theorem aDr {x:Str} {T:String} (hg:Gl X "isinstance") (hm:X.mg "isinstance"=none) (hg2:Gl X x) (hm2:X.mg x=none) (hv:bootBuiltins x=some (.type T)) (hT:T∈kTys) (ha:PD X B e fa) (hn:x≠"__name__":=by decide) (hd:(x==("__debug__":Str))=false:=by decide)
  (he:starEach [e,.Name x p2] X.env=[(false,eval e X.env),(false,eval (.Name x p2) X.env)]:=by exact star2 rfl rfl) (he2:starEach [.Name x p2] X.env=[(false,eval (.Name x p2) X.env)]:=by exact star1 rfl):PD X B (.Call (.Name "isinstance" p) [e,.Name x p2] [] pos) (isi T fa):=by
 have hc:CallR X (.builtin "isinstance") (fun xs H Q=> ∃d y t,xs=[y,.ty T]∧Is X.K H d y∧tyN d=some t∧Q (.bl (isB t T)) H):=by
  intro pins s σ H xs us Q I r h
  obtain⟨d,y,t,rfl,i,ht,q⟩:=h
  obtain⟨u,w',rfl,r1,r2⟩:=vals2 r
  cases r2
  obtain⟨HH,k1,k2,k3⟩:=kit_of I i r1 ht
  exact PySem.W.kia_one k1 I.kIn k2 (kit_tab X.K ht hT) k3 fun tk=>⟨.bl _,H,I.tok _,rfl,q⟩
 refine PE.of (aC4 hc hg hm boot_isinstance (aA4 ha (aA4 (pe_bltn hg2 hm2 hv (v:=V.ty T) rfl hn hd) aBx he2) (by rw[he,he2])) (he:=by rw[he,he2]) (hpl:=by rw[he2];rfl)) fun σ H Q h=> ?_
 obtain⟨ρ,r1,h⟩:=h
 refine⟨ρ,r1,(Res.bind h).imp fun d h1 v H1 e1 i1=> ?_⟩
 cases q:tyN d with
 | none=>rw[q] at h1;exact False.elim h1
 | some t=>rw[q] at h1;exact⟨d,v,t,rfl,i1,q,h1 _ H1 e1 (.bl _)⟩
theorem pd_isi2 {x y:Str} {T U:String} {k:Nat} {p3 p4:Pos} (hg:Gl X "isinstance") (hm:X.mg "isinstance"=none) (hg2:Gl X x) (hm2:X.mg x=none) (hv:bootBuiltins x=some (.type T)) (hT:T∈kTys) (hg3:Gl X y) (hm3:X.mg y=none) (hv3:bootBuiltins y=some (.type U)) (hU:U∈kTys) (ha:PD X B e fa)
  (hn:x≠"__name__":=by decide) (hd:(x==("__debug__":Str))=false:=by decide) (hn2:y≠"__name__":=by decide) (hd2:(y==("__debug__":Str))=false:=by decide)
  (he:starEach [e,.Tuple [.Name x p2,.Name y p3] k p4] X.env=[(false,eval e X.env),(false,eval (.Tuple [.Name x p2,.Name y p3] k p4) X.env)]:=by exact star2 rfl rfl) (he2:starEach [.Tuple [.Name x p2,.Name y p3] k p4] X.env=[(false,eval (.Tuple [.Name x p2,.Name y p3] k p4) X.env)]:=by exact star1 rfl)
  (he3:starEach [.Name x p2,.Name y p3] X.env=[(false,eval (.Name x p2) X.env),(false,eval (.Name y p3) X.env)]:=by exact star2 rfl rfl) (he4:starEach [.Name y p3] X.env=[(false,eval (.Name y p3) X.env)]:=by exact star1 rfl):
  PD X B (.Call (.Name "isinstance" p) [e,.Tuple [.Name x p2,.Name y p3] k p4] [] pos) (isi2 [T,U] fa):=by
 have hc:CallR X (.builtin "isinstance") (fun xs H Q=> ∃d y a t,xs=[y,.ref a]∧Is X.K H d y∧H a=some (.tup [.ty T,.ty U])∧tyN d=some t∧Q (.bl (kitL t [T,U])) H):=by
  intro pins s σ H xs us Q I r h
  obtain⟨d,y,a,t,rfl,i,hh,ht,q⟩:=h
  obtain⟨u,w',rfl,r1,r2⟩:=vals2 r
  cases r2
  obtain⟨HH,k1,k2,k3⟩:=kit_of I i r1 ht
  obtain⟨z,its,rv,ob,o1,o2,⟨n,o3⟩,o4⟩:=(show aBw X.prog X.w H s.heap a (.tup [.ty T,.ty U]) from I.hok a _ hh)
  obtain⟨w1,w2,rfl,q1,q2⟩:=vals2 rv
  cases q1;cases q2
  obtain⟨c0,d0,dt,sl⟩:=ob
  simp only at o2 o3
  subst o2;subst o3
  exact PySem.W.kia_tup (its:=[Value.type T,Value.type U]) k1 I.kIn k2 o1 (kitAny_tab X.K ht (Ts:=[T,U]) (by intro z hz;rcases List.mem_cons.mp hz with rfl | hz;exact hT;rcases List.mem_singleton.mp hz with rfl;exact hU)) k3 fun tk=>⟨.bl _,H,I.tok _,rfl,q⟩
 refine PE.of (aC4 hc hg hm boot_isinstance (aA4 ha (aA4 (pe_tup (aA4 (pe_bltn hg2 hm2 hv (v:=V.ty T) rfl hn hd) (aA4 (pe_bltn hg3 hm3 hv3 (v:=V.ty U) rfl hn2 hd2) aBx he4) (by rw[he3,he4]))) aBx he2) (by rw[he,he2])) (he:=by rw[he,he2]) (hpl:=by rw[he2];rfl)) fun σ H Q h=> ?_
 obtain⟨ρ,r1,h⟩:=h
 refine⟨ρ,r1,(Res.bind h).imp fun d h1 v H1 e1 i1=> ?_⟩
 refine⟨by show 2≤sizeLine;decide,fun a ha'=> ?_⟩
 cases q:tyN d with
 | none=>rw[q] at h1;exact False.elim h1
 | some t=>rw[q] at h1;exact⟨d,v,a,t,rfl,i1.mono (aAn ha' _),aAi,q,h1 _ _ (e1.trans (aAn ha' _)) (.bl _)⟩
noncomputable def lenD:D→M D
 | .tup ds=>ok (.int ds.length)
 | .lst ds=>ok (.int ds.length)
 | _=>none
noncomputable def f1 (g:D→M D) (f:Rho→M D):Rho→M D:=fun ρ=>bnd (f ρ) g
theorem pd_len (hg:Gl X "len") (hm:X.mg "len"=none) (ha:PD X B e fa) (he:starEach [e] X.env=[(false,eval e X.env)]:=by exact star1 rfl):PD X B (.Call (.Name "len" p) [e] [] pos) (f1 lenD fa):=by
 refine PE.of (aC4 call_len_seq hg hm PySem.boot_len (aA4 ha aBx he) (he:=by rw[he];rfl) (hpl:=by rfl)) fun σ H Q h=> ?_
 obtain⟨ρ,r1,h⟩:=h
 refine⟨ρ,r1,(Res.bind h).imp fun d h1 v H1 e1 i1=> ?_⟩
 cases i1 with
 | lst hh r=>exact⟨_,_,rfl,.inl hh,by rw[←r.length];exact h1 _ H1 e1 (.int _)⟩
 | tup hh r=>exact⟨_,_,rfl,.inr hh,by rw[←r.length];exact h1 _ H1 e1 (.int _)⟩
 | _=>exact False.elim h1
noncomputable def gMin:D→D→M D
 | .int i,.int j=>ok (.int (if j<i then j else i))
 | _,_=>none
theorem pd_min2 {a b:Expr} {fb:Rho→M D} (hcm:X.calm=true) (hg:Gl X "min") (hm:X.mg "min"=none) (ha:PD X B a fa) (hb:PD X B b fb) (he:starEach [a,b] X.env=[(false,eval a X.env),(false,eval b X.env)]:=by exact star2 rfl rfl) (he2:starEach [b] X.env=[(false,eval b X.env)]:=by exact star1 rfl):
  PD X B (.Call (.Name "min" p) [a,b] [] pos) (b2 gMin fa fb):=by
 refine PE.of (aC4 (call_min2 hcm) hg hm boot_min (aA4 ha (aA4 hb aBx he2) (by rw[he,he2])) (he:=by rw[he,he2]) (hpl:=by rw[he2];rfl)) fun σ H Q h=> ?_
 obtain⟨ρ,r1,h⟩:=h
 refine⟨ρ,r1,(Res.bind h).imp fun d h1 v H1 e1 i1=>⟨ρ,r1.mono e1,(Res.bind h1).mono e1 fun d2 h2 v2 H2 e2 i2=> ?_⟩⟩
 cases i1<;>first | exact False.elim h2 | skip
 cases i2<;>first | exact False.elim h2 | skip
 exact⟨_,_,rfl,h2 _ H2 (e1.trans e2) (.int _)⟩
end
inductive Out where
 | nx (ρ:Rho) | rt (d:D) | bk (ρ:Rho) | ct (ρ:Rho) | ex (c:Addr) (ρ:Rho)
noncomputable def Good (X:Cx) (B:Hp) (E:Ends):Out→Prop
 | .nx ρ=> ∀σ H,Rel X.K B ρ σ H→E.nx σ H
 | .rt d=> ∀v H,Same B H→Is X.K H d v→E.rt v H
 | .bk ρ=> ∀σ H,Rel X.K B ρ σ H→E.bk σ H
 | .ct ρ=> ∀σ H,Rel X.K B ρ σ H→E.ct σ H
 | .ex c ρ=> ∀(pins:List (Addr×Obj)) (s:Shared) (σ:St) (H:Hp) (e:Value),Rel X.K B ρ σ H→Exc X pins σ H c e s→X.xe e s
noncomputable def GoodO (X:Cx) (B:Hp) (E:Ends):Option Out→Prop
 | none=>False
 | some o=>Good X B E o
noncomputable def tDS (X:Cx) (B:Hp) (F:Rho→Option Out):TS:=fun E σ H=> ∃ρ,Rel X.K B ρ σ H∧GoodO X B E (F ρ)
noncomputable abbrev PDS (X:Cx) (B:Hp) (st:Stmt) (F:Rho→Option Out):Prop:=PS X st (tDS X B F)
noncomputable abbrev PDB (X:Cx) (B:Hp) (st:List Stmt) (F:Rho→Option Out):Prop:=PSs X st (tDS X B F)
noncomputable def lft {α:Type} (m:M α) (ρ:Rho) (k:α→Option Out):Option Out:=match m with
 | none=>none
 | some (.error c)=>some (.ex c ρ)
 | some (.ok a)=>k a
@[simp] theorem lft_ok {α:Type} (a:α) (ρ:Rho) (k:α→Option Out):lft (ok a) ρ k=k a:=rfl
@[simp] theorem lft_err {α:Type} (c:Addr) (ρ:Rho) (k:α→Option Out):lft (err c:M α) ρ k=some (.ex c ρ):=rfl
theorem aBa {α:Type} {X:Cx} {B:Hp} {E:Ends} {σ:St} {H:Hp} {ρ:Rho} {m:M α} {k:α→Option Out} (r:Rel X.K B ρ σ H) (h:GoodO X B E (lft m ρ k)):Res X σ H (fun a=>GoodO X B E (k a)) m:=by
 unfold lft at h
 split at h
 ·exact h
 ·exact fun pins s H' e q x=>h pins s σ H' e (r.mono q) x
 ·exact h
section
variable {X:Cx} {B:Hp} {e c:Expr} {fa:Rho→M D} {tc:Rho→M Bool} {pos pos':Pos} {st:Stmt} {sts rest:List Stmt} {F G:Rho→Option Out}
theorem PS.of {t t':TS} (h:PS X st t) (i: ∀E σ H,t' E σ H→t E σ H):PS X st t':=fun pins s σ H E I q=>h pins s σ H E I (i E σ H q)
theorem PSs.of {t t':TS} (h:PSs X sts t) (i: ∀E σ H,t' E σ H→t E σ H):PSs X sts t':=fun pins s σ H E I q=>h pins s σ H E I (i E σ H q)
noncomputable def aAp:Rho→Option Out:=fun ρ=>some (.nx ρ)
noncomputable def aAh (F G:Rho→Option Out):Rho→Option Out:=fun ρ=>match F ρ with
 | some (.nx ρ')=>G ρ'
 | o=>o
theorem aAg:PDB X B [] aAp:=PSs.of pss_nil fun E σ H ⟨ρ,r,h⟩=>h σ H r
theorem aAa (h1:PDS X B st F) (h2:PDB X B rest G):PDB X B (st::rest) (aAh F G):=by
 refine PSs.of (pss_cons h1 h2) fun E σ H h=> ?_
 obtain⟨ρ,r,h⟩:=h
 refine⟨ρ,r,?_⟩
 unfold aAh at h
 cases q:F ρ with
 | none=>rw[q] at h;exact h
 | some o=>
  rw[q] at h
  cases o with
  | nx ρ'=>exact fun σ' H' r'=>⟨ρ',r',h⟩
  | rt d=>exact h
  | bk ρ'=>exact h
  | ct ρ'=>exact h
  | ex c ρ'=>exact h
noncomputable def aBy (f:Rho→M D):Rho→Option Out:=fun ρ=>lft (f ρ) ρ fun d=>some (.rt d)
theorem aAt (he:PD X B e fa):PDS X B (.Return (some e) pos) (aBy fa):=by
 refine PS.of (ps_ret he) fun E σ H h=> ?_
 obtain⟨ρ,r,h⟩:=h
 exact⟨ρ,r,(aBa r h).imp fun d h1 v H1 e1 i1=>h1 v H1 (r.kept.trans e1) i1⟩
noncomputable def sIf (t:Rho→M Bool) (F G:Rho→Option Out):Rho→Option Out:=fun ρ=>lft (t ρ) ρ fun k=>if k=true then F ρ else G ρ
theorem aCt {a b:List Stmt} (hc:PDT X B c tc) (ha:PDB X B a F) (hb:PDB X B b G):PDS X B (.If c a b pos) (sIf tc F G):=by
 refine PS.of (ps_if hc ha hb) fun E σ H h=> ?_
 obtain⟨ρ,r,h⟩:=h
 refine⟨ρ,r,(aBa r h).imp fun k h1 H1 e1=> ?_⟩
 cases k with
 | true=>exact⟨ρ,r.mono e1,h1⟩
 | false=>exact⟨ρ,r.mono e1,h1⟩
noncomputable def SV.rel:SV→SV
 | .sh d=> .sh d
 | .own ds=> .sh (.lst ds)
 | .oin a C dx fs=> .sh (.obj C fs)
 | .ow o=> .sh o.d
 | .tk ks=> .sh (.tup (ks.map kD))
 | .nl kd ls=> .sh (kd.d ls)
noncomputable def free (ρ:Rho):Rho:=ρ.map fun o=>o.map SV.rel
noncomputable def setV (i:Nat) (d:D) (ρ:Rho):Rho:=if d.imm=true then ρ.set i (some (.sh d)) else (free ρ).set i (some (.sh d))
theorem Rel.set_sh {K:PySem.W.Frag} {H₀ H:Hp} {ρ:Rho} {σ:St} {i:Nat} {d:D} {v:V} (O:Nat→Option Addr) (h1: ∀i j a,O i=some a→O j=some a→i=j) (ho:OwnK H O) (h2:Same H₀ (Off H O)) (hl:ρ.length=σ.length) (h3: ∀j sv,ρ[j]? =some (some sv)→j≠i→Slot K H O σ j sv)
  (iv:Is K (Off H O) d v):Rel K H₀ (ρ.set i (some (.sh d))) (σ.set i (some v)) H:=by
 by_cases hi:i<σ.length
 case neg=>
  have s1: ∀x:Option SV,ρ.set i x=ρ:=fun x=>List.set_eq_of_length_le (by omega)
  have s2: ∀x:Option V,σ.set i x=σ:=fun x=>List.set_eq_of_length_le (by omega)
  rw[s1,s2]
  exact⟨O,h1,ho,h2,hl,fun j sv q=>h3 j sv q (fun z=>by have:=(List.getElem?_eq_some_iff.mp q).1;omega)⟩
 have hO: ∀(j:Nat) (a:Addr),(if j=i then none else O j)=some a→O j=some a:=fun j a q=>by
  split at q
  ·cases q
  ·exact q
 have less:Same (Off H O) (Off H fun j=>if j=i then none else O j):=Off.less fun j a q=>⟨j,hO j a q⟩
 refine⟨fun j=>if j=i then none else O j,fun j k a q1 q2=>h1 j k a (hO j a q1) (hO k a q2),fun j a q=>ho j a (hO j a q),h2.trans less,by rw[List.length_set,List.length_set,hl],fun j sv q=> ?_⟩
 by_cases e:j=i
 ·subst e
  have hj:j<ρ.length:=by
   have:=(List.getElem?_eq_some_iff.mp q).1
   rwa [List.length_set] at this
  rw[List.getElem?_set_self hj] at q
  have q':=Option.some.inj (Option.some.inj q)
  subst q'
  exact⟨v,List.getElem?_set_self (by rw[←hl];exact hj),iv.mono less⟩
 ·rw[List.getElem?_set_ne (Ne.symm e)] at q
  have z:=h3 j sv q e
  cases sv with
  | sh d'=>obtain⟨v',e1,e2⟩:=z;exact⟨v',by rw[List.getElem?_set_ne (Ne.symm e)];exact e1,e2.mono less⟩
  | own ds=>obtain⟨a,vs,e1,e2,e3,e4⟩:=z;exact⟨a,vs,by show (if j=i then none else O j)=some a;rw[if_neg e];exact e1,by rw[List.getElem?_set_ne (Ne.symm e)];exact e2,e3,e4.mono less⟩
  | oin a C dx fs=>obtain⟨e1,e2,e3,vs,e4,e5⟩:=z;exact⟨by show (if j=i then none else O j)=some a;rw[if_neg e];exact e1,by rw[List.getElem?_set_ne (Ne.symm e)];exact e2,e3,vs,e4,e5.mono less⟩
  | ow o=>obtain⟨a,w,e1,e2,e3,e4⟩:=z;exact⟨a,w,by show (if j=i then none else O j)=some a;rw[if_neg e];exact e1,by rw[List.getElem?_set_ne (Ne.symm e)];exact e2,e3,e4.mono less⟩
  | tk ks=>obtain⟨a,e1,e2⟩:=z;exact⟨a,by rw[List.getElem?_set_ne (Ne.symm e)];exact e1,less _ _ e2⟩
  | nl kd ls=>exact NL.move (by rw[List.length_set]) (List.getElem?_set_ne (Ne.symm e)) (fun m b w hm e1 e2=>⟨by show (if m=i then none else O m)=some b;rw[if_neg (by rcases hm with h | h<;>omega)];exact e1,e2⟩) less z
theorem Rel.freed {K:PySem.W.Frag} {H₀ H:Hp} {ρ:Rho} {σ:St} (r:Rel K H₀ ρ σ H):Rel K H₀ (free ρ) σ H:=by
 obtain⟨O,h1,ho,h2,hl,h3⟩:=id r
 have e0:Off H (fun _=>none)=H:=by funext b;unfold Off;rw[if_neg (fun⟨i,e⟩=>nomatch e)]
 refine⟨fun _=>none,(by intro _ _ _ q;cases q),(by intro _ _ q;cases q),by rw[e0];exact r.kept,by unfold free;rw[List.length_map,hl],fun i sv q=> ?_⟩
 unfold free at q
 rw[List.getElem?_map] at q
 obtain⟨o,e1,e2⟩:=Option.map_eq_some_iff.mp q
 cases o with
 | none=>cases e2
 | some sv0=>
  have e2':sv0.rel=sv:=Option.some.inj e2
  subst e2'
  obtain⟨v,e3,e4⟩:=r.get e1
  have:sv0.rel= .sh sv0.cur:=by cases sv0<;>rfl
  rw[this]
  exact⟨v,e3,by rw[e0];exact e4⟩
theorem Rel.setV {K:PySem.W.Frag} {H₀ H:Hp} {ρ:Rho} {σ:St} {i:Nat} {d:D} {v:V} (r:Rel K H₀ ρ σ H) (iv:Is K H d v):Rel K H₀ (setV i d ρ) (σ.set i (some v)) H:=by
 unfold PU.setV
 by_cases q:d.imm=true
 ·rw[if_pos q]
  obtain⟨O,h1,ho,h2,hl,h3⟩:=r
  exact Rel.set_sh O h1 ho h2 hl (fun j sv e _=>h3 j sv e) (off_imm ho q iv)
 ·rw[if_neg q]
  obtain⟨O,h1,ho,h2,hl,h3⟩:=r.freed
  have e0:Off H (fun _=>none)=H:=by funext b;unfold Off;rw[if_neg (fun⟨i,e⟩=>nomatch e)]
  have s0:Same (Off H O) (Off H fun _=>none):=Off.less (by intro j a q;cases q)
  refine Rel.set_sh (fun _=>none) (by intro _ _ _ q;cases q) (by intro _ _ q;cases q) (h2.trans s0) hl (fun j sv e _=> ?_) (by rw[e0];exact iv)
  unfold free at e
  rw[List.getElem?_map] at e
  obtain⟨o,e1,e2⟩:=Option.map_eq_some_iff.mp e
  cases o with
  | none=>cases e2
  | some sv0=>
   have e2':sv0.rel=sv:=Option.some.inj e2
   subst e2'
   have z:=h3 j sv0.rel (by unfold free;rw[List.getElem?_map,e1];rfl)
   have:sv0.rel= .sh sv0.cur:=by cases sv0<;>rfl
   rw[this] at z⊢
   obtain⟨v',f1,f2⟩:=z
   exact⟨v',f1,f2.mono s0⟩
noncomputable def aC3 (i:Nat) (f:Rho→M D):Rho→Option Out:=fun ρ=>lft (f ρ) ρ fun d=>some (.nx (setV i d ρ))
theorem aBg {i:Nat} {x:Str} (hN:X.N.Nodup) (hi:X.N[i]? =some x) (hx:Loc X.env.scope x) (he:PD X B e fa) (hs:swapsWith e (some (.Name x pos')) pos.line X.env=pure false:=by rfl) (hf:X.fn x=true∨X.env.scope.names.lookup x=some .local:=by first | exact .inl rfl | exact .inr rfl | assumption):
  PDS X B (.Assign [.Name x pos'] e pos) (aC3 i fa):=by
 refine PS.of (ps_set hN hi hx he hs hf) fun E σ H h=> ?_
 obtain⟨ρ,r,h⟩:=h
 exact⟨ρ,r,(aBa r h).imp fun d h1 v H1 e1 i1=>h1 _ H1 ((r.mono e1).setV i1)⟩
end
noncomputable def spR (K:PySem.W.Frag) (H:Hp) (Q:VK) (E:XK):M D→Prop
 | none=>False
 | some (.error c)=> ∀H',Same H H'→E (.ref c) none H'
 | some (.ok d)=> ∀v H',Same H H'→Is K H' d v→Q v H'
noncomputable def spD (K:PySem.W.Frag) (n:Nat) (F:List D→M D):Sp:=fun vs H Q E=> ∃ds,IsL K H ds vs∧vs.length=n∧spR K H Q E (F ds)
noncomputable def CXD (P:Program) (w:World):CXT:=fun outer H s E e s'=> ∃(c ea:Addr) (H':Hp),e= .ref ea∧s'.os=s.os∧AllBare s'.gens∧Un (frs outer) [] H H' s.heap s'.heap∧Fly P w outer s ea c H' s'∧E (.ref c) none H'
noncomputable abbrev FnD (P:Program) (w:World) (K:PySem.W.Frag) (mg:Str→Option Value) (base:Heap) (k:Nat) (f:Addr) (fd:FuncData) (ps:List Str) (F:List D→M D):Prop:=FnOk P w K mg base (CXD P w) k f fd ps (spD K ps.length F)
noncomputable def Def (P:Program) (w:World) (K:PySem.W.Frag) (mg:Str→Option Value) (base:Heap) (k:Nat) (x:Str) (F:List D→M D):Prop:=
 ∃f fd ps,mg x=some (.ref f)∧PySem.W.keepIn K (.ref f)=true∧Binds K fd ps []∧(∀ds r,F ds=some r→ds.length=ps.length)∧FnD P w K mg base k f fd ps F
noncomputable def Mth (P:Program) (w:World) (K:PySem.W.Frag) (mg:Str→Option Value) (base:Heap) (k:Nat) (C:Addr) (m:Str) (F:List D→M D):Prop:=
 ∃f fd ps,Cls K C∧Meth K C m f∧Binds K fd ps []∧(∀ds r,F ds=some r→ds.length=ps.length)∧FnD P w K mg base k f fd ps F
section
variable {X:Cx} {B:Hp} {k:Nat} {f:Addr} {fd:FuncData} {ps:List Str} {F:List D→M D} {pins:List (Addr×Obj)} {σ:St} {H:Hp} {s:Shared} {Q:VK} {us:List Value} {vs:List V} {ds:List D}
theorem run_D (G:FnD X.prog X.w X.K X.mg X.base k f fd ps F) (hr:aCw k X.A) (hb:Binds X.K fd ps []) (I:Inv X pins σ H s) (r:Vals vs us) (i:IsL X.K H ds vs)
  (h:Res X σ H (fun d=> ∀v H',Same H H'→Is X.K H' d v→Q v H') (F ds)) (hL: ∀ds r,F ds=some r→ds.length=ps.length):wpAny (model X.prog X.w) X.A (call (.ref f) us) (EP X pins σ Q) X.xe s:=by
 have hn:ds.length=ps.length:=by
  cases q:F ds with
  | none=>rw[q] at h;exact False.elim h
  | some z=>exact hL ds z q
 have hl:(us++ []).length=ps.length:=by rw[List.append_nil,←r.length,←i.length];exact hn
 have hbb:=hb s us I.kIn hl
 rw[List.append_nil] at hbb
 have hsp:spD X.K ps.length F vs H Q (fun cv _ H'=> ∃c,cv= .ref c∧Same H H'∧Thr X σ H c):=by
  refine⟨ds,i,by rw[←i.length];exact hn,?_⟩
  cases q:F ds with
  | none=>rw[q] at h;exact False.elim h
  | some z=>
   rw[q] at h
   cases z with
   | error c=>exact fun H' e=>⟨c,rfl,e,h⟩
   | ok d=>exact h
 refine wpAny_call (codeAny_mono (G.run X.A X.stack s H ⟨us,[]⟩ us vs Q _ hr I.env0 hbb r hsp) fun r s' hq=> ?_)
 cases r with
 | error e=>
  obtain⟨c,ea,H',ee,os,bare,un,fl,c',ec,sm',th⟩:=hq
  cases ec
  exact th pins s' H' e sm' ⟨ea,ee,.inr ⟨s,H,I,os,bare,un,fl⟩⟩
 | ok fl=>
  cases fl with
  | ret u=>exact I.after hq
  | next=>exact False.elim hq
  | brk=>exact False.elim hq
  | cont=>exact False.elim hq
variable {x m:Str} {p pos apos:Pos} {e o:Expr} {es:List Expr} {ga:Rho→M (List D)} {fo:Rho→M D} {C:Addr}
noncomputable def app (F:List D→M D) (g:Rho→M (List D)):Rho→M D:=fun ρ=>bnd (g ρ) F
theorem app_red {R:List V→Hp→Prop} (hR: ∀ds vs H1,Same H H1→IsL X.K H1 ds vs→Res X σ H1 (fun d=> ∀v H',Same H1 H'→Is X.K H' d v→Q v H') (F ds)→R vs H1) (h:tD X B (app F ga) σ H Q):tDA X B ga σ H R:=by
 obtain⟨ρ,r,h⟩:=h
 exact⟨ρ,r,(Res.bind h).imp fun ds h1 vs H1 e1 i1=>hR ds vs H1 e1 i1 (h1.mono e1 fun d q v H2 e2 i2=>q v H2 (e1.trans e2) i2)⟩
theorem aA1 (G:Def X.prog X.w X.K X.mg X.base k x F) (hr:aCw k X.A) (hg:Gl X x) (ha:PDA X B (e::es) ga) (hdb:(x==("__debug__":Str))=false:=by decide) (he:starEach (e::es) X.env=(false,eval e X.env)::starEach es X.env:=by exact aAx rfl)
  (hpl:(backTo pos (starEach es X.env)).any (·.1)=false:=by rfl):PD X B (.Call (.Name x p) (e::es) [] pos) (app F ga):=by
 intro pins s σ H Q I h
 obtain⟨f,fd,ps,h1,h2,h3,hl,h4⟩:=G
 refine wpAny_Call_Name_kw (ld_glob I hg h1 ?_ hdb)
 refine PySem.W.callWith_K (h₀:=X.base) I.ok.mod.kin h2 (thn (ha pos pins s σ H _ I (app_red (R:=fun vs H1=> ∃ds,IsL X.K H1 ds vs∧Res X σ H1 (fun d=> ∀v H',Same H1 H'→Is X.K H' d v→Q v H') (F ds)) (fun ds vs H1 e1 i1 h1=>⟨ds,i1,h1⟩) h)) fun us s1 ⟨vs,H1,I1,r,ds,i1,q⟩=>⟨I1.kIn,?_⟩) he hpl
 exact run_D h4 hr h3 I1 r i1 q hl
noncomputable def appM (m:Str) (FM:Addr→Option (List D→M D)) (fo:Rho→M D) (g:Rho→M (List D)):Rho→M D:=fun ρ=>bnd (fo ρ) fun x=>match x with
 | .obj C fs=>match FM C,fs.lookup m with
  | some F,none=>bnd (g ρ) fun ds=>F (x::ds)
  | _,_=>none
 | _=>none
theorem pd_meth {pl:Sem Bool} {FM:Addr→Option (List D→M D)} (G: ∀C F,FM C=some F→Mth X.prog X.w X.K X.mg X.base k C m F) (hr:aCw k X.A) (he:PD X B o fo) (ha:PDA X B (e::es) ga)
  (hst:starEach (e::es) X.env=(false,eval e X.env)::starEach es X.env:=by exact aAx rfl) (hpl:(backTo pos (starEach es X.env)).any (·.1)=false:=by rfl)
  (ht:eval (.Call (.Attribute o m apos) (e::es) [] pos) X.env=(do
   let ov←eval o X.env
   standAt apos.atName
   let (f,first)←holding [ov] (getMethod ov m pl)
   callWith pos f first (backTo pos (starEach (e::es) X.env)) (backToKw pos (keywordEach [] X.env))):=by rfl):
  PD X B (.Call (.Attribute o m apos) (e::es) [] pos) (appM m FM fo ga):=by
 intro pins s σ H Q I h
 obtain⟨ρ,r,h⟩:=h
 refine PySem.W.methodCall_KW (pl:=pl) (thn (he pins s σ H (fun v H1=> ∃a C dx fs vs F,v= .ref a∧H1 a=some (.ins C dx vs)∧IsF X.K H1 fs vs∧fs.lookup m=none∧FM C=some F∧Same H H1∧Res X σ H (fun ds=>Res X σ H (fun d=> ∀v H',Same H H'→Is X.K H' d v→Q v H') (F (.obj C fs::ds))) (ga ρ)) I ⟨ρ,r,(Res.bind h).imp fun d h1 v H1 e1 i1=> ?_⟩) fun u s1 hP=> ?_) ht
 ·cases i1 with
  | obj hh rr=>
   dsimp only at h1
   split at h1
   ·rename_i F hF hl;exact⟨_,_,_,_,_,F,rfl,hh,rr,hl,hF,e1,Res.bind h1⟩
   ·exact False.elim h1
  | _=>exact False.elim h1
 obtain⟨x,H1,I1,rx,a,C,dx,fs,vs,F,ex,ea,ifs,l,hF,e1,q⟩:=hP
 subst ex
 obtain rfl:u=Value.ref a:=rx
 obtain⟨f,fd,ps,h1,h2,h3,hl,h4⟩:=G C F hF
 refine getmeth_ok I1 ea h1 h2 (ifs.lookupNone l) ?_
 have q':tDA X B ga σ H1 (fun vs' H2=> ∃ds,Same H1 H2∧IsL X.K H2 ds vs'∧Res X σ H (fun d=> ∀v H',Same H H'→Is X.K H' d v→Q v H') (F (.obj C fs::ds))):=
  ⟨ρ,r.mono e1,Res.mono e1 q fun ds q1 vs' H2 e2 i2=>⟨ds,e2,i2,q1⟩⟩
 refine PySem.W.callWith_K (first:=[.ref a]) (h₀:=X.base) I.ok.mod.kin h2.kp (thn (ha pos pins s1 σ H1 _ I1 q') fun us s2 ⟨vs',H2,I2,r2,ds,e2,i2,q2⟩=>⟨I2.kIn,?_⟩) hst hpl
 exact run_D (us:= .ref a::us) (vs:= .ref a::vs') (ds:= .obj C fs::ds) h4 hr h3 I2 (.cons rfl r2) (.cons (.obj (e2 _ _ ea) (ifs.mono e2)) i2) (q2.mono (e1.trans e2) fun d z v H' e' i'=>z v H' ((e1.trans e2).trans e') i') hl
noncomputable def fld (cs:Addr→Bool) (f:Str) (fo:Rho→M D):Rho→M D:=fun ρ=>bnd (fo ρ) fun x=>match x with
 | .obj C fs=>if cs C=true then (match fs.lookup f with | some d=>ok d | none=>none) else none
 | _=>none
theorem pd_fld {cs:Addr→Bool} {f:Str} (hC: ∀C,cs C=true→Cls X.K C∧NoAttr X.K C f) (he:PD X B o fo) (hb:attributeBase o f X.env (eval o X.env)=eval o X.env:=by rfl):PD X B (.Attribute o f pos) (fld cs f fo):=by
 refine PE.of (pe_fld he hb) fun σ H Q h=> ?_
 obtain⟨ρ,r,h⟩:=h
 refine⟨ρ,r,(Res.bind h).imp fun d h1 v H1 e1 i1=> ?_⟩
 cases i1 with
 | obj hh rr=>
  rename_i a C dx fs vs
  dsimp only at h1
  split at h1
  ·rename_i hc
   split at h1
   ·rename_i d hl
    obtain⟨v,q1,q2⟩:=rr.lookup hl
    exact⟨a,C,dx,vs,v,rfl,hh,(hC C hc).1,(hC C hc).2,q1,h1 v H1 e1 q2⟩
   ·exact False.elim h1
  ·exact False.elim h1
 | _=>exact False.elim h1
noncomputable def hid (H:Hp) (a:Addr):Hp:=fun b=>if b=a then none else H b
noncomputable def spI (K:PySem.W.Frag) (C:Addr) (n:Nat) (F:List D→M (List (Str×D))):Sp:=fun vs H Q E=> ∃a dx ws ds,vs= .ref a::ws∧H a=some (.ins C dx [])∧dx≠a∧IsL K (hid H a) ds ws∧vs.length=n∧(match F ds with
 | none=>False
 | some (.error c)=> ∀H',Same (hid H a) H'→E (.ref c) none H'
 | some (.ok fs)=> ∀H' fvs,H' a=some (.ins C dx fvs)→IsF K H' fs fvs→Same (hid H a) H'→Q .non H')
noncomputable def Ctor (P:Program) (w:World) (K:PySem.W.Frag) (mg:Str→Option Value) (base:Heap) (k:Nat) (x:Str) (C:Addr) (F:List D→M (List (Str×D))):Prop:=
 ∃f fd ps,mg x=some (.ref C)∧Mk K C f∧Binds K fd ps []∧(∀ds r,F ds=some r→ds.length+1=ps.length)∧FnOk P w K mg base (CXD P w) k f fd ps (spI K C ps.length F)
noncomputable def mkO (C:Addr) (F:List D→M (List (Str×D))) (ds:List D):M D:=bnd (F ds) fun fs=>ok (.obj C fs)
theorem run_mk {ps:List Str} {F:List D→M (List (Str×D))} (Mm:Mk X.K C f) (G:FnOk X.prog X.w X.K X.mg X.base (CXD X.prog X.w) k f fd ps (spI X.K C ps.length F)) (hr:aCw (k+1) X.A) (hb:Binds X.K fd ps []) (I:Inv X pins σ H s) (r:Vals vs us) (i:IsL X.K H ds vs)
  (h:Res X σ H (fun d=> ∀v H',Same H H'→Is X.K H' d v→Q v H') (mkO C F ds)) (hL: ∀ds r,F ds=some r→ds.length+1=ps.length):wpAny (model X.prog X.w) X.A (call (.ref C) us) (EP X pins σ Q) X.xe s:=by
 have hF: ∃z,F ds=some z:=by
  cases q:F ds with
  | none=>unfold mkO at h;rw[q] at h;exact False.elim h
  | some z=>exact⟨z,rfl⟩
 obtain⟨z,hz⟩:=hF
 have hn:=hL ds z hz
 have hsp: ∀x dx,H x=none→H dx=none→dx≠x→spI X.K C ps.length F (.ref x::vs) (upd (upd H dx (.own x)) x (.ins C dx [])) (fun v H2=>v= .non∧Q (.ref x) H2) (fun cv _ H'=> ∃c,cv= .ref c∧Same H H'∧Thr X σ H c):=by
  intro x dx hx hdx ne
  have sm:Same H (hid (upd (upd H dx (.own x)) x (.ins C dx [])) x):=fun b o q=>by
   have hb:b≠x:=aCc q hx
   unfold hid
   rw[if_neg hb,aAk hb,aAk (aCc q hdx)]
   exact q
  refine⟨x,dx,vs,ds,rfl,aAi,ne,i.mono sm,by rw[List.length_cons,←i.length];exact hn,?_⟩
  unfold mkO at h
  rw[hz] at h⊢
  cases z with
  | error c=>exact fun H' e=>⟨c,rfl,sm.trans e,h⟩
  | ok fs=>exact fun H' fvs e1 e2 e3=>⟨rfl,h _ H' (sm.trans e3) (.obj e1 e2)⟩
 have hq:=hsp (s.heap.objs.size+1) s.heap.objs.size (I.hok.fresh (Nat.le_succ _)) (I.hok.fresh (Nat.le_refl _)) (Nat.ne_of_lt (Nat.lt_succ_self _))
 have I2:=Inv.made (C:=C) I
 have r2:Vals (V.ref (s.heap.objs.size+1)::vs) (Value.ref (s.heap.objs.size+1)::us):= .cons rfl r
 have hl:((Value.ref (s.heap.objs.size+1)::us)++ []).length=ps.length:=by
  rw[List.append_nil,List.length_cons,←r.length,←i.length];exact hn
 have hbb:=hb {s with heap:=(s.heap.push PySem.W.emptyDict).push (PySem.W.instObj C s.heap.objs.size)} (Value.ref (s.heap.objs.size+1)::us) I2.kIn hl
 rw[List.append_nil] at hbb
 refine wpAny_call (make_map (f:=f) I.kIn Mm.makes Mm.init (beq_iff_eq.mp Mm.fn) (codeAny_mono (G.run _ X.stack _ _ ⟨Value.ref (s.heap.objs.size+1)::us,[]⟩ (Value.ref (s.heap.objs.size+1)::us) _ _ _ (hr.make C us [])
  (I2.env0.make C us []) hbb r2 hq) fun r s' hq'=> ?_))
 cases r with
 | error e=>
  obtain⟨c,ea,H',ee,os,bare,un,fl,c',ec,sm',th⟩:=hq'
  cases ec
  exact th pins s' H' e sm' ⟨ea,ee,.inr ⟨_,_,I2,os,bare,un,fl⟩⟩
 | ok fl=>
  cases fl with
  | ret u=>
   obtain⟨v,H',I3,rv,ev,q3⟩:=I2.after hq'
   subst ev
   exact⟨rv,⟨V.ref (s.heap.objs.size+1),H',I3,rfl,q3⟩⟩
  | next=>exact False.elim hq'
  | brk=>exact False.elim hq'
  | cont=>exact False.elim hq'
theorem pd_make0 {F:List D→M (List (Str×D))} (G:Ctor X.prog X.w X.K X.mg X.base k x C F) (hr:aCw (k+1) X.A) (hg:Gl X x) (hdb:(x==("__debug__":Str))=false:=by decide):PD X B (.Call (.Name x p) [] [] pos) (fun _=>mkO C F []):=by
 intro pins s σ H Q I h
 obtain⟨f,fd,ps,h1,h2,h3,hl,h4⟩:=G
 obtain⟨ρ,r,h⟩:=h
 refine wpAny_Call_Name_kw (ld_glob I hg h1 ?_ hdb)
 exact PySem.W.callWith_K0 I.kIn h2.kp (run_mk (us:=[]) (vs:=[]) (ds:=[]) h2 h4 hr h3 I .nil .nil h hl)
end
noncomputable def tDG (X:Cx) (B:Hp) (G:D→Rho→Option Rho):TG:=fun v σ H Q=> ∃ρ d ρ',Rel X.K B ρ σ H∧Is X.K H d v∧G d ρ=some ρ'∧∀σ' H',Rel X.K B ρ' σ' H'→Q σ' H'
noncomputable abbrev PDG (X:Cx) (B:Hp) (tg:Expr) (G:D→Rho→Option Rho):Prop:=PG X tg (tDG X B G)
section
variable {X:Cx} {B:Hp} {tg:Expr} {pos:Pos} {x:Str}
noncomputable def gN (i:Nat):D→Rho→Option Rho:=fun d ρ=>some (setV i d ρ)
theorem aBk {i:Nat} (hN:X.N.Nodup) (hi:X.N[i]? =some x) (hx:Loc X.env.scope x) (hf:X.fn x=true∨X.env.scope.names.lookup x=some .local:=by first | exact .inl rfl | exact .inr rfl | assumption):PDG X B (.Name x pos) (gN i):=by
 intro pins s σ H v u Q I r h
 obtain⟨ρ,d,ρ',r1,i1,e,q⟩:=h
 cases e
 exact pg_name hN hi hx hf pins s σ H v u Q I r (q _ H (r1.setV i1))
noncomputable def gN2 (i j:Nat):D→Rho→Option Rho:=fun d ρ=>match d with
 | .tup [a,b]=>some (setV j b (setV i a ρ))
 | _=>none
theorem pdg_tup2 {i j:Nat} {y:Str} {p1 p2:Pos} {k:Nat} (hc:X.calm=true) (hN:X.N.Nodup) (hi:X.N[i]? =some x) (hx:Loc X.env.scope x) (hj:X.N[j]? =some y) (hy:Loc X.env.scope y)
  (hf:X.fn x=true∨X.env.scope.names.lookup x=some .local:=by first | exact .inl rfl | exact .inr rfl | assumption) (hf2:X.fn y=true∨X.env.scope.names.lookup y=some .local:=by first | exact .inl rfl | exact .inr rfl | assumption):
  PDG X B (.Tuple [.Name x p1,.Name y p2] k pos) (gN2 i j):=by
 intro pins s σ H v u Q I r h
 obtain⟨ρ,d,ρ',r1,i1,e,q⟩:=h
 unfold gN2 at e
 split at e
 ·rename_i a b
  cases e
  cases i1 with
  | tup hh rr=>
   cases rr with
   | cons ia rr=>
    cases rr with
    | cons ib rr=>
     cases rr
     refine pg_tup (n:=2) hc (pgs_cons (pg_name hN hi hx hf) (pgs_cons (pg_name hN hj hy hf2) pgs_nil)) rfl rfl pins s σ H _ u Q I r ?_
     refine⟨_,_,rfl,hh.sq,rfl,_,_,rfl,_,_,rfl,rfl,?_⟩
     exact q _ H ((r1.setV ia).setV ib)
 ·cases e
end
noncomputable def loop (G:D→Rho→Option Rho) (F:Rho→Option Out):List D→Rho→Option Out
 | [],ρ=>some (.nx ρ)
 | d::ds,ρ=>match G d ρ with
  | none=>none
  | some ρ1=>match F ρ1 with
   | some (.nx ρ2)=>loop G F ds ρ2
   | some (.ct ρ2)=>loop G F ds ρ2
   | some (.bk ρ2)=>some (.nx ρ2)
   | some (.rt d)=>some (.rt d)
   | some (.ex c ρ2)=>some (.ex c ρ2)
   | none=>none
structure ItD (K:PySem.W.Frag) (J:It) (ds:List D) (B:Hp):Prop where
 go: ∀j H,Same B H→j<ds.length→J.go j H
 yld: ∀j H x H',Same B H→J.yld j H x H'→j<ds.length→Same H H'∧∃d,ds[j]? =some d∧Is K H' d x
 stop: ∀j H,Same B H→ds.length≤j→J.stop j H
theorem itd_list {K:PySem.W.Frag} {a:Addr} {ds:List D} {vs:List V} {B:Hp} (h:SqL K B a vs) (r:IsL K B ds vs):ItD K (Itl K a) ds B where
 go:=fun j H e q=>⟨vs,vs[j]'(by rw[←r.length];exact q),e.seq h,by simp[show j<vs.length by rw[←r.length];exact q]⟩
 yld:=fun j H x H' e y q=>by
  obtain⟨y1,y2⟩:=y
  subst y1
  obtain⟨d,h1,h2⟩:=r.getV (y2 vs (e.seq h))
  exact⟨Same.refl _,d,h1,h2.mono e⟩
 stop:=fun j H e q=>⟨vs,e.seq h,by rw[←r.length];exact q⟩
theorem itd_tup {K:PySem.W.Frag} {a:Addr} {ds:List D} {vs:List V} {B:Hp} (h:SqT K B a vs) (r:IsL K B ds vs):ItD K (Itt K a) ds B where
 go:=fun j H e q=>⟨vs,vs[j]'(by rw[←r.length];exact q),SqT.mono e h,by simp[show j<vs.length by rw[←r.length];exact q]⟩
 yld:=fun j H x H' e y q=>by
  obtain⟨y1,y2⟩:=y
  subst y1
  obtain⟨d,h1,h2⟩:=r.getV (y2 vs (SqT.mono e h))
  exact⟨Same.refl _,d,h1,h2.mono e⟩
 stop:=fun j H e q=>⟨vs,SqT.mono e h,by rw[←r.length];exact q⟩
noncomputable def rng (lo:Int) (n:Nat):List D:=(List.range n).map fun (j:Nat)=>D.int (lo+(j:Int))
theorem itd_rng {K:PySem.W.Frag} (lo:Int) (n:Nat) (B:Hp):ItD K (Itr lo n) (rng lo n) B where
 go:=fun j H e q=>by unfold rng at q;rw[List.length_map,List.length_range] at q;exact q
 yld:=fun j H x H' e y q=>by
  unfold rng at q;rw[List.length_map,List.length_range] at q
  obtain⟨y1,y2⟩:=y
  subst y2
  subst y1
  refine⟨Same.refl _,.int (lo+j),?_,.int _⟩
  unfold rng
  rw[List.getElem?_map,List.getElem?_range q];rfl
 stop:=fun j H e q=>by unfold rng at q;rw[List.length_map,List.length_range] at q;exact q
section
variable {X:Cx} {B:Hp} {tg iter:Expr} {pos:Pos} {G:D→Rho→Option Rho} {F:Rho→Option Out} {body:List Stmt}
theorem Rel.sub {K:PySem.W.Frag} {B B':Hp} {ρ:Rho} {σ:St} {H:Hp} (e:Same B B') (r:Rel K B' ρ σ H):Rel K B ρ σ H:=by
 obtain⟨O,h1,ho,h2,hl,h3⟩:=r
 exact⟨O,h1,ho,e.trans h2,hl,h3⟩
noncomputable def IterOk (X:Cx) (B:Hp) (σ:St) (ds:List D) (ρ1:Rho) (J:It) (H1:Hp):Prop:= ∃B',ItD X.K J ds B'∧Rel X.K B' ρ1 σ H1∧Same B B'
theorem for_red {J:It} {H1:Hp} {σ:St} {E:Ends} {ds:List D} {ρ1:Rho} (hi:IterOk X B σ ds ρ1 J H1) (h:GoodO X B E (loop G F ds ρ1)) {g:TG} {tb:TS} (hg: ∀B v σ H Q,tDG X B G v σ H Q→g v σ H Q) (hb: ∀B E σ H,tDS X B F E σ H→tb E σ H):
  ∃W:Nat→Nat→St→Hp→Prop,(∃m,W 0 m σ H1)∧∀i m σ H,W i m σ H→
   (J.stop i H∧E.nx σ H)∨(J.go i H∧∃N:St→Hp→Prop,(∀σ' H',N σ' H'→∃m',m'<m∧W (i+1) m' σ' H')∧∀x H',J.yld i H x H'→g x σ H' fun σ2 H2=>tb {E with nx:=N,ct:=N,bk:=E.nx} σ2 H2):=by
 obtain⟨B',hJ,r1,sB⟩:=hi
 refine⟨fun j m σ H=>m=ds.length-j∧j≤ds.length∧∃ρj,Rel X.K B' ρj σ H∧GoodO X B E (loop G F (ds.drop j) ρj),⟨ds.length,by simp,Nat.zero_le _,ρ1,r1,by simpa using h⟩,?_⟩
 rintro j m σ H ⟨rfl,hj,ρj,rj,gj⟩
 have sH:Same B' H:=rj.kept
 by_cases hlt:j<ds.length
 ·have hd:ds.drop j=ds[j]::ds.drop (j+1):=List.drop_eq_getElem_cons hlt
  rw[hd] at gj
  refine .inr ⟨hJ.go j H sH hlt,fun σ' H'=> ∃ρ',Rel X.K B' ρ' σ' H'∧GoodO X B E (loop G F (ds.drop (j+1)) ρ'),fun σ' H' ⟨ρ',r',g'⟩=>⟨ds.length-(j+1),by omega,rfl,hlt,ρ',r',g'⟩,fun x H' y=> ?_⟩
  obtain⟨e1,d,e2,e3⟩:=hJ.yld j H x H' sH y hlt
  have ed:ds[j]=d:=by rw[List.getElem?_eq_getElem hlt] at e2;exact Option.some.inj e2
  rw[ed] at gj
  unfold loop at gj
  cases q:G d ρj with
  | none=>rw[q] at gj;exact False.elim gj
  | some ρa=>
   rw[q] at gj
   refine hg B' x σ H' _ ⟨ρj,d,ρa,rj.mono e1,e3,q,fun σ2 H2 r2=>hb B' _ σ2 H2 ⟨ρa,r2,?_⟩⟩
   dsimp only at gj
   cases qf:F ρa with
   | none=>rw[qf] at gj;exact False.elim gj
   | some o=>
    rw[qf] at gj
    cases o with
    | nx ρ2=>exact fun σ3 H3 r3=>⟨ρ2,r3,gj⟩
    | ct ρ2=>exact fun σ3 H3 r3=>⟨ρ2,r3,gj⟩
    | bk ρ2=>exact fun σ3 H3 r3=>gj σ3 H3 (r3.sub sB)
    | rt d=>exact fun v H3 s3 i3=>gj v H3 (sB.trans s3) i3
    | ex c ρ2=>exact fun pins s σ3 H3 ev r3 x3=>gj pins s σ3 H3 ev (r3.sub sB) x3
 ·have e:ds.drop j=[]:=List.drop_eq_nil_of_le (by omega)
  rw[e] at gj
  exact .inl ⟨hJ.stop j H sH (by omega),gj σ H (rj.sub sB)⟩
noncomputable def itD:D→M (List D)
 | .lst ds=>ok ds
 | .tup ds=>ok ds
 | _=>none
noncomputable def iD (X:Cx) (tl:TE):TI:=fun σ H R=>tl σ H fun x H1=>(∃a,x= .ref a∧(∃xs,SqL X.K H1 a xs)∧R (Itl X.K a) H1)∨(∃a,x= .ref a∧(∃xs,SqT X.K H1 a xs)∧R (Itt X.K a) H1)
theorem pi_D {l:Expr} {tl:TE} (hl:PE X l tl):PI X tg l (iD X tl):=by
 intro pins s σ H R I h
 refine thn (hl pins s σ H _ I h) fun v s1 ⟨x,H1,I1,r1,q1⟩=> ?_
 rcases q1 with⟨a,e,⟨xs,hq⟩,q⟩ |⟨a,e,⟨xs,hq⟩,q⟩
 ·subst e
  cases r1
  obtain⟨its,rv,p,hz⟩:=I1.list hq
  refine wpAny_pyIter_list p.isList ?_
  refine⟨s1.heap.objs.size,[s1.heap.objs.size],_,_,H1,rfl,I1.kept (t':=s1.toks) fun b o e=>Heap.get?_push_of_some _ e,turn_list a _,⟨_,Heap.get?_push_size _ rfl,rfl,rfl⟩,fun b hb=> ?_,q⟩
  have e:b=s1.heap.objs.size:=by simpa using hb
  subst e
  exact I1.fpOk (Nat.le_refl _) (I1.hok.fresh (Nat.le_refl _))
 ·subst e
  cases r1
  obtain⟨its,rv,p,hz⟩:=I1.tuple hq
  refine wpAny_pyIter_tuple (show s1.heap.IsTuple a its.toArray from p) ?_
  refine⟨s1.heap.objs.size,[s1.heap.objs.size],_,_,H1,rfl,I1.kept (t':=s1.toks) fun b o e=>Heap.get?_push_of_some _ e,turn_tuple a _,⟨_,Heap.get?_push_size _ rfl,rfl,rfl⟩,fun b hb=> ?_,q⟩
  have e:b=s1.heap.objs.size:=by simpa using hb
  subst e
  exact I1.fpOk (Nat.le_refl _) (I1.hok.fresh (Nat.le_refl _))
theorem pds_forG {wi:TI} {S:Rho→Option Out} (hp:PassesOwn (model X.prog X.w) X.A X.env X.xe) (hc:X.calm=true) (hi:PI X tg iter wi) (hg: ∀B,PDG X B tg G) (hb: ∀B,PDB X B body F)
  (hr: ∀E σ H R,tDS X B S E σ H→(∀J H1 ds ρ1,IterOk X B σ ds ρ1 J H1→GoodO X B E (loop G F ds ρ1)→R J H1)→wi σ H R) (hs: ∀x,foldedSetIterable iter X.env x=pure x:=by intro _;rfl):PDS X B (.For tg iter body [] pos) S:=by
 have hg':PG X tg (fun v σ H Q=> ∃B,tDG X B G v σ H Q):=fun pins s σ H v u Q I r ⟨B,h⟩=>hg B pins s σ H v u Q I r h
 have hb':PSs X body (fun E σ H=> ∃B,tDS X B F E σ H):=fun pins s σ H E I ⟨B,h⟩=>hb B pins s σ H E I h
 refine PS.of (ps_for hp hc hi hg' hb' hs) fun E σ H h=> ?_
 exact hr E σ H _ h fun J H1 ds ρ1 i1 g1=>for_red (g:=fun v σ H Q=> ∃B,tDG X B G v σ H Q) (tb:=fun E σ H=> ∃B,tDS X B F E σ H) i1 g1 (fun B v σ H Q q=>⟨B,q⟩) fun B E σ H q=>⟨B,q⟩
noncomputable def relAt (i:Nat) (ρ:Rho):Rho:=match ρ[i]? with
 | some (some (.own _))=>free ρ
 | some (some (.oin _ _ _ _))=>free ρ
 | some (some (.ow _))=>free ρ
 | some (some (.tk _))=>free ρ
 | some (some (.nl _ _))=>free ρ
 | _=>ρ
noncomputable def aCb (i:Nat) (G:D→Rho→Option Rho) (F:Rho→Option Out):Rho→Option Out:=fun ρ=>match look i ρ with
 | some (.ok d)=>(match itD d with
  | some (.ok ds)=>loop G F ds (relAt i ρ)
  | _=>none)
 | _=>none
theorem Rel.base {K:PySem.W.Frag} {B:Hp} {ρ:Rho} {σ:St} {H:Hp} (r:Rel K B ρ σ H): ∃B',Rel K B' ρ σ H∧Same B B'∧Same B' H∧(∀(i:Nat) (d:D),ρ[i]? =some (some (SV.sh d))→∃v,σ[i]? =some (some v)∧Is K B' d v)∧(∀d v,d.imm=true→Is K H d v→Is K B' d v):=by
 obtain⟨O,h1,ho,h2,hl,h3⟩:=r
 exact⟨Off H O,⟨O,h1,ho,Same.refl _,hl,h3⟩,h2,Off.same _ _,fun i d q=>h3 i _ q,fun d v q i=>off_imm ho q i⟩
theorem Rel.baseAll {K:PySem.W.Frag} {B:Hp} {ρ:Rho} {σ:St} {H:Hp} (r:Rel K B ρ σ H):Rel K H (free ρ) σ H:=by
 have e0:Off H (fun _=>none)=H:=by funext b;unfold Off;rw[if_neg (fun⟨i,e⟩=>nomatch e)]
 refine⟨fun _=>none,(by intro _ _ _ q;cases q),(by intro _ _ q;cases q),by rw[e0];exact Same.refl _,?_,fun i sv q=> ?_⟩
 ·obtain⟨O,_,_,_,hl,_⟩:=r.freed
  exact hl
 ·unfold free at q
  rw[List.getElem?_map] at q
  obtain⟨o,e1,e2⟩:=Option.map_eq_some_iff.mp q
  cases o with
  | none=>cases e2
  | some sv0=>
   have e2':sv0.rel=sv:=Option.some.inj e2
   subst e2'
   obtain⟨v,e3,e4⟩:=r.get e1
   have:sv0.rel= .sh sv0.cur:=by cases sv0<;>rfl
   rw[this]
   exact⟨v,e3,by rw[e0];exact e4⟩
theorem iter_of {K:PySem.W.Frag} {H:Hp} {d:D} {v:V} {ds:List D} (i:Is K H d v) (h:itD d=ok ds): ∃a vs,v= .ref a∧IsL K H ds vs∧(SqL K H a vs∨SqT K H a vs):=by
 cases i with
 | lst hh r=>have:=aBo h;subst this;exact⟨_,_,rfl,r,.inl hh⟩
 | tup hh r=>have:=aBo h;subst this;exact⟨_,_,rfl,r,.inr hh⟩
 | _=>exact nomatch h
theorem aC5 (i:Nat) {x:Str} {p:Pos} (hN:X.N[i]? =some x) (hv:Vis X.env.scope x) (hp:PassesOwn (model X.prog X.w) X.A X.env X.xe) (hc:X.calm=true) (hg: ∀B,PDG X B tg G) (hb: ∀B,PDB X B body F)
  (hd:(x==("__debug__":Str))=false:=by decide) (hcd:(x==("__classdict__":Str))=false:=by decide) (hs: ∀y,foldedSetIterable (.Name x p) X.env y=pure y:=by intro _;rfl):PDS X B (.For tg (.Name x p) body [] pos) (aCb i G F):=by
 refine pds_forG hp hc (pi_D (pe_var hN hv hd hcd)) hg hb (fun E σ H R h k=> ?_) hs
 obtain⟨ρ,r,h⟩:=h
 unfold aCb look at h
 split at h
 ·rename_i d0 hd0
  split at hd0
  ·rename_i sv q
   have e:=aBo hd0
   subst e
   split at h
   ·rename_i ds hds
    obtain⟨v,e1,e2⟩:=r.get q
    obtain⟨a,vs,rfl,il,hq⟩:=iter_of e2 hds
    refine⟨_,e1,?_⟩
    have key: ∃B' vs,Rel X.K B' (relAt i ρ) σ H∧Same B B'∧IsL X.K B' ds vs∧(SqL X.K B' a vs∨SqT X.K B' a vs):=by
     cases sv with
     | sh d=>
      obtain⟨B',b1,b2,b3,b4,b5⟩:=r.base
      obtain⟨v',f1,f2⟩:=b4 i d q
      rw[e1] at f1
      have:=Option.some.inj (Option.some.inj f1);subst this
      obtain⟨a',vs',ea,il',hq'⟩:=iter_of f2 hds
      cases ea
      have e:relAt i ρ=ρ:=by unfold relAt;rw[q]
      exact⟨B',vs',by rw[e];exact b1,b2,il',hq'⟩
     | own ds'=>
      have e:relAt i ρ=free ρ:=by unfold relAt;rw[q]
      exact⟨H,vs,by rw[e];exact r.baseAll,r.kept,il,hq⟩
     | oin a C dx fs=>
      have e:relAt i ρ=free ρ:=by unfold relAt;rw[q]
      exact⟨H,vs,by rw[e];exact r.baseAll,r.kept,il,hq⟩
     | ow o=>
      have e:relAt i ρ=free ρ:=by unfold relAt;rw[q]
      exact⟨H,vs,by rw[e];exact r.baseAll,r.kept,il,hq⟩
     | tk ks=>
      have e:relAt i ρ=free ρ:=by unfold relAt;rw[q]
      exact⟨H,vs,by rw[e];exact r.baseAll,r.kept,il,hq⟩
     | nl kd ls=>
      have e:relAt i ρ=free ρ:=by unfold relAt;rw[q]
      exact⟨H,vs,by rw[e];exact r.baseAll,r.kept,il,hq⟩
    obtain⟨B',vs',k1,k2,k3,k4⟩:=key
    rcases k4 with k4 | k4
    ·exact .inl ⟨a,rfl,⟨_,k1.kept.seq k4⟩,k _ H ds (relAt i ρ) ⟨B',itd_list k4 k3,k1,k2⟩ h⟩
    ·exact .inr ⟨a,rfl,⟨_,SqT.mono k1.kept k4⟩,k _ H ds (relAt i ρ) ⟨B',itd_tup k4 k3,k1,k2⟩ h⟩
   ·exact False.elim h
  ·exact nomatch hd0
 ·exact False.elim h
noncomputable def sForE (f:Rho→M D) (G:D→Rho→Option Rho) (F:Rho→Option Out):Rho→Option Out:=fun ρ=>lft (f ρ) ρ fun d=>match itD d with
 | some (.ok ds)=>loop G F ds (if d.imm=true then ρ else free ρ)
 | _=>none
theorem pds_forE {fa:Rho→M D} (hp:PassesOwn (model X.prog X.w) X.A X.env X.xe) (hc:X.calm=true) (he:PD X B iter fa) (hg: ∀B,PDG X B tg G) (hb: ∀B,PDB X B body F) (hs: ∀y,foldedSetIterable iter X.env y=pure y:=by intro _;rfl):PDS X B (.For tg iter body [] pos) (sForE fa G F):=by
 refine pds_forG hp hc (pi_D he) hg hb (fun E σ H R h k=> ?_) hs
 obtain⟨ρ,r,h⟩:=h
 refine⟨ρ,r,(aBa r h).imp fun d h1 v H1 e1 i1=> ?_⟩
 split at h1
 ·rename_i ds hds
  obtain⟨a,vs,rfl,il,hq⟩:=iter_of i1 hds
  have r1:=r.mono e1
  have key: ∃B' vs,Rel X.K B' (if d.imm=true then ρ else free ρ) σ H1∧Same B B'∧IsL X.K B' ds vs∧(SqL X.K B' a vs∨SqT X.K B' a vs):=by
   by_cases q:d.imm=true
   ·obtain⟨B',b1,b2,b3,b4,b5⟩:=r1.base
    obtain⟨a',vs',ea,il',hq'⟩:=iter_of (b5 d _ q i1) hds
    cases ea
    rw[if_pos q]
    exact⟨B',vs',b1,b2,il',hq'⟩
   ·rw[if_neg q]
    exact⟨H1,vs,r1.baseAll,r1.kept,il,hq⟩
  obtain⟨B',vs',k1,k2,k3,k4⟩:=key
  rcases k4 with k4 | k4
  ·exact .inl ⟨a,rfl,⟨_,k1.kept.seq k4⟩,k _ H1 ds _ ⟨B',itd_list k4 k3,k1,k2⟩ h1⟩
  ·exact .inr ⟨a,rfl,⟨_,SqT.mono k1.kept k4⟩,k _ H1 ds _ ⟨B',itd_tup k4 k3,k1,k2⟩ h1⟩
 ·exact False.elim h1
noncomputable def sForR1 (f:Rho→M D) (G:D→Rho→Option Rho) (F:Rho→Option Out):Rho→Option Out:=fun ρ=>lft (f ρ) ρ fun d=>match d with
 | .int j=>if j<2^62∧ -(2^62)≤j then loop G F (rng 0 j.toNat) ρ else none
 | _=>none
theorem pds_forR1 {a:Expr} {fa:Rho→M D} {p p1:Pos} (hgl:Gl X "range") (hm:X.mg "range"=none) (hp:PassesOwn (model X.prog X.w) X.A X.env X.xe) (hc:X.calm=true) (he:PD X B a fa) (hg: ∀B,PDG X B tg G) (hb: ∀B,PDB X B body F)
  (hst:starEach [a] X.env=[(false,eval a X.env)]:=by exact star1 rfl) (hs: ∀y,foldedSetIterable (.Call (.Name "range" p) [a] [] p1) X.env y=pure y:=by intro _;rfl):PDS X B (.For tg (.Call (.Name "range" p) [a] [] p1) body [] pos) (sForR1 fa G F):=by
 refine pds_forG hp hc (pi_range1 hgl hm (aA4 he aBx hst) hst) hg hb (fun E σ H R h k=> ?_) hs
 obtain⟨ρ,r,h⟩:=h
 refine⟨ρ,r,(aBa r h).imp fun d h1 v H1 e1 i1=> ?_⟩
 cases i1<;>first | exact False.elim h1 | skip
 rename_i j
 dsimp only at h1
 split at h1
 ·rename_i hj
  obtain⟨B',b1,b2,b3,b4,b5⟩:=(r.mono e1).base
  exact⟨j,rfl,hj.2,hj.1,k _ H1 _ ρ ⟨B',itd_rng 0 j.toNat B',b1,b2⟩ h1⟩
 ·exact False.elim h1
noncomputable def sForR2 (f g:Rho→M D) (G:D→Rho→Option Rho) (F:Rho→Option Out):Rho→Option Out:=fun ρ=>lft (f ρ) ρ fun d=>lft (g ρ) ρ fun d2=>match d,d2 with
 | .int i,.int j=>if (-(2^62)≤i∧i<2^62∧ -(2^62)≤j∧j<2^62) then loop G F (rng i (j-i).toNat) ρ else none
 | _,_=>none
theorem pds_forR2 {a b:Expr} {fa fb:Rho→M D} {p p1:Pos} (hgl:Gl X "range") (hm:X.mg "range"=none) (hp:PassesOwn (model X.prog X.w) X.A X.env X.xe) (hc:X.calm=true) (he:PD X B a fa) (he2:PD X B b fb) (hg: ∀B,PDG X B tg G) (hb: ∀B,PDB X B body F)
  (hst:starEach [a,b] X.env=[(false,eval a X.env),(false,eval b X.env)]:=by exact star2 rfl rfl) (hst2:starEach [b] X.env=[(false,eval b X.env)]:=by exact star1 rfl) (hs: ∀y,foldedSetIterable (.Call (.Name "range" p) [a,b] [] p1) X.env y=pure y:=by intro _;rfl):PDS X B (.For tg (.Call (.Name "range" p) [a,b] [] p1) body [] pos) (sForR2 fa fb G F):=by
 refine pds_forG hp hc (pi_range2 hgl hm (aA4 he (aA4 he2 aBx hst2) (by rw[hst,hst2])) hst hst2) hg hb (fun E σ H R h k=> ?_) hs
 obtain⟨ρ,r,h⟩:=h
 refine⟨ρ,r,(aBa r h).imp fun d h1 v H1 e1 i1=>⟨ρ,r.mono e1,(aBa (r.mono e1) h1).imp fun d2 h2 v2 H2 e2 i2=> ?_⟩⟩
 cases i1<;>first | exact False.elim h2 | skip
 cases i2<;>first | exact False.elim h2 | skip
 rename_i i j
 dsimp only at h2
 split at h2
 ·rename_i hj
  obtain⟨B',b1,b2,b3,b4,b5⟩:=((r.mono e1).mono e2).base
  exact⟨i,j,rfl,hj,k _ H2 _ ρ ⟨B',itd_rng i (j-i).toNat B',b1,b2⟩ h2⟩
 ·exact False.elim h2
end
noncomputable def putD (f:Str) (v:D):List (Str×D)→List (Str×D)
 | []=> [(f,v)]
 |(g,x)::r=>if g=f then (g,v)::r else (g,x)::putD f v r
theorem isF_put {K:PySem.W.Frag} {H:Hp} {f:Str} {d:D} {v:V} (i:Is K H d v): ∀{fs:List (Str×D)} {vs:List (Str×V)},IsF K H fs vs→IsF K H (putD f d fs) (putF f v vs)
 | _,_,.nil=> .cons i .nil
 | _,_,.cons (x:=g) h r=>by
  unfold putD putF
  by_cases q:g=f
  ·rw[if_pos q,if_pos q];exact .cons i r
  ·rw[if_neg q,if_neg q];exact .cons h (isF_put i r)
section
variable {X:Cx} {B:Hp} {e:Expr} {fa:Rho→M D} {pos pos' p:Pos} {x f:Str}
theorem Rel.put {K:PySem.W.Frag} {B H:Hp} {ρ:Rho} {σ:St} {i:Nat} {a C dx:Addr} {fs:List (Str×D)} {d:D} {v:V} (O:Nat→Option Addr) (h1: ∀i j a,O i=some a→O j=some a→i=j) (ho:OwnK H O) (h2:Same B (Off H O)) (hl:ρ.length=σ.length)
  (h3: ∀i sv,ρ[i]? =some (some sv)→Slot K H O σ i sv) (q:ρ[i]? =some (some (.oin a C dx fs))) (iv:Is K (Off H O) d v) {vs:List (Str×V)} (hv:H a=some (.ins C dx vs)):Rel K B (ρ.set i (some (.oin a C dx (putD f d fs)))) σ (upd H a (.ins C dx (putF f v vs))):=by
 obtain⟨z1,z2,z3,vs',z4,z5⟩:=h3 i _ q
 rw[hv] at z4
 cases z4
 have eo:Off (upd H a (.ins C dx (putF f v vs))) O=Off H O:=Off.upd z1
 refine⟨O,h1,fun j b qj=> ?_,by rw[eo];exact h2,by rw[List.length_set,hl],fun j sv qj=> ?_⟩
 ·by_cases e:b=a
  ·subst e;exact⟨_,aAi,rfl⟩
  ·obtain⟨u,w,m⟩:=ho j b qj
   exact⟨u,by rw[aAk e];exact w,m⟩
 ·by_cases e:j=i
  ·subst e
   have hj:j<ρ.length:=(List.getElem?_eq_some_iff.mp q).1
   rw[List.getElem?_set_self hj] at qj
   have q':=Option.some.inj (Option.some.inj qj)
   subst q'
   exact⟨z1,z2,z3,_,aAi,by rw[eo];exact isF_put iv z5⟩
  ·rw[List.getElem?_set_ne (Ne.symm e)] at qj
   have z:=h3 j sv qj
   cases sv with
   | sh d'=>obtain⟨v',e1,e2⟩:=z;exact⟨v',e1,by rw[eo];exact e2⟩
   | own ds=>
    obtain⟨b,ws,e1,e2,e3,e4⟩:=z
    have nb:b≠a:=fun w=>e (h1 j i a (by rw[←w];exact e1) z1)
    exact⟨b,ws,e1,e2,by rw[aAk nb];exact e3,by rw[eo];exact e4⟩
   | oin b C' dx' fs'=>
    obtain⟨e1,e2,e3,ws,e4,e5⟩:=z
    have nb:b≠a:=fun w=>e (h1 j i a (by rw[←w];exact e1) z1)
    exact⟨e1,e2,e3,ws,by rw[aAk nb];exact e4,by rw[eo];exact e5⟩
   | ow o=>
    obtain⟨b,u,e1,e2,e3,e4⟩:=z
    have nb:b≠a:=fun w=>e (h1 j i a (by rw[←w];exact e1) z1)
    exact⟨b,u,e1,e2,by rw[aAk nb];exact e3,by rw[eo];exact e4⟩
   | tk ks=>obtain⟨b,e1,e2⟩:=z;exact⟨b,e1,by rw[eo];exact e2⟩
   | nl kd ls=>
    have hi:i<σ.length:=by have:=(List.getElem?_eq_some_iff.mp q).1;omega
    exact NL.move rfl rfl (fun m b w hm e1 e2=>⟨e1,by rw[aAk (fun z=>absurd (h1 m i a (by rw[←z];exact e1) z1) (by rcases hm with h | h<;>omega))];exact e2⟩) (by rw[eo];exact Same.refl _) z
noncomputable def putAt (cs:Addr→Bool) (i:Nat) (f:Str) (d:D) (ρ:Rho):Option Out:=match ρ[i]? with
 | some (some (.oin a C dx fs))=>if cs C=true∧fs.length<1000 then some (.nx (ρ.set i (some (.oin a C dx (putD f d fs))))) else none
 | _=>none
noncomputable def sFldI (cs:Addr→Bool) (i:Nat) (f:Str) (fa:Rho→M D):Rho→Option Out:=fun ρ=>lft (fa ρ) ρ fun d=>if d.imm=true then putAt cs i f d ρ else none
theorem pds_fldI {cs:Addr→Bool} {i:Nat} (hC: ∀C,cs C=true→Cls X.K C∧NoAttr X.K C f) (hN:X.N[i]? =some x) (hv:Vis X.env.scope x) (he:PD X B e fa) (hs:swapsWith e (some (.Attribute (.Name x p) f pos')) pos.line X.env=pure false:=by rfl)
  (hd:(x==("__debug__":Str))=false:=by decide) (hcd:(x==("__classdict__":Str))=false:=by decide):PDS X B (.Assign [.Attribute (.Name x p) f pos'] e pos) (sFldI cs i f fa):=by
 refine PS.of (ps_fld (pe_var hN hv hd hcd) he hs) fun E σ H h=> ?_
 obtain⟨ρ,r,h⟩:=h
 refine⟨ρ,r,(aBa r h).imp fun d h1 v H1 e1 i1=> ?_⟩
 split at h1
 ·rename_i hm
  unfold putAt at h1
  split at h1
  ·rename_i a C dx fs q
   split at h1
   ·rename_i hc
    obtain⟨O,g1,go,g2,gl,g3⟩:=r.mono e1
    obtain⟨z1,z2,z3,vs,z4,z5⟩:=g3 i _ q
    exact⟨_,z2,a,C,dx,vs,rfl,z4,(hC C hc.1).1,(hC C hc.1).2,by rw[←z5.length];exact hc.2,h1 σ _ (Rel.put O g1 go g2 gl g3 q (off_imm go hm i1) z4)⟩
   ·exact False.elim h1
  ·exact False.elim h1
 ·exact False.elim h1
noncomputable def sFldN (cs:Addr→Bool) (i:Nat) (f:Str) (j:Nat):Rho→Option Out:=fun ρ=>match ρ[j]? with
 | some (some (.sh d))=>putAt cs i f d ρ
 | _=>none
end
noncomputable def aCo (N:List Str) (ds:List D):Rho:=ds.map (fun d=>some (.sh d))++List.replicate (N.length-ds.length) none
noncomputable def aAz:Option Out→M D
 | some (.rt d)=>ok d
 | some (.nx _)=>ok .non
 | some (.ex c _)=>err c
 | _=>none
theorem get_append_map {α β:Type} {f:α→β}: ∀{l:List α} {r:List β} {i:Nat} {b:β},(l.map f++r)[i]? =some b→(∃a,l[i]? =some a∧b=f a)∨(l.length≤i∧r[i-l.length]? =some b)
 | l,r,i,b,h=>by
  by_cases q:i<l.length
  ·rw[List.getElem?_append_left (by simpa using q),List.getElem?_map] at h
   obtain⟨a,e1,e2⟩:=Option.map_eq_some_iff.mp h
   exact .inl ⟨a,e1,e2.symm⟩
  ·rw[List.getElem?_append_right (by simpa using q),List.length_map] at h
   exact .inr ⟨by omega,h⟩
theorem start_get {N:List Str} {vs:List V} {i:Nat} {v:V} (h:vs[i]? =some v):(start N vs)[i]? =some (some v):=by
 unfold start
 have q:i<vs.length:=(List.getElem?_eq_some_iff.mp h).1
 rw[List.getElem?_append_left (by simpa using q),List.getElem?_map,h];rfl
theorem start_length {N:List Str} {vs:List V} (h:vs.length≤N.length):(start N vs).length=N.length:=by
 unfold start;rw[List.length_append,List.length_map,List.length_replicate];omega
theorem rho0_length {N:List Str} {ds:List D} (h:ds.length≤N.length):(aCo N ds).length=N.length:=by
 unfold aCo;rw[List.length_append,List.length_map,List.length_replicate];omega
theorem rel_start {K:PySem.W.Frag} {H:Hp} {N:List Str} {ds:List D} {vs:List V} (i:IsL K H ds vs) (hl:ds.length≤N.length):Rel K H (aCo N ds) (start N vs) H:=by
 have e0:Off H (fun _=>none)=H:=by funext b;unfold Off;rw[if_neg (fun⟨i,e⟩=>nomatch e)]
 refine⟨fun _=>none,(by intro _ _ _ q;cases q),(by intro _ _ q;cases q),by rw[e0];exact Same.refl _,by rw[rho0_length hl,start_length (by rw[←i.length];exact hl)],fun j sv q=> ?_⟩
 unfold aCo at q
 rcases get_append_map q with⟨d,e1,e2⟩ |⟨_,e2⟩
 ·cases e2
  obtain⟨v,h1,h2⟩:=i.get e1
  exact⟨v,start_get h1,by rw[e0];exact h2⟩
 ·rw[List.getElem?_replicate] at e2
  split at e2<;>cases e2
section
variable {P:Program} {w:World} {K:PySem.W.Frag} {mg:Str→Option Value} {base:Heap}
noncomputable abbrev cxN (P:Program) (w:World) (K:PySem.W.Frag) (mg:Str→Option Value) (base:Heap) (N:List Str) (qual:Str) (scope:Scope) (f:Addr) (cd:Value) (A:Around) (outer:List Env) (s:Shared) (H:Hp) (E:XK):Cx:=
 (cxOf (CXD P w) P w K mg base N qual scope f cd A outer s H E).nox
theorem fn_D {x qual:Str} {st:Stmt} {f:Addr} {fd:FuncData} {N ps:List Str} {k:Nat} {F:List D→M D} (Fu:Fun K x qual st f fd) (S:aBb N ps (aAe st)) (hL: ∀ds r,F ds=some r→ds.length=ps.length)
  (hbody: ∀(cdv:Value) (A:Around) (outer:List Env) (s:Shared) (H:Hp) (E:XK),aCw k (A.deeper (envOfC qual (aAe st) s.heap.objs.size f cdv))→
   ∃F',(∀B,PDB (cxN P w K mg base N qual (aAe st) f cdv A outer s H E) B (aA2 st) F')∧∀ds r,F ds=some r→∃d,r= .ok d∧aAz (F' (aCo N ds))=ok d):FnD P w K mg base (k+1) f fd ps F:=by
 obtain⟨oc,od,kV,doc,pm,an,cdv,ct,osl,rfl,lk,hcd⟩:=Fu.ex
 refine fn_of lk hcd S (fun vs H Q E ⟨ds,i,hl,_⟩=>hl) fun A outer s H vs Q E hr hsp=> ?_
 obtain⟨F',hF,hq⟩:=hbody cdv A outer s H E hr
 refine⟨_,(hF H).nox,?_⟩
 obtain⟨ds,i,hl,h⟩:=hsp
 have hn:ps.length≤N.length:=by have:=congrArg List.length S.pre;rw[List.length_take] at this;omega
 cases q:F ds with
 | none=>rw[q] at h;exact False.elim h
 | some r=>
  rw[q] at h
  obtain⟨d,rfl,e⟩:=hq ds r q
  refine⟨aCo N ds,rel_start i (by rw[i.length,hl];exact hn),?_⟩
  cases qf:F' (aCo N ds) with
  | none=>rw[qf] at e;cases e
  | some o=>
   rw[qf] at e
   cases o with
   | rt d'=>have:=aBo e;subst this;exact fun v H' s' i'=>h v H' s' i'
   | nx ρ=>have:=aBo e;subst this;exact fun σ' H' r'=>h _ H' r'.kept .non
   | bk ρ=>cases e
   | ct ρ=>cases e
   | ex c ρ=>cases e
noncomputable def rhoI (N:List Str) (a C dx:Addr) (ds:List D):Rho:=some (.oin a C dx [])::(ds.map (fun d=>some (.sh d))++List.replicate (N.length-(ds.length+1)) none)
theorem rel_startI {H:Hp} {N:List Str} {a C dx:Addr} {ds:List D} {vs:List V} (ha:H a=some (.ins C dx [])) (hd:dx≠a) (i:IsL K (hid H a) ds vs) (hl:ds.length+1≤N.length):Rel K (hid H a) (rhoI N a C dx ds) (start N (.ref a::vs)) H:=by
 have e0:Off H (fun j=>if j=0 then some a else none)=hid H a:=by
  funext b;unfold Off hid
  by_cases q:b=a
  ·rw[if_pos q,if_pos ⟨0,by simp[q]⟩]
  ·rw[if_neg q,if_neg]
   rintro⟨j,e⟩
   dsimp only at e
   split at e
   ·cases e;exact q rfl
   ·cases e
 refine⟨fun j=>if j=0 then some a else none,fun j k b q1 q2=> ?_,fun j b q=> ?_,by rw[e0];exact Same.refl _,?_,fun j sv q=> ?_⟩
 ·by_cases z1:j=0
  ·by_cases z2:k=0
   ·omega
   ·simp[z2] at q2
  ·simp[z1] at q1
 ·by_cases z1:j=0
  ·simp[z1] at q;subst q;exact⟨_,ha,rfl⟩
  ·simp[z1] at q
 ·rw[start_length (by rw[List.length_cons,←i.length];exact hl)]
  unfold rhoI
  rw[List.length_cons,List.length_append,List.length_map,List.length_replicate]
  omega
 ·cases j with
  | zero=>
   unfold rhoI at q
   cases q
   exact⟨rfl,start_get rfl,hd,[],ha,.nil⟩
  | succ j=>
   unfold rhoI at q
   rw[List.getElem?_cons_succ] at q
   rcases get_append_map q with⟨d,e1,e2⟩ |⟨_,e2⟩
   ·cases e2
    obtain⟨v,h1,h2⟩:=i.get e1
    exact⟨v,start_get (by rw[List.getElem?_cons_succ];exact h1),by rw[e0];exact h2⟩
   ·rw[List.getElem?_replicate] at e2
    split at e2<;>cases e2
noncomputable def iniRes (a C dx:Addr):Option Out→M (List (Str×D))
 | some (.nx (some (.oin a' C' dx' fs)::_))=>if a'=a∧C'=C∧dx'=dx then ok fs else none
 | _=>none
theorem init_D {x qual:Str} {st:Stmt} {f C:Addr} {fd:FuncData} {N ps:List Str} {k:Nat} {F:List D→M (List (Str×D))} (Fu:Fun K x qual st f fd) (S:aBb N ps (aAe st)) (hL: ∀ds r,F ds=some r→ds.length+1=ps.length)
  (hbody: ∀(cdv:Value) (A:Around) (outer:List Env) (s:Shared) (H:Hp) (E:XK),aCw k (A.deeper (envOfC qual (aAe st) s.heap.objs.size f cdv))→
   ∃F',(∀B,PDB (cxN P w K mg base N qual (aAe st) f cdv A outer s H E) B (aA2 st) F')∧∀ds r a dx,F ds=some r→∃fs,r= .ok fs∧iniRes a C dx (F' (rhoI N a C dx ds))=ok fs):FnOk P w K mg base (CXD P w) (k+1) f fd ps (spI K C ps.length F):=by
 obtain⟨oc,od,kV,doc,pm,an,cdv,ct,osl,rfl,lk,hcd⟩:=Fu.ex
 refine fn_of lk hcd S (fun vs H Q E hz=>by obtain⟨a,dx,ws,ds,_,_,_,_,hl,_⟩:=hz;exact hl) fun A outer s H vs Q E hr hsp=> ?_
 obtain⟨F',hF,hq⟩:=hbody cdv A outer s H E hr
 obtain⟨a,dx,ws,ds,rfl,ha,hd,i,hl,h⟩:=hsp
 refine⟨_,(hF (hid H a)).nox,?_⟩
 have hn:ps.length≤N.length:=by have:=congrArg List.length S.pre;rw[List.length_take] at this;omega
 cases q:F ds with
 | none=>rw[q] at h;exact False.elim h
 | some r=>
  rw[q] at h
  obtain⟨fs,rfl,e⟩:=hq ds r a dx q
  refine⟨rhoI N a C dx ds,rel_startI ha hd i (by rw[i.length];rw[List.length_cons] at hl;omega),?_⟩
  unfold iniRes at e
  split at e
  ·rename_i a' C' dx' fs' rest qf
   split at e
   ·rename_i hh
    obtain⟨rfl,rfl,rfl⟩:=hh
    have:=aBo e;subst this
    rw[qf]
    intro σ' H' r'
    obtain⟨O,g1,go,g2,gl,g3⟩:=r'
    obtain⟨z1,z2,z3,vs',z4,z5⟩:=g3 0 _ rfl
    exact h H' vs' z4 (z5.mono (Off.same _ _)) (g2.trans (Off.same _ _))
   ·cases e
  ·cases e
end
theorem aAf {F G:Rho→Option Out} {ρ ρ':Rho} (h:F ρ=some (.nx ρ')):aAh F G ρ=G ρ':=by unfold aAh;rw[h]
theorem aB2 {F G:Rho→Option Out} {ρ:Rho} {d:D} (h:F ρ=some (.rt d)):aAh F G ρ=some (.rt d):=by unfold aAh;rw[h]
theorem sIf_t {t:Rho→M Bool} {F G:Rho→Option Out} {ρ:Rho} (h:t ρ=ok true):sIf t F G ρ=F ρ:=by unfold sIf;rw[h];rfl
theorem sIf_f {t:Rho→M Bool} {F G:Rho→Option Out} {ρ:Rho} (h:t ρ=ok false):sIf t F G ρ=G ρ:=by unfold sIf;rw[h];rfl
theorem aCz {f:Rho→M D} {ρ:Rho} {d:D} (h:f ρ=ok d):aBy f ρ=some (.rt d):=by unfold aBy;rw[h];rfl
theorem sSet_ok {i:Nat} {f:Rho→M D} {ρ:Rho} {d:D} (h:f ρ=ok d):aC3 i f ρ=some (.nx (setV i d ρ)):=by unfold aC3;rw[h];rfl
theorem aEa {i:Nat} {d:D} {ρ:Rho} (h:d.imm=true):setV i d ρ=ρ.set i (some (.sh d)):=by unfold setV;rw[if_pos h]
theorem sForR1_ok {f:Rho→M D} {G:D→Rho→Option Rho} {F:Rho→Option Out} {ρ:Rho} {j:Int} (h:f ρ=ok (.int j)) (h1:j<2^62) (h2: -(2^62)≤j):sForR1 f G F ρ=loop G F (rng 0 j.toNat) ρ:=by
 unfold sForR1
 rw[h,lft_ok]
 dsimp only
 rw[if_pos ⟨h1,h2⟩]
theorem loop_inv {G:D→Rho→Option Rho} {F:Rho→Option Out} (P:List D→Rho→Prop): ∀(ds pre:List D) (ρ:Rho),P pre ρ→
  (∀p d q ρ,pre++ds=p++d::q→P p ρ→∃ρ1 ρ2,G d ρ=some ρ1∧(F ρ1=some (.nx ρ2)∨F ρ1=some (.ct ρ2))∧P (p++ [d]) ρ2)→∃ρ',loop G F ds ρ=some (.nx ρ')∧P (pre++ds) ρ'
 | [],pre,ρ,h,_=>⟨ρ,rfl,by rw[List.append_nil];exact h⟩
 | d::ds,pre,ρ,h,st=>by
  obtain⟨ρ1,ρ2,h1,h2,h3⟩:=st pre d ds ρ rfl h
  obtain⟨ρ',h4,h5⟩:=loop_inv P ds (pre++ [d]) ρ2 h3 (fun p d' q ρ e hp=>st p d' q ρ (by rw[←e,List.append_assoc];rfl) hp)
  refine⟨ρ',?_,by rw[List.append_assoc] at h5;exact h5⟩
  unfold loop
  rw[h1]
  dsimp only
  rcases h2 with h2 | h2<;>rw[h2]<;>exact h4
theorem aCf {G:D→Rho→Option Rho} {F:Rho→Option Out} (P:List D→Rho→Prop) (ds:List D) (ρ:Rho) (h:P [] ρ)
  (st: ∀p d q ρ,ds=p++d::q→P p ρ→∃ρ1 ρ2,G d ρ=some ρ1∧(F ρ1=some (.nx ρ2)∨F ρ1=some (.ct ρ2))∧P (p++ [d]) ρ2): ∃ρ',loop G F ds ρ=some (.nx ρ')∧P ds ρ':=by
 have:=loop_inv P ds [] ρ h (fun p d q ρ e=>st p d q ρ (by simpa using e))
 simpa using this
mutual
noncomputable def D.dep:D→Nat
 | .tup ds=>depL ds+1
 | .lst ds=>depL ds+1
 | _=>0
noncomputable def depL:List D→Nat
 | []=>0
 | d::ds=>max d.dep (depL ds)
end
mutual
noncomputable def D.pl:D→Bool
 | .tup ds=>decide (ds.length≤100000)&&plL ds
 | .lst ds=>decide (ds.length≤100000)&&plL ds
 | .obj _ _=>false
 | .dk _=>false
 | .dt _=>false
 | .exc _=>false
 | .set _=>false
 | _=>true
noncomputable def plL:List D→Bool
 | []=>true
 | d::ds=>d.pl&&plL ds
end
theorem dep_at: ∀{ds:List D} {i:Nat} {d:D},ds[i]? =some d→d.dep≤depL ds
 | [],_,_,h=>by simp at h
 | x::ds,0,d,h=>by simp at h;subst h;unfold depL;omega
 | x::ds,i+1,d,h=>by have:=dep_at (ds:=ds) (i:=i) (d:=d) (by simpa using h);unfold depL;omega
theorem pl_at: ∀{ds:List D} {i:Nat} {d:D},plL ds=true→ds[i]? =some d→d.pl=true
 | [],_,_,_,h=>by simp at h
 | x::ds,0,d,q,h=>by simp at h;subst h;unfold plL at q;rw[Bool.and_eq_true] at q;exact q.1
 | x::ds,i+1,d,q,h=>by unfold plL at q;rw[Bool.and_eq_true] at q;exact pl_at (ds:=ds) (i:=i) q.2 (by simpa using h)
noncomputable def denSame (F:List D→M D):Rho→Option Out:=
  (aAh (sIf (orB (aAy (b2 gNe (isi "tuple" (look 1)) (isi "tuple" (look 0)))) (aAy (b2 gNe (isi "list" (look 1)) (isi "list" (look 0))))) (aAh (aBy (con (.bl false)))
  aAp) aAp)
  (aAh (sIf (test (isi2 ["tuple","list"] (look 1))) (aAh (sIf (aAy (b2 gNe (f1 lenD (look 0)) (f1 lenD (look 1)))) (aAh (aBy (con (.bl false)))
  aAp) aAp)
  (aAh (sForR1 (f1 lenD (look 1)) (gN 2) (aAh (sIf (notB (test (app F (aAc (b2 gIx (look 0) (look 2)) (aAc (b2 gIx (look 1) (look 2)) aAv))))) (aAh (aBy (con (.bl false)))
  aAp) aAp)
  aAp))
  (aAh (aBy (con (.bl true)))
  aAp))) aAp)
  (aAh (sIf (aAy (b2 gIs (look 1) (con .non))) (aAh (aBy (b2 gIs (look 0) (con .non)))
  aAp) aAp)
  (aAh (sIf (orB (aAy (b2 gNe (isi "bool" (look 1)) (isi "bool" (look 0)))) (aAy (b2 gNe (isi "str" (look 1)) (isi "str" (look 0))))) (aAh (aBy (con (.bl false)))
  aAp) aAp)
  (aAh (aBy (andV (b2 gEq (isi "int" (look 1)) (isi "int" (look 0))) (b2 gEq (look 0) (look 1))))
  aAp)))))
open Classical in
noncomputable def aD3 (k:Nat):List D→M D
 | [x,y]=>if x=y∧x.pl=true∧x.dep<k then ok (.bl true) else none
 | _=>none
theorem fSame_len (k:Nat): ∀ds r,aD3 k ds=some r→ds.length=2:=by
 intro ds r h
 unfold aD3 at h
 split at h
 ·rfl
 ·cases h
open Classical in
theorem fSame_self {k:Nat} {x:D} (h1:x.pl=true) (h2:x.dep<k):aD3 k [x,x]=ok (.bl true):=by
 show (if x=x∧x.pl=true∧x.dep<k then ok (D.bl true) else none)=_
 rw[if_pos ⟨rfl,h1,h2⟩]
theorem fSame_zero (ds:List D):aD3 0 ds=none:=by
 unfold aD3
 split
 ·rw[if_neg];rintro⟨_,_,h⟩;omega
 ·rfl
theorem same_loop {k:Nat} {x:D} {xs:List D} (hx:x= .tup xs∨x= .lst xs) (hp:plL xs=true) (hd:depL xs<k) (o:Option SV):
  ∃o',loop (gN 2) (aAh (sIf (notB (test (app (aD3 k) (aAc (b2 gIx (look 0) (look 2)) (aAc (b2 gIx (look 1) (look 2)) aAv))))) (aAh (aBy (con (.bl false))) aAp) aAp) aAp) (rng 0 xs.length) [some (.sh x),some (.sh x),o]=some (.nx [some (.sh x),some (.sh x),o']):=by
 obtain⟨ρ',h1,o',h2⟩:=aCf (G:=gN 2) (F:=aAh (sIf (notB (test (app (aD3 k) (aAc (b2 gIx (look 0) (look 2)) (aAc (b2 gIx (look 1) (look 2)) aAv))))) (aAh (aBy (con (.bl false))) aAp) aAp) aAp)
  (fun _ ρ=> ∃o',ρ=[some (.sh x),some (.sh x),o']) (rng 0 xs.length) [some (.sh x),some (.sh x),o] ⟨o,rfl⟩ (fun p d q ρ e ⟨o1,eρ⟩=>by
   subst eρ
   have hm:d∈rng 0 xs.length:=by rw[e];simp
   unfold rng at hm
   obtain⟨j,hj,rfl⟩:=List.mem_map.mp hm
   rw[List.mem_range] at hj
   have hz:xs[j]? =some xs[j]:=List.getElem?_eq_getElem hj
   have ha:atI xs (0+(j:Int))=some xs[j]:=by rw[Int.zero_add];exact atI_nat hz
   have g1:gIx x (.int (0+(j:Int)))=ok xs[j]:=by
    rcases hx with rfl | rfl
    ·show (match atI xs (0+(j:Int)) with | some d=>ok d | none=>none)=_;rw[ha]
    ·show (match atI xs (0+(j:Int)) with | some d=>ok d | none=>none)=_;rw[ha]
   have f1:aD3 k [xs[j],xs[j]]=ok (.bl true):=fSame_self (pl_at hp hz) (Nat.lt_of_le_of_lt (dep_at hz) hd)
   refine⟨[some (.sh x),some (.sh x),some (.sh (.int (0+(j:Int))))],[some (.sh x),some (.sh x),some (.sh (.int (0+(j:Int))))],rfl,.inl ?_,_,rfl⟩
   have e1:app (aD3 k) (aAc (b2 gIx (look 0) (look 2)) (aAc (b2 gIx (look 1) (look 2)) aAv)) [some (.sh x),some (.sh x),some (.sh (.int (0+(j:Int))))]=ok (.bl true):=by
    show bnd (bnd (gIx x (.int (0+(j:Int)))) fun a=>bnd (bnd (bnd (ok x) fun x'=>bnd (ok (.int (0+(j:Int)))) fun y=>gIx x' y) fun b=>bnd (ok []) fun r=>ok (b::r)) fun r=>ok (a::r)) (aD3 k)=_
    rw[g1]
    show bnd (bnd (bnd (gIx x (.int (0+(j:Int)))) fun b=>ok [b]) fun r=>ok (xs[j]::r)) (aD3 k)=_
    rw[g1]
    exact f1
   show aAh (sIf (notB (test _)) _ _) _ _=_
   unfold aAh sIf notB test
   rw[e1]
   rfl)
 exact⟨o',by rw[h1,h2]⟩
theorem same_seq {k:Nat} {x:D} {xs:List D} (hx:x= .tup xs∨x= .lst xs) (hl:xs.length≤100000) (hp:plL xs=true) (hd:depL xs<k):aAz (denSame (aD3 k) [some (.sh x),some (.sh x),none])=ok (.bl true):=by
 obtain⟨o',h⟩:=same_loop hx hp hd none
 have hj:((xs.length:Nat):Int)<2^62∧ -(2^62)≤((xs.length:Nat):Int):=by omega
 have e:sForR1 (f1 lenD (look 1)) (gN 2) (aAh (sIf (notB (test (app (aD3 k) (aAc (b2 gIx (look 0) (look 2)) (aAc (b2 gIx (look 1) (look 2)) aAv))))) (aAh (aBy (con (.bl false))) aAp) aAp) aAp) [some (.sh x),some (.sh x),none]=some (.nx [some (.sh x),some (.sh x),o']):=by
  have e1:f1 lenD (look 1) [some (.sh x),some (.sh x),none]=ok (.int xs.length):=by rcases hx with rfl | rfl<;>rfl
  rw[sForR1_ok e1 hj.1 hj.2,Int.toNat_natCast]
  exact h
 have d1:sIf (orB (aAy (b2 gNe (isi "tuple" (look 1)) (isi "tuple" (look 0)))) (aAy (b2 gNe (isi "list" (look 1)) (isi "list" (look 0))))) (aAh (aBy (con (.bl false))) aAp) aAp [some (.sh x),some (.sh x),none]=some (.nx [some (.sh x),some (.sh x),none]):=by
  rcases hx with rfl | rfl<;>rfl
 have d3:sIf (aAy (b2 gNe (f1 lenD (look 0)) (f1 lenD (look 1)))) (aAh (aBy (con (.bl false))) aAp) aAp [some (.sh x),some (.sh x),none]=some (.nx [some (.sh x),some (.sh x),none]):=by
  rcases hx with rfl | rfl<;>simp[sIf,aAy,b2,f1,lenD,look,gNe,eqF,bnd,ok,lft,blOf,SV.cur,aAp]
 have d4:test (isi2 ["tuple","list"] (look 1)) [some (.sh x),some (.sh x),none]=ok true:=by rcases hx with rfl | rfl<;>rfl
 unfold denSame
 rw[aAf d1]
 have d5: ∀G,aAh (sIf (test (isi2 ["tuple","list"] (look 1))) (aAh (sIf (aAy (b2 gNe (f1 lenD (look 0)) (f1 lenD (look 1)))) (aAh (aBy (con (.bl false))) aAp) aAp) (aAh (sForR1 (f1 lenD (look 1)) (gN 2) (aAh (sIf (notB (test (app (aD3 k) (aAc (b2 gIx (look 0) (look 2)) (aAc (b2 gIx (look 1) (look 2)) aAv))))) (aAh (aBy (con (.bl false))) aAp) aAp) aAp)) (aAh (aBy (con (.bl true))) aAp))) aAp) G [some (.sh x),some (.sh x),none]=some (.rt (.bl true)):=by
  intro G
  apply aB2
  rw[sIf_t d4,aAf d3,aAf e]
  rfl
 rw[d5]
 rfl
theorem same_den {k:Nat} (N:List Str) (hN:N.length=3): ∀ds r,aD3 (k+1) ds=some r→∃d,r= .ok d∧aAz (denSame (aD3 k) (aCo N ds))=ok d:=by
 intro ds r h
 unfold aD3 at h
 split at h
 ·rename_i x y
  split at h
  ·rename_i hh
   obtain⟨rfl,hp,hd⟩:=hh
   have e:=Option.some.inj h
   subst e
   refine⟨.bl true,rfl,?_⟩
   have e0:aCo N [x,x]=[some (.sh x),some (.sh x),none]:=by unfold aCo;rw[hN];rfl
   rw[e0]
   cases x with
   | non=>rfl
   | bl b=>cases b<;>rfl
   | int i=>
    simp[denSame,aAh,sIf,aBy,aAy,b2,gNe,gIs,gEq,eqF,isi,isi2,look,lft,bnd,orB,andV,blOf,test,tru,tyN,isB,kitL,aAz,SV.cur,ok,con,isNon,aAp]
   | str i=>
    simp[denSame,aAh,sIf,aBy,aAy,b2,gNe,gIs,gEq,eqF,isi,isi2,look,lft,bnd,orB,andV,blOf,test,tru,tyN,isB,kitL,aAz,SV.cur,ok,con,isNon,aAp]
   | obj C fs=>simp[D.pl] at hp
   | dk kvs=>simp[D.pl] at hp
   | dt kvs=>simp[D.pl] at hp
   | exc C=>simp[D.pl] at hp
   | set ss=>simp[D.pl] at hp
   | tup xs=>
    simp only[D.pl,Bool.and_eq_true,decide_eq_true_eq] at hp
    exact same_seq (.inl rfl) hp.1 hp.2 (by simp only[D.dep] at hd;omega)
   | lst xs=>
    simp only[D.pl,Bool.and_eq_true,decide_eq_true_eq] at hp
    exact same_seq (.inr rfl) hp.1 hp.2 (by simp only[D.dep] at hd;omega)
  ·cases h
 ·cases h
open Classical in
noncomputable def tt (S:List D→Prop):List D→M D:=fun ds=>if S ds then ok (.bl true) else none
theorem tt_ok {S:List D→Prop} {ds:List D} (h:S ds):tt S ds=ok (.bl true):=by unfold tt;rw[if_pos h]
theorem tt_inv {S:List D→Prop} {ds:List D} {r:Except Addr D} (h:tt S ds=some r):S ds∧r= .ok (.bl true):=by
 unfold tt at h
 split at h
 ·rename_i q;exact⟨q,(Option.some.inj h).symm⟩
 ·cases h
theorem intBits_le {a:Int} {k:Nat} (h:a.natAbs<2^k):Builtin.Int.intBits a≤k:=by
 unfold Builtin.Int.intBits
 split
 ·exact Nat.zero_le _
 ·rename_i q
  have hz:a.natAbs≠0:=by intro z;apply q;simp_all
  have:=(Nat.log2_lt hz).mpr h
  omega
theorem mulB_of {i j:Int} (hi:i.natAbs<2^1048576) (hj:j.natAbs<2^1048576):mulB i j=true:=by
 unfold mulB
 rw[Bool.and_eq_true]
 exact⟨decide_eq_true (intBits_le hi),decide_eq_true (intBits_le hj)⟩
theorem pow_line {n m k:Nat} (h:n<2^m) (q:m≤k):n<2^k:=Nat.lt_of_lt_of_le h (Nat.pow_le_pow_right (by decide) q)
noncomputable def fAt:List D→M D
 | [.lst xs,.int k]=>if 0≤k then (if k<xs.length then (match xs[k.toNat]? with | some d=>ok d | none=>none) else ok (.int 0)) else none
 | _=>none
theorem fAt_len: ∀ds r,fAt ds=some r→ds.length=2:=by
 intro ds r h
 unfold fAt at h
 split at h
 ·rfl
 ·cases h
noncomputable def atZ (ns:List Int) (k:Nat):Int:=ns.getD k 0
theorem fAt_ints (ns:List Int) (k:Nat):fAt [.lst (ns.map D.int),.int k]=ok (.int (atZ ns k)):=by
 show (if 0≤(k:Int) then (if (k:Int)<(ns.map D.int).length then (match (ns.map D.int)[((k:Int)).toNat]? with | some d=>ok d | none=>none) else ok (.int 0)) else none)=_
 rw[if_pos (by omega),Int.toNat_natCast,List.length_map]
 unfold atZ
 by_cases h:k<ns.length
 ·rw[if_pos (by omega),List.getElem?_map,List.getElem?_eq_getElem h]
  simp[List.getD_eq_getElem?_getD,List.getElem?_eq_getElem h]
 ·rw[if_neg (by omega)]
  simp[List.getD_eq_getElem?_getD,List.getElem?_eq_none (Nat.le_of_not_lt h)]
noncomputable def denAt:Rho→Option Out:=
  (aAh (sIf (aAy (b2 gLt (look 1) (f1 lenD (look 0)))) (aAh (aBy (b2 gIx (look 0) (look 1)))
  aAp) aAp)
  (aAh (aBy (con (.int 0)))
  aAp))
theorem at_den (N:List Str) (hN:N.length=2): ∀ds r,fAt ds=some r→∃d,r= .ok d∧aAz (denAt (aCo N ds))=ok d:=by
 intro ds r h
 unfold fAt at h
 split at h
 ·rename_i xs k
  have e0:aCo N [.lst xs,.int k]=[some (.sh (.lst xs)),some (.sh (.int k))]:=by unfold aCo;rw[hN];rfl
  rw[e0]
  split at h
  ·rename_i h0
   split at h
   ·rename_i hk
    split at h
    ·rename_i d hd
     cases h
     refine⟨d,rfl,?_⟩
     have t1:aAy (b2 gLt (look 1) (f1 lenD (look 0))) [some (.sh (.lst xs)),some (.sh (.int k))]=ok true:=by
      show ok (decide (k<(xs.length:Int)))=ok true
      rw[decide_eq_true hk]
     have t2:b2 gIx (look 0) (look 1) [some (.sh (.lst xs)),some (.sh (.int k))]=ok d:=by
      show (match atI xs k with | some d=>ok d | none=>none)=ok d
      have e:k=((k.toNat:Nat):Int):=by omega
      have:atI xs k=some d:=by rw[e];exact atI_nat hd
      rw[this]
     unfold denAt
     rw[aB2 (d:=d)]
     ·rfl
     ·rw[sIf_t t1,aB2 (aCz t2)]
    ·cases h
   ·rename_i hk
    cases h
    refine⟨_,rfl,?_⟩
    have t1:aAy (b2 gLt (look 1) (f1 lenD (look 0))) [some (.sh (.lst xs)),some (.sh (.int k))]=ok false:=by
     show ok (decide (k<(xs.length:Int)))=ok false
     rw[decide_eq_false hk]
    unfold denAt
    rw[aAf (ρ':=[some (.sh (.lst xs)),some (.sh (.int k))])]
    ·rfl
    ·rw[sIf_f t1];rfl
  ·cases h
 ·cases h
theorem appM_ok {m:Str} {FM:Addr→Option (List D→M D)} {fo:Rho→M D} {g:Rho→M (List D)} {ρ:Rho} {C:Addr} {fs:List (Str×D)} {F:List D→M D} {ds:List D} (h1:fo ρ=ok (.obj C fs)) (h2:FM C=some F) (h3:fs.lookup m=none) (h4:g ρ=ok ds):
  appM m FM fo g ρ=F (.obj C fs::ds):=by
 unfold appM
 rw[h1,aDk]
 dsimp only
 rw[h2,h3]
 dsimp only
 rw[h4,aDk]
theorem fld_ok {cs:Addr→Bool} {f:Str} {fo:Rho→M D} {ρ:Rho} {C:Addr} {fs:List (Str×D)} {d:D} (h1:fo ρ=ok (.obj C fs)) (h2:cs C=true) (h3:fs.lookup f=some d):fld cs f fo ρ=ok d:=by
 unfold fld
 rw[h1,aDk]
 dsimp only
 rw[if_pos h2,h3]
theorem aB5 {F:List D→M D} {g:Rho→M (List D)} {ρ:Rho} {ds:List D} (h:g ρ=ok ds):app F g ρ=F ds:=by
 unfold app;rw[h,aDk]
theorem aAj {f:Rho→M D} {g:Rho→M (List D)} {ρ:Rho} {d:D} {ds:List D} (h1:f ρ=ok d) (h2:g ρ=ok ds):aAc f g ρ=ok (d::ds):=by
 unfold aAc;rw[h1,aDk,h2,aDk]
theorem aA0 {ρ:Rho}:aAv ρ=ok []:=rfl
theorem mkT_ok {g:Rho→M (List D)} {ρ:Rho} {ds:List D} (h:g ρ=ok ds) (hl:ds.length≤1000:=by simp):mkT g ρ=ok (.tup ds):=by
 unfold mkT;rw[h,aDk,if_pos hl]
theorem aCy {g:D→D→M D} {fa fb:Rho→M D} {ρ:Rho} {x y:D} {r:M D} (h1:fa ρ=ok x) (h2:fb ρ=ok y) (h3:g x y=r):b2 g fa fb ρ=r:=by
 unfold b2;rw[h1,aDk,h2,aDk,h3]
theorem test_ok {f:Rho→M D} {ρ:Rho} {d:D} {b:Bool} (h:f ρ=ok d) (q:tru d=ok b):test f ρ=ok b:=by unfold test;rw[h,aDk,q]
theorem testB_ok {f:Rho→M D} {ρ:Rho} {b:Bool} (h:f ρ=ok (.bl b)):aAy f ρ=ok b:=by unfold aAy;rw[h,aDk];rfl
theorem notB_ok {f:Rho→M Bool} {ρ:Rho} {b:Bool} (h:f ρ=ok b):notB f ρ=ok (!b):=by unfold notB;rw[h,aDk]
theorem pass_not {f:Rho→M D} {F:Rho→Option Out} {ρ:Rho} (h:f ρ=ok (.bl true)):sIf (notB (test f)) F aAp ρ=some (.nx ρ):=by
 rw[sIf_f (notB_ok (test_ok h rfl))];rfl
theorem fn_none {P:Program} {w:World} {K:PySem.W.Frag} {mg:Str→Option Value} {base:Heap} {k:Nat} {f:Addr} {fd:FuncData} {ps:List Str} {F:List D→M D} (h: ∀ds,F ds=none):FnD P w K mg base k f fd ps F:=by
 have no: ∀vs H Q E,¬spD K ps.length F vs H Q E:=fun vs H Q E ⟨ds,_,_,q⟩=>by rw[h ds] at q;exact q
 exact⟨fun vs H Q E q=>absurd q (no vs H Q E),fun A outer s H args us vs Q E _ _ _ _ q=>absurd q (no vs H Q E)⟩
noncomputable abbrev cxC (X:Cx) (scope:Scope) (cl:List (Str×Addr)) (N:List Str) (C:Addr) (s₀:Shared) (H₀:Hp) (ex:List Addr):Cx:=
 {X with env:=compEnvC scope cl C X.env,N:=N,s₀:=s₀,H₀:=H₀,outer:=X.stack,ex:=ex,fn:=fun _=>false,pn:=[],xe:=fun _ _=>False}
noncomputable def lkAll (cl:List (Str×Addr)) (env:Env):Bool:=cl.all fun p=>(env.cells.lookup p.1==some p.2)&&(env.kindOf p.1==some .cell || env.kindOf p.1==some .free)
noncomputable def nmAll (N N':List Str) (sc:Scope):Bool:=(List.range N.length).all fun i=>match N'[i]? with
 | some x=>((N[i]? ==some x)&&(sc.names.lookup x==some .cell || sc.names.lookup x==some .free)) ||(sc.names.lookup x==none)
 | none=>false
noncomputable def frAll (cl:List (Str×Addr)) (sc:Scope):Bool:=sc.names.all fun p=>(p.2 != .cell&&p.2 != .free) ||(cl.lookup p.1).isSome
theorem lookup_mem {α β:Type} [BEq α] [LawfulBEq α]: ∀{l:List (α×β)} {x:α} {b:β},l.lookup x=some b→(x,b)∈l
 | [],_,_,h=>by simp at h
 |(y,c)::l,x,b,h=>by
  rw[List.lookup_cons] at h
  cases q:x==y with
  | true=>rw[q] at h;simp at h;subst h;have:=LawfulBEq.eq_of_beq q;subst this;exact List.mem_cons_self
  | false=>rw[q] at h;exact List.mem_cons_of_mem _ (lookup_mem h)
theorem codeAny_compLoopG {prog:Program} {w:World} {A:Around} {R:Result→Shared→Prop} {s:Shared} {elt target iter:Expr} {ifs:List Expr} {scope:Scope} {pos:Pos} {it acc:Value} {env:Env} (I:Nat→Shared→Prop)
  (turn: ∀n s,I n s→wpAny (model prog w) A (pyNext it) (fun r s₁=>match r with
   | none=>R (.ok .next) s₁
   | some v=>wpAny (model prog w) A (letOwnedTupleGo target it v) (fun _ s₁'=>wpAny (model prog w) A (assign target env v) (fun _ s₂=>
     wpAny (model prog w) A (forIn ifs true fun c r=>if r=true then do let ok←isTrue c env (eval c env);pure (ForInStep.yield ok) else pure (ForInStep.yield r)) (fun ok s₃=>
      if ok=true then wpAny (model prog w) A (eval elt env) (fun x s₄=>
       wpAny (model prog w) A (call (.builtin "list.append") [acc,x]) (fun _ s₅=> ∃m,m<n∧I m s₅) (fun _ _=>False) s₄) (fun _ _=>False) s₃
      else∃m,m<n∧I m s₃) (fun _ _=>False) s₂) (fun _ _=>False) s₁') (fun _ _=>False) s₁) (fun _ _=>False) s)
  (n:Nat) (h:I n s):codeAny (model prog w) A (.compLoop (.ListComp elt [⟨target,iter,ifs,0⟩] scope pos) 0 it acc env) R s:=by
 refine codeAny_loop rfl I (fun n s hI=> ?_) n h
 show wpAny _ A ((compTurn (.ListComp elt [⟨target,iter,ifs,0⟩] scope pos) 0 it acc env).onRaise (fun x=>do noteFrame x env;theTreesLotGoes x)) _ _ s
 refine wpAny_noted ?_
 rw[compTurn_list]
 refine wpAny_bind (wpAny_standAt (wpAny_bind (wpAny_mono (turn n s hI) (fun r s₁ h₁=> ?_) fun _ _ h'=>h'.elim)))
 cases r with
 | none=>exact wpAny_pure h₁
 | some v=>
  refine wpAny_bind (wpAny_mono h₁ (fun _ s₁' h₁'=> ?_) fun _ _ h'=>h'.elim)
  refine wpAny_bind (wpAny_mono h₁' (fun _ s₂ h₂=>wpAny_bind (wpAny_mono h₂ (fun ok s₃ h₃=> ?_) fun _ _ h'=>h'.elim)) fun _ _ h'=>h'.elim)
  cases ok with
  | false=>exact wpAny_pure ⟨rfl,h₃⟩
  | true=>
   exact wpAny_bind (wpAny_bind (wpAny_mono h₃ (fun x s₄ h₄=>wpAny_bind (wpAny_mono h₄ (fun _ s₅ h₅=>wpAny_pure (wpAny_pure ⟨rfl,h₅⟩)) fun _ _ h'=>h'.elim)) fun _ _ h'=>h'.elim))
noncomputable def PIf (X:Cx) (B:Hp) (ifs:List Expr) (ft:Rho→M Bool):Prop:=(ifs=[]∧ft=fun _=>ok true)∨∃c,ifs=[c]∧PDT X B c ft
noncomputable def setS (σ:St):List Nat→List V→St
 | k::ks,v::vs=>setS (σ.set k (some v)) ks vs
 | _,_=>σ
noncomputable def setR (ρ:Rho):List Nat→List D→Rho
 | k::ks,d::ds=>setR (ρ.set k (some (.sh d))) ks ds
 | _,_=>ρ
noncomputable def PDH (X:Cx) (tg:Expr) (ks:List Nat) (G:D→Option (List D)):Prop:=
 PG X tg (fun v σ H Q=> ∃d es,Is X.K H d v∧G d=some es∧∀vs,IsL X.K H es vs→vs.length=ks.length→Q (setS σ ks vs) H)
noncomputable def cmpL (ks:List Nat) (G:D→Option (List D)) (ft:Rho→M Bool) (fe:Rho→M D):List D→Rho→M (List D)
 | [],_=>ok []
 | d::ds,ρ=>match G d with
  | none=>none
  | some es=>match ft (setR ρ ks es) with
   | some (.ok true)=>(match fe (setR ρ ks es) with
    | some (.ok r)=>if r.imm=true then bnd (cmpL ks G ft fe ds ρ) fun rs=>ok (r::rs) else none
    | _=>none)
   | some (.ok false)=>cmpL ks G ft fe ds ρ
   | _=>none
noncomputable def ext (m:Nat) (ρ:Rho):Rho:=ρ++List.replicate m none
noncomputable def cmp (m:Nat) (it:Rho→M (List D)) (ks:List Nat) (G:D→Option (List D)) (ft:Rho→M Bool) (fe:Rho→M D):Rho→M D:=fun ρ=>
 bnd (it ρ) fun ds=>if ds.length≤1000000 then bnd (cmpL ks G ft fe ds (ext m (free ρ))) fun rs=>ok (.lst rs) else none
theorem cmpL_noerr {ks:List Nat} {G:D→Option (List D)} {ft:Rho→M Bool} {fe:Rho→M D}: ∀{ds:List D} {ρ:Rho} {c:Addr},cmpL ks G ft fe ds ρ≠some (.error c)
 | [],ρ,c=>fun h=>by cases h
 | d::ds,ρ,c=>fun h=>by
  unfold cmpL at h
  split at h
  ·cases h
  ·split at h
   ·split at h
    ·split at h
     ·cases q:cmpL ks G ft fe ds ρ with
      | none=>rw[q] at h;cases h
      | some z=>
       cases z with
       | error c'=>exact cmpL_noerr q
       | ok z=>rw[q] at h;cases h
     ·cases h
    ·cases h
   ·exact cmpL_noerr h
   ·cases h
theorem immL_append: ∀(a b:List D),immL (a++b)=(immL a&&immL b)
 | [],b=>by simp[immL]
 | d::a,b=>by
  show (d.imm&&immL (a++b))=((d.imm&&immL a)&&immL b)
  rw[immL_append a b,Bool.and_assoc]
theorem setS_length: ∀{ks:List Nat} {σ:St} {vs:List V},(setS σ ks vs).length=σ.length
 | [],σ,vs=>by cases vs<;>rfl
 | k::ks,σ,[]=>rfl
 | k::ks,σ,v::vs=>by
  show (setS (σ.set k (some v)) ks vs).length=_
  rw[setS_length,List.length_set]
theorem setS_out: ∀{ks:List Nat} {σ:St} {vs:List V} {i:Nat},i∉ks→(setS σ ks vs)[i]? =σ[i]?
 | [],σ,vs,i,_=>by cases vs<;>rfl
 | k::ks,σ,[],i,_=>rfl
 | k::ks,σ,v::vs,i,h=>by
  show (setS (σ.set k (some v)) ks vs)[i]? =_
  rw[setS_out (fun z=>h (List.mem_cons_of_mem _ z)),List.getElem?_set_ne (fun z=>h (by rw[z];exact List.mem_cons_self))]
noncomputable def Shr (K:PySem.W.Frag) (H:Hp) (ρ:Rho) (σ:St):Prop:=ρ.length=σ.length∧∀(i:Nat) (sv:SV),ρ[i]? =some (some sv)→∃d v,sv= .sh d∧σ[i]? =some (some v)∧Is K H d v
theorem Shr.rel {K:PySem.W.Frag} {H:Hp} {ρ:Rho} {σ:St} (h:Shr K H ρ σ):Rel K H ρ σ H:=by
 have e0:Off H (fun _=>none)=H:=by funext b;unfold Off;rw[if_neg (fun⟨i,e⟩=>nomatch e)]
 refine⟨fun _=>none,(by intro _ _ _ q;cases q),(by intro _ _ q;cases q),by rw[e0];exact Same.refl _,h.1,fun i sv q=> ?_⟩
 obtain⟨d,v,rfl,e1,e2⟩:=h.2 i sv q
 exact⟨v,e1,by rw[e0];exact e2⟩
theorem Shr.mono {K:PySem.W.Frag} {H H':Hp} {ρ:Rho} {σ:St} (e:Same H H') (h:Shr K H ρ σ):Shr K H' ρ σ:=⟨h.1,fun i sv q=>by
 obtain⟨d,v,e0,e1,e2⟩:=h.2 i sv q
 exact⟨d,v,e0,e1,e2.mono e⟩⟩
theorem Shr.free {K:PySem.W.Frag} {B H:Hp} {ρ:Rho} {σ:St} (r:Rel K B ρ σ H):Shr K H (free ρ) σ:=by
 refine⟨?_,fun i sv q=> ?_⟩
 ·obtain⟨_,_,_,_,hl,_⟩:=r.freed;exact hl
 ·unfold PU.free at q
  rw[List.getElem?_map] at q
  obtain⟨o,e1,e2⟩:=Option.map_eq_some_iff.mp q
  cases o with
  | none=>cases e2
  | some sv0=>
   have e2':sv0.rel=sv:=Option.some.inj e2
   subst e2'
   obtain⟨v,e3,e4⟩:=r.get e1
   exact⟨sv0.cur,v,by cases sv0<;>rfl,e3,e4⟩
theorem Shr.more {K:PySem.W.Frag} {H:Hp} {ρ:Rho} {σ:St} (m:Nat) (h:Shr K H ρ σ):Shr K H (ext m ρ) (σ++List.replicate m none):=by
 refine⟨by unfold ext;simp[h.1],fun i sv e=> ?_⟩
 have e':ρ[i]? =some (some sv):=by
  unfold ext at e
  by_cases hi:i<ρ.length
  ·rw[List.getElem?_append_left hi] at e;exact e
  ·rw[List.getElem?_append_right (by omega),List.getElem?_replicate] at e
   split at e<;>cases e
 have hi:i<σ.length:=by rw[←h.1];exact (List.getElem?_eq_some_iff.mp e').1
 obtain⟨d,v,e0,e1,e2⟩:=h.2 i sv e'
 exact⟨d,v,e0,by rw[List.getElem?_append_left hi];exact e1,e2⟩
theorem Shr.set {K:PySem.W.Frag} {H:Hp} {ρ:Rho} {σ:St} {k:Nat} {d:D} {v:V} (h:Shr K H ρ σ) (i:Is K H d v):Shr K H (ρ.set k (some (.sh d))) (σ.set k (some v)):=by
 refine⟨by rw[List.length_set,List.length_set,h.1],fun j sv e=> ?_⟩
 by_cases q:j=k
 ·subst q
  have hj:j<ρ.length:=by
   have:=(List.getElem?_eq_some_iff.mp e).1
   rwa [List.length_set] at this
  rw[List.getElem?_set_self hj] at e
  have e':=Option.some.inj (Option.some.inj e)
  exact⟨d,v,e'.symm,List.getElem?_set_self (by rw[←h.1];exact hj),i⟩
 ·rw[List.getElem?_set_ne (Ne.symm q)] at e
  obtain⟨d',v',e0,e1,e2⟩:=h.2 j sv e
  exact⟨d',v',e0,by rw[List.getElem?_set_ne (Ne.symm q)];exact e1,e2⟩
theorem Shr.setAll {K:PySem.W.Frag} {H:Hp}: ∀{ks:List Nat} {ρ:Rho} {σ:St} {ds:List D} {vs:List V},Shr K H ρ σ→IsL K H ds vs→Shr K H (setR ρ ks ds) (setS σ ks vs)
 | [],ρ,σ,ds,vs,h,i=>by cases i<;>exact h
 | k::ks,ρ,σ,_,_,h,.nil=>h
 | k::ks,ρ,σ,d::ds,v::vs,h,.cons i r=>by
  show Shr K H (setR (ρ.set k (some (.sh d))) ks ds) (setS (σ.set k (some v)) ks vs)
  exact Shr.setAll (ks:=ks) (h.set (k:=k) i) r
section
variable {X:Cx} {B:Hp} {scope:Scope} {cl:List (Str×Addr)} {N':List Str} {m:Nat}
theorem vis_cl {env:Env} (hf:frAll cl (relabel scope env)=true) {x:Str} {k:NameKind} (hk:(relabel scope env).names.lookup x=some k) (hc:k= .cell∨k= .free): ∃c,cl.lookup x=some c:=by
 have h:=List.all_eq_true.mp hf _ (lookup_mem hk)
 dsimp only at h
 rw[Bool.or_eq_true] at h
 rcases h with h | h
 ·rcases hc with rfl | rfl<;>simp at h
 ·exact Option.isSome_iff_exists.mp h
theorem comp_start {pins:List (Addr×Obj)} {σ:St} {H:Hp} {s:Shared} {fp:List Addr} {h₁:Heap} {tk:Nat} (I:Inv X pins σ H s) (hkind:scope.kind= .function) (hcl:lkAll cl X.env=true) (hnm:nmAll X.N N' (relabel scope X.env)=true) (hf:frAll cl (relabel scope X.env)=true) (hl:N'.length=X.N.length+m)
  (hfp: ∀b∈fp,FpOk X pins H b∧b<s.heap.objs.size) (hk: ∀b o,s.heap.get? b=some o→h₁.get? b=some o) {mm:Str→Option Value} (hns:h₁.Ns s.heap.objs.size mm):
  Inv (cxC X scope cl N' s.heap.objs.size s H fp) [] (σ++List.replicate m none) H {s with heap:=h₁,toks:=tk}:=by
 have sub: ∀x c,cl.lookup x=some c→X.env.cells.lookup x=some c∧(X.env.kindOf x=some .cell∨X.env.kindOf x=some .free):=fun x c e=>by
  have h:=List.all_eq_true.mp hcl _ (lookup_mem e)
  dsimp only at h
  rw[Bool.and_eq_true,Bool.or_eq_true] at h
  exact⟨beq_iff_eq.mp h.1,h.2.elim (fun z=> .inl (beq_iff_eq.mp z)) fun z=> .inr (beq_iff_eq.mp z)⟩
 have frs_sub: ∀b∈fp,b∉frs X.stack:=fun b hb z=>by
  rcases List.mem_cons.mp (I.stkSub b z) with e | e
  ·exact (hfp b hb).1.2.1 e
  ·exact (hfp b hb).1.2.2.1 e
 refine⟨⟨I.ok.mod,hkind,I.ok.glob,I.ok.blt,Nat.le_refl _,fun x y c h1 h2=>I.ok.inj x y c (sub x c h1).1 (sub y c h2).1,fun x hx=> ?_,(fun x c h=>by cases h),I.ok.hd,I.ok.frames,.inl rfl,fun b hb=> ?_,I.bs,Nat.le_trans I.ok.bsz I.sz,fun b o e hb=> ?_,frs_sub,I.stack,I.stkFree⟩,
  rfl,I.bare,Un.kept hk,⟨mm,hns,fun i x v h1 h2 h3=> ?_⟩,fun x c e=> ?_,I.hok.fresh (Nat.le_refl _),fun x c e=>I.freeC x c (sub x c e).1,(fun p hp=>by cases hp),I.hok.kept hk,?_⟩
 ·rcases hx with hx | hx
  ·exact vis_cl hf hx (.inl rfl)
  ·exact vis_cl hf hx (.inr rfl)
 ·exact⟨Nat.ne_of_lt (hfp b hb).2,fun x c e=>(hfp b hb).1.2.2.2.2.1 x c (sub x c e).1⟩
 ·rcases (hfp b hb).1.2.2.2.1 with z | z
  ·exact I.ok.noex b o e z
  ·exact absurd (Nat.lt_of_lt_of_le (Heap.lt_size e) (Nat.le_trans I.ok.bsz z)) (Nat.lt_irrefl _)
 ·--a name of the outer def
  have hi:i<σ.length:=by
   by_cases hi:i<σ.length
   ·exact hi
   ·rw[List.getElem?_append_right (by omega),List.getElem?_replicate] at h2
    split at h2<;>cases h2
  rw[List.getElem?_append_left hi] at h2
  have hiN:i<X.N.length:=by rw[←I.len];exact hi
  have hn:=List.all_eq_true.mp hnm i (List.mem_range.mpr hiN)
  (try dsimp only at h1)
  (try dsimp only at hn)
  rw[h1] at hn
  (try dsimp only at hn)
  rw[Bool.or_eq_true] at hn
  have hvis: ∃k,(relabel scope X.env).names.lookup x=some k:=by
   rcases h3 with h | h | h
   ·exact⟨_,h⟩
   ·exact⟨_,h⟩
   ·exact⟨_,h⟩
  obtain⟨kx,hkx⟩:=hvis
  rcases hn with hn | hn
  ·rw[Bool.and_eq_true,Bool.or_eq_true] at hn
   have hXN:X.N[i]? =some x:=beq_iff_eq.mp hn.1
   have hcf:(relabel scope X.env).names.lookup x=some .cell∨(relabel scope X.env).names.lookup x=some .free:=hn.2.elim (fun z=> .inl (beq_iff_eq.mp z)) fun z=> .inr (beq_iff_eq.mp z)
   obtain⟨c,hc⟩: ∃c,cl.lookup x=some c:=hcf.elim (fun z=>vis_cl hf z (.inl rfl)) fun z=>vis_cl hf z (.inr rfl)
   obtain⟨m0,hm0,lk⟩:=I.loc
   have hk0:=(sub x c hc).2
   obtain⟨u,ru,lu⟩:=lk i x v hXN h2 (hk0.elim (fun z=> .inr (.inl z)) fun z=> .inr (.inr z))
   refine⟨u,ru,.inr ⟨hcf,c,hc,?_⟩⟩
   rcases lu with⟨z1,_⟩ |⟨_,c',e1,o,ho,hd⟩
   ·rcases hk0 with z | z<;>rw[z] at z1<;>cases z1
   ·rw[(sub x c hc).1] at e1
    cases e1
    exact⟨o,hk _ _ ho,hd⟩
  ·have e:=beq_iff_eq.mp hn
   rw[hkx] at e;cases e
 ·obtain⟨v,z⟩:=I.cell x c (sub x c e).1
  obtain⟨o,ho,hd⟩:=z
  exact⟨v,o,hk _ _ ho,hd⟩
 ·show (σ++List.replicate m none).length=N'.length
  rw[List.length_append,List.length_replicate,I.len,hl]
variable {x:Str} {tg iter elt:Expr} {ifs:List Expr} {pos:Pos} {ks:List Nat} {G:D→Option (List D)} {ft:Rho→M Bool} {fe:Rho→M D} {it:Rho→M (List D)}
noncomputable def PIt (X:Cx) (B:Hp) (tg iter:Expr) (it:Rho→M (List D)):Prop:=
 ∀(pins:List (Addr×Obj)) (s:Shared) (σ:St) (H:Hp) (R:It→Hp→Prop) (ρ:Rho),Inv X pins σ H s→Rel X.K B ρ σ H→
  Res X σ H (fun ds=> ∀J H1,Same H H1→ItD X.K J ds H1→R J H1) (it ρ)→
  wpAny (model X.prog X.w) X.A (eval iter X.env) (fun v s1=>wpAny (model X.prog X.w) X.A (pyIter v) (PIE X pins σ tg R) X.xe s1) X.xe s
noncomputable def OutC (X:Cx) (pins:List (Addr×Obj)) (C:Addr):Prop:=(C∈X.ex∨X.s₀.heap.objs.size≤C)∧C≠X.env.locals∧(∀x c,X.env.cells.lookup x=some c→c≠C)∧∀p∈X.pn++pins,p.1≠C
theorem none_of {H H':Hp} {a:Addr} (e:Same H H') (h:H' a=none):H a=none:=by
 cases q:H a with
 | none=>rfl
 | some o=>rw[e _ _ q] at h;cases h
theorem comp_core (hclos:closureFor scope X.env=pure cl) (hcell: ∀y∈scope.names,y.2≠ .cell) (hkind:scope.kind= .function) (hnames: ∀y∈scope.names,y.2= .local→scope.names.lookup y.1=some .local) (hcl:lkAll cl X.env=true)
  (hnm:nmAll X.N N' (relabel scope X.env)=true) (hf:frAll cl (relabel scope X.env)=true) (hl:N'.length=X.N.length+m) (hks: ∀k∈ks,X.N.length≤k) (hcm:X.calm=true) (hi:PIt X B tg iter it)
  (hg: ∀C s₀ H₀ ex,PDH (cxC X scope cl N' C s₀ H₀ ex) tg ks G) (ht: ∀C s₀ H₀ ex B,PIf (cxC X scope cl N' C s₀ H₀ ex) B ifs ft) (he: ∀C s₀ H₀ ex B,PD (cxC X scope cl N' C s₀ H₀ ex) B elt fe)
  (hs: ∀x,foldedSetIterable iter X.env x=pure x) {p0:Pos} {use:Option (Value→Sem Unit)} {Q':Value→Shared→Prop} {Kp:List D→Prop} {pins:List (Addr×Obj)} {s:Shared} {σ:St} {H:Hp} {ρ:Rho} (I:Inv X pins σ H s) (r:Rel X.K B ρ σ H) (h:Res X σ H (fun d=> ∀rs,d= .lst rs→Kp rs) (cmp m it ks G ft fe ρ))
  (fin: ∀(Dd Cc:Addr) (s3:Shared) (Hj:Hp) (rs:List D),(∀h',Heap.SameBut Cc s3.heap h'→Inv X pins σ Hj {s3 with heap:=h'})→(∃m,s3.heap.Ns Cc m)→OutC X pins Cc→Hj Cc=none→Same H Hj→H Dd=none→immL rs=true→(∃vs,Hj Dd=some (.lst vs)∧IsL X.K Hj rs vs)→Kp rs→
   compPost (model X.prog X.w) X.A X.xe use Q' (.ref Dd) Cc (.ok .next) s3):
  wpAny (model X.prog X.w) X.A (comprehension (.ListComp elt [⟨tg,iter,ifs,0⟩] scope pos) scope X.env p0 (newList []) false (eval iter X.env) use) Q' X.xe s:=by
 refine wpAny_comprehension_free (use:=use) rfl hs hclos hkind hnames ?_
 show wpAny (model X.prog X.w) X.A (eval iter X.env) _ X.xe s
 refine thn (hi pins s σ H (fun J H1=> ∃ds,Same H H1∧ItD X.K J ds H1∧ds.length≤1000000∧∃rs,cmpL ks G ft fe ds (ext m (free ρ))=ok rs∧Kp rs) ρ I r ((Res.bind h).imp fun ds h1 J H1 e1 i1=> ?_)) fun v s1 h1=>thn h1 fun itv s2 h2=> ?_
 ·split at h1
  ·rename_i hlen
   refine⟨ds,e1,i1,hlen,?_⟩
   have h2:=Res.bind h1
   cases q:cmpL ks G ft fe ds (ext m (free ρ)) with
   | none=>rw[q] at h2;exact False.elim h2
   | some z=>
    cases z with
    | error c=>exact absurd q cmpL_noerr
    | ok rs=>rw[q] at h2;exact⟨rs,rfl,h2 rs rfl⟩
  ·exact False.elim h1
 obtain⟨ia,fp,tn,J,H2,rfl,I2,T,st2,f2,ds,e1,hJ,hlen,rs,hrs,hQ⟩:=h2
 have shr2:Shr X.K H2 (ext m (free ρ)) (σ++List.replicate m none):=((Shr.free r).mono e1).more m
 have fpl: ∀b∈fp,b<s2.heap.objs.size:=fun b hb=>let ⟨o,ho,_⟩:=T.obj 0 _ st2 b hb;Heap.lt_size ho
 refine wpAny_newObj_type (wpAny_newFunctionEnv hcell (by intro y hy;simp at hy) (fun h₁ hns₁ hsb₁=> ?_) hkind)
 dsimp only at hns₁ hsb₁⊢
 have I0:Inv X pins σ (upd H2 s2.heap.objs.size (.lst [])) {s2 with heap:=s2.heap.push {cls:= .type "list",dict:=none,data:= .seq ([]:List Value).toArray}}:=I2.lnew (t':=s2.toks) (its:=[]) .nil (Nat.zero_le _)
 have hsz:(s2.heap.push {cls:= .type "list",dict:=none,data:= .seq ([]:List Value).toArray}).objs.size=s2.heap.objs.size+1:=Heap.size_push _ _
 generalize hP:s2.heap.push {cls:= .type "list",dict:=none,data:= .seq ([]:List Value).toArray}=P2 at hns₁ hsb₁ I0 hsz⊢
 generalize hD:s2.heap.objs.size=Dd at*
 generalize hC:P2.objs.size=Cc at*
 have neDC:Dd≠Cc:=by omega
 have hk01: ∀b o,P2.get? b=some o→h₁.get? b=some o:=fun b o e=>hsb₁.extBut b o (Nat.ne_of_lt (by rw[←hC];exact Heap.lt_size e)) (Heap.get?_push_of_some _ e)
 have hk2P: ∀b o,s2.heap.get? b=some o→P2.get? b=some o:=fun b o e=>by rw[←hP];exact Heap.get?_push_of_some _ e
 have nD2:H2 Dd=none:=I2.hok.fresh (by omega)
 have nC2:H2 Cc=none:=I2.hok.fresh (by omega)
 have sm0:Same H2 (upd H2 Dd (.lst [])):=aAn nD2 _
 have fp0: ∀b∈fp,FpOk X pins (upd H2 Dd (.lst [])) b∧b<P2.objs.size:=fun b hb=>by
  have hb':=fpl b hb
  obtain⟨f0,f1⟩:=f2 b hb
  exact⟨⟨by rw[aAk (Nat.ne_of_lt hb')];exact f0,f1⟩,by rw[hC,hsz];exact Nat.lt_succ_of_lt hb'⟩
 have IC:=comp_start (tk:=s2.toks+([]:List (Str×Value)).length) I0 hkind hcl hnm hf hl fp0 hk01 (by rw[hC];exact hns₁)
 rw[hC] at IC
 have loop: ∀s₄:Shared,s₄={s2 with heap:=h₁,toks:=s2.toks+([]:List (Str×Value)).length}→
   codeAny (model X.prog X.w) X.A (.compLoop (.ListComp elt [⟨tg,iter,ifs,0⟩] scope pos) 0 (.ref ia) (.ref Dd) (compEnvC scope cl Cc X.env)) (compPost (model X.prog X.w) X.A X.xe use Q' (.ref Dd) Cc) s₄:=by
  rintro s₄ rfl
  refine codeAny_compLoopG (fun n s'=> ∃j Hj vs rj rest,n=ds.length+1-j∧j≤ds.length∧Inv (cxC X scope cl N' Cc {s2 with heap:=P2} (upd H2 Dd (.lst [])) fp) [] (σ++List.replicate m none) Hj s'∧tn j s'.heap∧(∀b∈fp,Hj b=none)∧
   Hj Dd=some (.lst vs)∧IsL X.K Hj rj vs∧immL rj=true∧rj.length≤j∧Same H2 Hj∧cmpL ks G ft fe (ds.drop j) (ext m (free ρ))=ok rest∧rs=rj++rest) ?_ (ds.length+1)
   ⟨0,_,[],[],rs,rfl,Nat.zero_le _,IC,T.keep _ _ _ st2 fun b hb o e=>hk01 _ _ (hk2P _ _ e),fun b hb=>(fp0 b hb).1.1,aAi,.nil,rfl,Nat.le_refl _,sm0,by simpa using hrs,rfl⟩
  rintro n s' ⟨j,Hj,vs,rj,rest,rfl,hj,IJ,stj,frj,hDj,ilj,imj,hlj,smj,hrest,hrs'⟩
  have fpX: ∀{H':Hp},(∀b∈fp,H' b=none)→∀b∈fp,FpOk (cxC X scope cl N' Cc {s2 with heap:=P2} (upd H2 Dd (.lst [])) fp) [] H' b:=fun hn b hb=>
   ⟨hn b hb,(IJ.ok.exf b hb).1,IJ.ok.exfs b hb,.inl hb,(IJ.ok.exf b hb).2,(fun p hp=>by cases hp)⟩
  by_cases hlt:j<ds.length
  ·have hd:ds.drop j=ds[j]::ds.drop (j+1):=List.drop_eq_getElem_cons hlt
   rw[hd] at hrest
   obtain⟨q0,q1,q2,q3⟩:(∃es,G ds[j]=some es)∧True∧True∧True:=by
    refine⟨?_,trivial,trivial,trivial⟩
    cases q:G ds[j] with
    | none=>unfold cmpL at hrest;rw[q] at hrest;cases hrest
    | some es=>exact⟨es,rfl⟩
   obtain⟨es,hG⟩:=q0
   unfold cmpL at hrest
   rw[hG] at hrest
   dsimp only at hrest
   refine thn (T.item (cxC X scope cl N' Cc {s2 with heap:=P2} (upd H2 Dd (.lst [])) fp) rfl rfl rfl hcm j [] s' _ Hj (fun _ _=>False) IJ (fpX frj) stj (hJ.go j Hj smj hlt)) fun r s3 ⟨u,hr,h4⟩=> ?_
   subst hr
   refine thn h4 fun _ s5 ⟨xv,H5,I5,r5,y5,st5,fr5⟩=> ?_
   obtain⟨e5,d,e6,e7⟩:=hJ.yld j Hj xv H5 smj y5 hlt
   replace hDj:=e5 _ _ hDj
   replace ilj:=IsL.mono e5 ilj
   replace smj:=smj.trans e5
   have ed:ds[j]=d:=by rw[List.getElem?_eq_getElem hlt] at e6;exact Option.some.inj e6
   rw[ed] at hG
   have I5':=I5.pinned (fpX fr5) (T.obj _ _ st5)
   rw[List.nil_append] at I5'
   refine thn (hg Cc {s2 with heap:=P2} (upd H2 Dd (.lst [])) fp _ s5 _ H5 xv u (fun σ6 H6=>H6=H5∧∃vs',IsL X.K H5 es vs'∧σ6=setS (σ++List.replicate m none) ks vs') I5' r5 ⟨d,es,e7,hG,fun vs' iv' _=>⟨rfl,vs',iv',rfl⟩⟩) fun _ s6 ⟨σ6,H6,I6,q6⟩=> ?_
   obtain⟨rfl,vs',iv',rfl⟩:=q6
   have rel6:Rel X.K H6 (setR (ext m (free ρ)) ks es) (setS (σ++List.replicate m none) ks vs') H6:=(Shr.setAll (shr2.mono smj) iv').rel
   have turn: ∀(s7:Shared) (H7:Hp) (vs7:List V) (r7 rest7:List D),Inv (cxC X scope cl N' Cc {s2 with heap:=P2} (upd H2 Dd (.lst [])) fp) (pinsAt fp s5.heap) (setS (σ++List.replicate m none) ks vs') H7 s7→H7 Dd=some (.lst vs7)→IsL X.K H7 r7 vs7→immL r7=true→r7.length≤j+1→Same H2 H7→
     cmpL ks G ft fe (ds.drop (j+1)) (ext m (free ρ))=ok rest7→rs=r7++rest7→∃k,k<ds.length+1-j∧∃j' Hj vs rj rest,k=ds.length+1-j'∧j'≤ds.length∧Inv (cxC X scope cl N' Cc {s2 with heap:=P2} (upd H2 Dd (.lst [])) fp) [] (σ++List.replicate m none) Hj s7∧tn j' s7.heap∧(∀b∈fp,Hj b=none)∧
     Hj Dd=some (.lst vs)∧IsL X.K Hj rj vs∧immL rj=true∧rj.length≤j'∧Same H2 Hj∧cmpL ks G ft fe (ds.drop j') (ext m (free ρ))=ok rest∧rs=rj++rest:=by
    intro s7 H7 vs7 r7 rest7 I7 a1 a2 a3 a4 a5 a6 a7
    have pin: ∀b∈fp,∀o,s5.heap.get? b=some o→s7.heap.get? b=some o∧H7 b=none:=fun b hb o e=>
     let z:=I7.pin (b,o) (List.mem_append_right _ (mem_pinsAt hb e));⟨z.1,z.2.1⟩
    refine⟨ds.length+1-(j+1),by omega,j+1,H7,vs7,r7,rest7,rfl,hlt,?_,T.keep _ _ _ st5 fun b hb o e=>(pin b hb o e).1,fun b hb=> ?_,a1,a2,a3,a4,a5,a6,a7⟩
    ·have I8:Inv (cxC X scope cl N' Cc {s2 with heap:=P2} (upd H2 Dd (.lst [])) fp) [] (setS (σ++List.replicate m none) ks vs') H7 s7:=I7.pins_of (fun p hp=>by cases hp)
     refine I8.weak (by rw[setS_length]) fun i v e=> ?_
     rw[setS_out]
     ·exact e
     ·intro hi
      have:=hks i hi
      rw[List.getElem?_append_right (by rw[I2.len];exact this),List.getElem?_replicate] at e
      split at e<;>cases e
    ·obtain⟨o,ho,_⟩:=T.obj _ _ st5 b hb
     exact (pin b hb o ho).2
   have tst:wpAny (model X.prog X.w) X.A (forIn ifs true fun c r=>if r=true then do let ok←isTrue c (compEnvC scope cl Cc X.env) (eval c (compEnvC scope cl Cc X.env));pure (ForInStep.yield ok) else pure (ForInStep.yield r))
     (fun bb s7=> ∃H7,Inv (cxC X scope cl N' Cc {s2 with heap:=P2} (upd H2 Dd (.lst [])) fp) (pinsAt fp s5.heap) (setS (σ++List.replicate m none) ks vs') H7 s7∧Same H6 H7∧ft (setR (ext m (free ρ)) ks es)=ok bb) (fun _ _=>False) s6:=by
    rcases ht Cc {s2 with heap:=P2} (upd H2 Dd (.lst [])) fp H6 with⟨rfl,hft⟩ |⟨c,rfl,hft⟩
    ·exact wpAny_tests_nil ⟨H6,I6,Same.refl _,by rw[hft]⟩
    ·cases qt:ft (setR (ext m (free ρ)) ks es) with
     | none=>rw[qt] at hrest;cases hrest
     | some z=>
      cases z with
      | error ce=>rw[qt] at hrest;cases hrest
      | ok bb=>
       refine wpAny_tests_one (thn (hft _ s6 _ H6 (fun b H7=>Same H6 H7∧b=bb) I6 ⟨_,rel6,by rw[qt];exact fun H7 e=>⟨e,rfl⟩⟩) fun b s7 ⟨H7,I7,e,eb⟩=> ?_)
       subst eb
       exact⟨H7,I7,e,rfl⟩
   refine thn tst fun bb s7 ⟨H7,I7,sm7,hbb⟩=> ?_
   rw[hbb] at hrest
   cases bb with
   | false=>
    rw[if_neg (by decide)]
    exact turn s7 H7 vs rj rest I7 (sm7 _ _ hDj) (ilj.mono sm7) imj (by omega) (smj.trans sm7) hrest hrs'
   | true=>
    rw[if_pos rfl]
    dsimp only[ok] at hrest
    cases qe:fe (setR (ext m (free ρ)) ks es) with
    | none=>rw[qe] at hrest;cases hrest
    | some z=>
     cases z with
     | error ce=>rw[qe] at hrest;cases hrest
     | ok rr=>
      rw[qe] at hrest
      dsimp only at hrest
      split at hrest
      ·rename_i him
       obtain⟨rest',er,er2⟩:=bnd_eq_ok hrest
       have er3:=aBo er2
       refine thn (he Cc {s2 with heap:=P2} (upd H2 Dd (.lst [])) fp H6 _ s7 _ H7 (fun v H8=>Same H7 H8∧Is X.K H8 rr v) I7 ⟨_,rel6.mono sm7,by rw[qe];exact fun v H8 e i=>⟨e,i⟩⟩) fun u8 s8 ⟨v8,H8,I8,rv8,sm8,i8⟩=> ?_
       have hD8:H8 Dd=some (.lst vs):=sm8 _ _ (sm7 _ _ hDj)
       have hlv:vs.length=rj.length:=ilj.length.symm
       have il8:=(ilj.mono sm7).mono sm8
       have al: ∀o,(∀b xs,H8 b=some (.tup xs)→upd H8 Dd (.lst o) b=some (.tup xs))∧(∀b oo u,H8 b=some (.frz oo u)→upd H8 Dd (.lst o) b=some (.frz oo u)):=fun o=>
        ⟨fun b xs e=>by rw[aAk (fun z=>by subst z;rw[hD8] at e;cases e)];exact e,fun b oo u e=>by rw[aAk (fun z=>by subst z;rw[hD8] at e;cases e)];exact e⟩
       refine thn (mt_append _ s8 _ H8 (.ref Dd) [v8] (.ref Dd) [u8] (fun v9 H9=>H9=upd H8 Dd (.lst (vs++ [v8]))) I8 rfl (.cons rv8 .nil) ⟨Dd,vs,v8,rfl,rfl,hD8,by have:=sizeLine_eq;omega,rfl⟩) fun u9 s9 ⟨v9,H9,I9,_,e9⟩=> ?_
       subst e9
       refine turn s9 _ (vs++ [v8]) (rj++ [rr]) rest' I9 aAi ((IsL.alike (al _).1 (al _).2 imj il8).append (.cons (Is.alike (al _).1 (al _).2 him i8) .nil)) ?_ (by rw[List.length_append];simp only[List.length_cons,List.length_nil];omega) ?_ er (by rw[hrs',←er3,List.append_assoc];rfl)
       ·rw[immL_append,imj]
        show (rr.imm&&true)=true
        rw[him]
        rfl
       ·intro b o e
        rw[aAk (aCc e nD2)]
        exact sm8 _ _ (sm7 _ _ (smj _ _ e))
      ·cases hrest
  ·have ej:j=ds.length:=by omega
   subst ej
   rw[List.drop_eq_nil_of_le (Nat.le_refl _)] at hrest
   have er:=aBo hrest
   refine thn (T.done (cxC X scope cl N' Cc {s2 with heap:=P2} (upd H2 Dd (.lst [])) fp) rfl rfl rfl hcm ds.length [] s' _ Hj (fun _ _=>False) IJ (fpX frj) stj (hJ.stop _ Hj smj (Nat.le_refl _))) fun r s3 ⟨hr,I3⟩=> ?_
   subst hr
   obtain⟨mm,hmm,_⟩:=I3.loc
   have nCj:Hj Cc=none:=I3.free
   have zC:=I2.fpOk (b:=Cc) (H':=H2) (by rw[hD,hsz];exact Nat.le_succ _) nC2
   have ers:rs=rj:=by rw[hrs',←er,List.append_nil]
   refine fin Dd Cc s3 Hj rs ?_ ⟨mm,hmm⟩ ⟨zC.2.2.2.1,zC.2.1,zC.2.2.2.2.1,zC.2.2.2.2.2⟩ nCj (e1.trans smj) (none_of e1 nD2) (by rw[ers];exact imj) ⟨_,hDj,by rw[ers];exact ilj⟩ hQ
   intro h' hsb
   have U1:Un (frs X.stack) (Cc::fp) H2 (upd H2 Dd (.lst [])) s2.heap P2:=Un.laid hk2P (by rw[hD];exact Nat.le_refl _) nD2
   have U2:Un (frs X.stack) (Cc::fp) (upd H2 Dd (.lst [])) Hj P2 s3.heap:=I3.base.mono (fun _ z=>z) (fun b z=>List.mem_cons_of_mem _ z)
   have kp: ∀b o,b≠Cc→s3.heap.get? b=some o→h'.get? b=some o:=fun b o hb e=>hsb.extBut b o hb e
   have nc: ∀b,b∉Cc::fp→b≠Cc:=fun b hb z=>hb (by rw[z];exact List.mem_cons_self)
   have U3:Un (frs X.stack) (Cc::fp) Hj Hj s3.heap h':=⟨fun b o e _ _ hx=>kp b o (nc b hx) e,fun b o e _ _ hx=>⟨o.slots,kp b o (nc b hx) e⟩,fun _ _ _ n _=>n,fun b o e hx=>⟨o,kp b o (nc b hx) e⟩,fun _ _ e=>e,fun _ _ _ e=>e,fun b ps e=>⟨#[],by rw[e];simp⟩⟩
   have hok':HOk X.prog X.w Hj h':=fun b u e=>(I3.hok b u e).stay (fun c v hc q=>kp c v (fun z=>by
    rcases hc with hc | hc
    ·rw[hc] at z;rw[z,nCj] at e;cases e
    ·rw[z,nCj] at hc;cases hc) q) (fun _ q=>q) fun _ _ q=>q
   have IX:Inv X pins σ Hj {s3 with heap:=h'}:=I2.call' (ch:=Cc::fp) I3.os ((U1.trans U2).trans U3) hok' I3.bare fun b hb=>by
    rcases List.mem_cons.mp hb with rfl | hb
    ·have z:=I2.fpOk (b:=b) (H':=H2) (by rw[hD,hsz];exact Nat.le_succ _) nC2
     exact⟨z.2.2.2.1,z.2.1,z.2.2.2.2.1,z.2.2.2.2.2⟩
    ·obtain⟨z0,z1,z2,z3,z4,z5⟩:=f2 b hb
     exact⟨z3,z1,z4,z5⟩
   exact IX
 exact codeAny_compStart_list (loop _ rfl) (T.self _ 0 _ _ _ (T.keep _ _ _ st2 fun b hb o e=>hk01 _ _ (hk2P _ _ e)) (loop _ rfl))
theorem pd_comp (hclos:closureFor scope X.env=pure cl) (hcell: ∀y∈scope.names,y.2≠ .cell) (hkind:scope.kind= .function) (hnames: ∀y∈scope.names,y.2= .local→scope.names.lookup y.1=some .local) (hcl:lkAll cl X.env=true)
  (hnm:nmAll X.N N' (relabel scope X.env)=true) (hf:frAll cl (relabel scope X.env)=true) (hl:N'.length=X.N.length+m) (hks: ∀k∈ks,X.N.length≤k) (hcm:X.calm=true) (hi:PIt X B tg iter it)
  (hg: ∀C s₀ H₀ ex,PDH (cxC X scope cl N' C s₀ H₀ ex) tg ks G) (ht: ∀C s₀ H₀ ex B,PIf (cxC X scope cl N' C s₀ H₀ ex) B ifs ft) (he: ∀C s₀ H₀ ex B,PD (cxC X scope cl N' C s₀ H₀ ex) B elt fe)
  (hs: ∀x,foldedSetIterable iter X.env x=pure x:=by intro _;rfl):PD X B (.ListComp elt [⟨tg,iter,ifs,0⟩] scope pos) (cmp m it ks G ft fe):=by
 intro pins s σ H Q I h
 obtain⟨ρ,r,h⟩:=h
 rw[eval_ListComp]
 refine comp_core (use:=none) (Q':=EP X pins σ Q) (Kp:=fun rs=> ∀v H',Same H H'→Is X.K H' (.lst rs) v→Q v H') hclos hcell hkind hnames hcl hnm hf hl hks hcm hi hg ht he hs I r (h.imp fun d q rs e v H' sm i=>by subst e;exact q v H' sm i) ?_
 intro Dd Cc s3 Hj rs IX ⟨mm,hmm⟩ _ _ sm _ _ ⟨vs,is1,is2⟩ hQ
 have is:Is X.K Hj (.lst rs) (.ref Dd):= .lst (SqL.of is1) is2
 exact⟨mm,hmm,fun h' hsb=>⟨.ref Dd,Hj,IX h' hsb,rfl,hQ _ Hj sm is⟩⟩
theorem Inv.offC {pins:List (Addr×Obj)} {s:Shared} {σ:St} {H:Hp} {C:Addr} {h':Heap} (I:Inv X pins σ H s) (f:OutC X pins C) (hC:H C=none) (hsb:Heap.SameBut C s.heap h'):Inv X pins σ H {s with heap:=h'}:=by
 have kp: ∀b o,b≠C→s.heap.get? b=some o→h'.get? b=some o:=fun b o hb e=>hsb.extBut b o hb e
 have nc: ∀b,b∉[C]→b≠C:=fun b hb z=>hb (by rw[z];exact List.mem_cons_self)
 have U:Un (frs X.stack) [C] H H s.heap h':=⟨fun b o e _ _ hx=>kp b o (nc b hx) e,fun b o e _ _ hx=>⟨o.slots,kp b o (nc b hx) e⟩,fun _ _ _ n _=>n,fun b o e hx=>⟨o,kp b o (nc b hx) e⟩,fun _ _ e=>e,fun _ _ _ e=>e,fun b ps e=>⟨#[],by rw[e];simp⟩⟩
 have hok':HOk X.prog X.w H h':=fun b u e=>(I.hok b u e).stay (fun c v hc q=>kp c v (fun z=>by
  rcases hc with hc | hc
  ·rw[hc] at z;rw[z,hC] at e;cases e
  ·rw[z,hC] at hc;cases hc) q) (fun _ q=>q) fun _ _ q=>q
 exact I.call' (s':={s with heap:=h'}) (ch:=[C]) rfl U hok' I.bare fun b hb=>by
  rw[List.mem_singleton] at hb
  subst hb
  exact f
theorem pds_comp {i:Nat} {x:Str} {pos' spos:Pos} (hN:X.N.Nodup) (hi0:X.N[i]? =some x) (hx:Loc X.env.scope x) (hclos:closureFor scope X.env=pure cl) (hcell: ∀y∈scope.names,y.2≠ .cell) (hkind:scope.kind= .function) (hnames: ∀y∈scope.names,y.2= .local→scope.names.lookup y.1=some .local) (hcl:lkAll cl X.env=true)
  (hnm:nmAll X.N N' (relabel scope X.env)=true) (hf:frAll cl (relabel scope X.env)=true) (hl:N'.length=X.N.length+m) (hks: ∀k∈ks,X.N.length≤k) (hcm:X.calm=true) (hi:PIt X B tg iter it)
  (hg: ∀C s₀ H₀ ex,PDH (cxC X scope cl N' C s₀ H₀ ex) tg ks G) (ht: ∀C s₀ H₀ ex B,PIf (cxC X scope cl N' C s₀ H₀ ex) B ifs ft) (he: ∀C s₀ H₀ ex B,PD (cxC X scope cl N' C s₀ H₀ ex) B elt fe)
  (hsw:swapsWith (.ListComp elt [⟨tg,iter,ifs,0⟩] scope pos) (some (.Name x pos')) spos.line X.env=pure true) (hs: ∀x,foldedSetIterable iter X.env x=pure x:=by intro _;rfl)
  (hfn:X.fn x=true∨X.env.scope.names.lookup x=some .local:=by first | exact .inl rfl | exact .inr rfl | assumption):
  PDS X B (.Assign [.Name x pos'] (.ListComp elt [⟨tg,iter,ifs,0⟩] scope pos) spos) (aC3 i (cmp m it ks G ft fe)):=by
 intro pins s σ H E I h
 obtain⟨ρ,r,h⟩:=h
 rw[exec_Assign_Name_used _ _ _ _ hsw]
 refine wpAny_bind (wpAny_standAt (wpAny_bind (wpAny_bind (comp_core (use:=some _) (Kp:=fun rs=>GoodO X B E (some (.nx (setV i (.lst rs) ρ)))) hclos hcell hkind hnames hcl hnm hf hl hks hcm hi hg ht he hs I r ?_ ?_))))
 ·exact (aBa r h).imp fun d q rs e=>by subst e;exact q
 ·intro Dd Cc s3 Hj rs IX ⟨mm,hmm⟩ oc nC sm _ _ ⟨vs,is1,is2⟩ hQ
  have is:Is X.K Hj (.lst rs) (.ref Dd):= .lst (SqL.of is1) is2
  have I3:Inv X pins σ Hj s3:=IX s3.heap (Heap.SameBut.refl Cc s3.heap)
  refine wpAny_assign_Name (store_ok2 I3 hN hi0 hx (v:= .ref Dd) rfl (fun s4 I4 ⟨a,sb,ha⟩=>⟨mm,hmm.sameBut sb ?_,fun h' hsb=> ?_⟩) hfn)
  ·rcases ha with ha | ha
   ·rw[ha];exact oc.2.1
   ·exact Ne.symm (oc.2.2.1 x a ha)
  ·exact wpAny_pure (wpAny_pure ⟨_,Hj,Inv.offC I4 oc nC hsb,hQ _ Hj ((r.mono sm).setV is)⟩)
end
structure HD where
 m:Addr→Option Bool
 i:Nat
 G:Rho→Option Out
section
variable {X:Cx} {B:Hp} {tg iter c:Expr} {fa:Rho→M D} {ft:Rho→M Bool} {pos p:Pos} {x y:Str} {k k2:Nat}
noncomputable def itE (f:Rho→M D):Rho→M (List D):=fun ρ=>bnd (f ρ) itD
theorem pit_D (h:PD X B iter fa):PIt X B tg iter (itE fa):=by
 intro pins s σ H R ρ I r q
 refine pi_D (tg:=tg) h pins s σ H R I ⟨ρ,r,(Res.bind q).imp fun d q1 v H1 e1 i1=> ?_⟩
 cases i1 with
 | lst hh rr=>exact .inl ⟨_,rfl,⟨_,hh⟩,q1 _ H1 e1 (itd_list hh rr)⟩
 | tup hh rr=>exact .inr ⟨_,rfl,⟨_,hh.sq⟩,q1 _ H1 e1 (itd_tup hh rr)⟩
 | _=>exact False.elim q1
noncomputable def rngD:D→M (List D)
 | .int j=>if-(2^62)≤j∧j<2^62 then ok (rng 0 j.toNat) else none
 | _=>none
noncomputable def itR (f:Rho→M D):Rho→M (List D):=fun ρ=>bnd (f ρ) rngD
theorem pit_r1 (hg:Gl X "range") (hm:X.mg "range"=none) (h:PD X B c fa) (hs:aB4 c=true:=by rfl):PIt X B tg (.Call (.Name "range" p) [c] [] pos) (itR fa):=by
 intro pins s σ H R ρ I r q
 refine pi_range1 (tg:=tg) hg hm (aA4 h aBx (aAx hs)) (star1 hs) pins s σ H R I ⟨ρ,r,(Res.bind q).imp fun d q1 v H1 e1 i1=> ?_⟩
 cases i1 with
 | int j=>
  dsimp only[rngD] at q1
  split at q1
  ·rename_i hb;exact⟨_,rfl,hb.1,hb.2,q1 _ H1 e1 (itd_rng 0 _ H1)⟩
  ·exact False.elim q1
 | _=>exact False.elim q1
noncomputable def h1:D→Option (List D):=fun d=>some [d]
theorem pdn_1 (hN:X.N.Nodup) (hi:X.N[k]? =some x) (hx:Loc X.env.scope x) (hf:X.fn x=true∨X.env.scope.names.lookup x=some .local:=by first | exact .inl rfl | exact .inr rfl | assumption):PDH X (.Name x pos) [k] h1:=by
 intro pins s σ H v u Q I r h
 obtain⟨d,es,i,e,q⟩:=h
 cases e
 exact pg_name hN hi hx hf pins s σ H v u Q I r (q [v] (.cons i .nil) rfl)
noncomputable def h2:D→Option (List D)
 | .tup [a,b]=>some [a,b]
 | _=>none
theorem aCs:PIf X B [] (fun _=>ok true):= .inl ⟨rfl,rfl⟩
end
section
variable {X:Cx} {B:Hp} {e:Expr} {fa:Rho→M D} {pos p:Pos}
noncomputable def toT:D→M D
 | .lst ds=>ok (.tup ds)
 | .tup ds=>ok (.tup ds)
 | _=>none
noncomputable def toL:D→M D
 | .lst ds=>ok (.lst ds)
 | .tup ds=>ok (.lst ds)
 | _=>none
theorem pd_tuple (hg:Gl X "tuple") (hm:X.mg "tuple"=none) (ha:PD X B e fa) (hs:aB4 e=true:=by rfl):PD X B (.Call (.Name "tuple" p) [e] [] pos) (f1 toT fa):=by
 refine PE.of (pe_callTy call_tuple_of hg hm boot_tuple (aA4 ha aBx (aAx hs)) (he:=aAx hs) (hpl:=by rfl)) fun σ H Q h=> ?_
 obtain⟨ρ,r1,h⟩:=h
 refine⟨ρ,r1,(Res.bind h).imp fun d q1 v H1 e1 i1=> ?_⟩
 cases i1 with
 | lst hh rr=>exact⟨_,_,rfl,.inl ⟨hh,fun l hl=>q1 _ _ (e1.trans (aAn hl _)) (.tup (TQ.of aAi) (rr.mono (aAn hl _)))⟩⟩
 | tup hh rr=>exact⟨_,_,rfl,.inr ⟨hh.sq,q1 _ H1 e1 (.tup hh rr)⟩⟩
 | _=>exact False.elim q1
theorem pd_list (hg:Gl X "list") (hm:X.mg "list"=none) (ha:PD X B e fa) (hs:aB4 e=true:=by rfl):PD X B (.Call (.Name "list" p) [e] [] pos) (f1 toL fa):=by
 refine PE.of (pe_callTy call_list_of hg hm boot_list (aA4 ha aBx (aAx hs)) (he:=aAx hs) (hpl:=by rfl)) fun σ H Q h=> ?_
 obtain⟨ρ,r1,h⟩:=h
 refine⟨ρ,r1,(Res.bind h).imp fun d q1 v H1 e1 i1=> ?_⟩
 cases i1 with
 | lst hh rr=>exact⟨_,_,rfl,.inl hh,fun l hl=>q1 _ _ (e1.trans (aAn hl _)) (.lst (SqL.of aAi) (rr.mono (aAn hl _)))⟩
 | tup hh rr=>exact⟨_,_,rfl,.inr hh,fun l hl=>q1 _ _ (e1.trans (aAn hl _)) (.lst (SqL.of aAi) (rr.mono (aAn hl _)))⟩
 | _=>exact False.elim q1
end
noncomputable def flD:D→Option V
 | .non=>some .non
 | .bl b=>some (.bl b)
 | .int i=>some (.int i)
 | .str x=>some (.str x)
 | _=>none
noncomputable def flL:List D→Option (List V)
 | []=>some []
 | d::ds=>match flD d,flL ds with
  | some v,some vs=>some (v::vs)
  | _,_=>none
noncomputable def seqD:D→Option (List D)
 | .lst ds=>some ds
 | .tup ds=>some ds
 | _=>none
noncomputable def gIn (neg:Bool) (x y:D):M D:=match flD x,(seqD y).bind flL with
 | some v,some vs=>ok (.bl (if neg then !inV v vs else inV v vs))
 | _,_=>none
section
variable {K:PySem.W.Frag} {H:Hp}
theorem fl_is {d:D} {v v':V} (i:Is K H d v) (h:flD d=some v'):v=v'∧flatV v=true:=by
 cases i with
 | non=>cases h;exact⟨rfl,rfl⟩
 | bl b=>cases h;exact⟨rfl,rfl⟩
 | int b=>cases h;exact⟨rfl,rfl⟩
 | str b=>cases h;exact⟨rfl,rfl⟩
 | _=>cases h
theorem flL_is: ∀{ds:List D} {vs vs':List V},IsL K H ds vs→flL ds=some vs'→vs=vs'∧vs.all flatV=true
 | _,_,_,.nil,h=>by cases h;exact⟨rfl,rfl⟩
 | _,_,_,.cons (d:=d) (ds:=ds) i r,h=>by
  unfold flL at h
  split at h
  ·rename_i v0 vs0 h1 h2
   cases h
   obtain⟨e1,f1⟩:=fl_is i h1
   obtain⟨e2,f2⟩:=flL_is r h2
   exact⟨by rw[e1,e2],by rw[List.all_cons,f1,f2];rfl⟩
  ·cases h
end
section
variable {X:Cx} {B:Hp} {a b:Expr} {fa fb:Rho→M D} {pos:Pos}
theorem r_in (neg:Bool):R2ok X (rIn X.K neg) (gIn neg):=by
 intro H x y dx dy d Q ix iy e q
 unfold gIn at e
 split at e
 ·rename_i v vs h1 h2
  cases e
  obtain⟨e1,f1⟩:=fl_is ix h1
  subst e1
  cases iy with
  | lst hh rr=>
   obtain⟨e2,f2⟩:=flL_is rr h2
   subst e2
   exact⟨_,_,rfl,.inl hh,f1,f2,q _ H (Same.refl H) (.bl _)⟩
  | tup hh rr=>
   obtain⟨e2,f2⟩:=flL_is rr h2
   subst e2
   exact⟨_,_,rfl,.inr hh,f1,f2,q _ H (Same.refl H) (.bl _)⟩
  | _=>cases h2
 ·cases e
theorem in_noerr (neg:Bool):NoErr (gIn neg):=fun x y c h=>by
 unfold gIn at h
 split at h
 ·cases h
 ·cases h
theorem pd_in (ha:PD X B a fa) (hb:PD X B b fb) (hm:behindInMarks .In b=false:=by rfl):PD X B (.Compare a [.In] [b] pos) (b2 (gIn false) fa fb):=pd_cmp op_in_seq (r_in false) (in_noerr false) ha hb hm
theorem flL_strs (ss:List Str):flL (ss.map D.str)=some (ss.map V.str):=by
 induction ss with
 | nil=>rfl
 | cons x r ih=>rw[List.map_cons,flL,ih];rfl
theorem inV_strs (x:Str) (ss:List Str):inV (.str x) (ss.map V.str)=ss.contains x:=by
 unfold inV
 induction ss with
 | nil=>rfl
 | cons y r ih=>
  rw[List.map_cons,List.any_cons,ih,List.contains_cons]
  show ((decide (y=x)) || _)=_
  by_cases e:x=y
  ·subst e;simp
  ·have e':¬y=x:=fun z=>e z.symm
   simp[e,e']
end
theorem lk_nil {env:Env}:lkAll [] env=true:=rfl
theorem aD1 {env:Env} {x:Str} {c:Addr} {cl:List (Str×Addr)} (h1:env.cells.lookup x=some c) (h2:env.kindOf x=some .cell∨env.kindOf x=some .free) (r:lkAll cl env=true):lkAll ((x,c)::cl) env=true:=by
 unfold lkAll at r⊢
 rw[List.all_cons,r,Bool.and_true]
 dsimp only
 rw[h1]
 rcases h2 with h2 | h2<;>rw[h2]<;>simp
section
variable {X:Cx} {B:Hp} {scope:Scope} {cl:List (Str×Addr)} {N':List Str} {m:Nat} {tg iter elt:Expr} {ifs:List Expr} {pos:Pos} {ks:List Nat} {G:D→Option (List D)} {ft:Rho→M Bool} {fe:Rho→M D} {it:Rho→M (List D)}
theorem aDv (hclos:closureFor scope X.env=pure cl) (hcell:scope.names.all (fun y=>y.2 != .cell)=true) (hkind:scope.kind= .function) (hnames:scope.names.all (fun y=>y.2 != .local || scope.names.lookup y.1==some .local)=true) (hcl:lkAll cl X.env=true)
  (hnm:nmAll X.N N' (relabel scope X.env)=true) (hf:frAll cl (relabel scope X.env)=true) (hl:N'.length=X.N.length+m) (hks:ks.all (fun k=>decide (X.N.length≤k))=true) (hcm:X.calm=true) (hi:PIt X B tg iter it)
  (hg: ∀C s₀ H₀ ex,PDH (cxC X scope cl N' C s₀ H₀ ex) tg ks G) (ht: ∀C s₀ H₀ ex B,PIf (cxC X scope cl N' C s₀ H₀ ex) B ifs ft) (he: ∀C s₀ H₀ ex B,PD (cxC X scope cl N' C s₀ H₀ ex) B elt fe)
  (hs: ∀x,foldedSetIterable iter X.env x=pure x:=by intro _;rfl):PD X B (.ListComp elt [⟨tg,iter,ifs,0⟩] scope pos) (cmp m it ks G ft fe):=
 pd_comp hclos (fun y hy=>by have:=List.all_eq_true.mp hcell y hy;simpa using this) hkind
  (fun y hy z=>by have:=List.all_eq_true.mp hnames y hy;rw[z] at this;simpa using this) hcl hnm hf hl
  (fun k hk=>of_decide_eq_true (List.all_eq_true.mp hks k hk)) hcm hi hg ht he hs
theorem pds_comp1 {i:Nat} {x:Str} {pos' spos:Pos} (hN:X.N.Nodup) (hi0:X.N[i]? =some x) (hx:Loc X.env.scope x) (hclos:closureFor scope X.env=pure cl) (hcell:scope.names.all (fun y=>y.2 != .cell)=true) (hkind:scope.kind= .function) (hnames:scope.names.all (fun y=>y.2 != .local || scope.names.lookup y.1==some .local)=true) (hcl:lkAll cl X.env=true)
  (hnm:nmAll X.N N' (relabel scope X.env)=true) (hf:frAll cl (relabel scope X.env)=true) (hl:N'.length=X.N.length+m) (hks:ks.all (fun k=>decide (X.N.length≤k))=true) (hcm:X.calm=true) (hi:PIt X B tg iter it)
  (hg: ∀C s₀ H₀ ex,PDH (cxC X scope cl N' C s₀ H₀ ex) tg ks G) (ht: ∀C s₀ H₀ ex B,PIf (cxC X scope cl N' C s₀ H₀ ex) B ifs ft) (he: ∀C s₀ H₀ ex B,PD (cxC X scope cl N' C s₀ H₀ ex) B elt fe)
  (hsw:swapsWith (.ListComp elt [⟨tg,iter,ifs,0⟩] scope pos) (some (.Name x pos')) spos.line X.env=pure true:=by rfl) (hs: ∀x,foldedSetIterable iter X.env x=pure x:=by intro _;rfl)
  (hfn:X.fn x=true∨X.env.scope.names.lookup x=some .local:=by first | exact .inl rfl | exact .inr rfl | assumption):
  PDS X B (.Assign [.Name x pos'] (.ListComp elt [⟨tg,iter,ifs,0⟩] scope pos) spos) (aC3 i (cmp m it ks G ft fe)):=
 pds_comp hN hi0 hx hclos (fun y hy=>by have:=List.all_eq_true.mp hcell y hy;simpa using this) hkind
  (fun y hy z=>by have:=List.all_eq_true.mp hnames y hy;rw[z] at this;simpa using this) hcl hnm hf hl
  (fun k hk=>of_decide_eq_true (List.all_eq_true.mp hks k hk)) hcm hi hg ht he hsw hs hfn
end
section
variable {X:Cx} {B:Hp} {a b:Expr} {fa fb:Rho→M D} {pos:Pos}
theorem OpR.or {f:Value→Value→Sem Value} {r r':R2} (h:OpR X f r) (h':OpR X f r'):OpR X f (fun x y H Q=>r x y H Q∨r' x y H Q):=by
 intro pins s σ H x y v u Q I rx ry q
 rcases q with q | q
 ·exact h pins s σ H x y v u Q I rx ry q
 ·exact h' pins s σ H x y v u Q I rx ry q
noncomputable def rCat0 (K:PySem.W.Frag):R2:=fun x y H Q=> ∃a b ys,x= .ref a∧y= .ref b∧SqT K H a []∧SqT K H b ys∧Q (.ref b) H
theorem op_cat0:OpR X (binaryOp .Add) (rCat0 X.K):=by
 intro pins s σ H x y v u Q I rx ry h
 obtain⟨a,b,ys,rfl,rfl,ha,hb,q⟩:=h
 cases rx
 cases ry
 obtain⟨its,r1,p1,_⟩:=I.tuple ha
 obtain⟨its2,r2,p2,_⟩:=I.tuple hb
 have e1:its=[]:=r1.nil_iff.mpr rfl
 subst e1
 obtain⟨⟨c1,d1,x1,l1⟩,o1,k1,n1,z1⟩:=p1
 obtain⟨⟨c2,d2,x2,l2⟩,o2,k2,n2,z2⟩:=p2
 dsimp only at k1 z1 k2 z2
 subst k1 z1 k2 z2
 exact concat_meets ⟨_,o1,rfl⟩ ⟨_,o2,rfl⟩ noFill_tuple_add seq_tuple_add PySem.F.slot_tuple_add PySem.F.entry_tuple_add (PySem.F.args_tuple_add_2 _ _)
  (tuple_addW0 a b _ _ n1 n2 d1 d2 l1 l2 rfl) ⟨o1,o2,⟨.ref b,H,I,rfl,q⟩⟩
noncomputable def rCatG (K:PySem.W.Frag):R2:=fun x y H Q=> ∃a b xs ys,x= .ref a∧y= .ref b∧SqL K H a xs∧SqL K H b ys∧xs.length+ys.length≤sizeLine∧∀p,H p=none→Q (.ref p) (upd H p (.lst (xs++ys)))
theorem op_catG:OpR X (binaryOp .Add) (rCatG X.K):=by
 intro pins s σ H x y v u Q I rx ry h
 obtain⟨a,b,xs,ys,rfl,rfl,ha,hb,hz,q⟩:=h
 cases rx
 cases ry
 obtain⟨its,r1,p1,_⟩:=I.list ha
 obtain⟨its2,r2,p2,_⟩:=I.list hb
 have hl1:=r1.length
 have hl2:=r2.length
 obtain⟨⟨c1,d1,x1,l1⟩,n1,o1,k1,_,z1⟩:=p1
 obtain⟨⟨c2,d2,x2,l2⟩,n2,o2,k2,_,z2⟩:=p2
 dsimp only at k1 z1 k2 z2
 subst k1 z1 k2 z2
 refine concat_meets ⟨_,o1,rfl⟩ ⟨_,o2,rfl⟩ noFill_list_add seq_list_add PySem.F.slot_list_add PySem.F.entry_list_add (PySem.F.args_list_add_2 _ _)
  (list_addW a b _ _ n1 n2 d1 d2 l1 l2 (by rw[List.size_toArray,List.size_toArray,←hl1,←hl2];exact hz)) ⟨o1,o2,?_⟩
 have ea:its.toArray++its2.toArray=(its++its2).toArray:=by simp
 rw[ea]
 exact⟨.ref _,_,I.lnew (t':=s.toks) (r1.append r2) (by rw[List.length_append];exact hz),rfl,q _ I.fresh⟩
noncomputable def aC0:D→D→M D
 | .int i,.int j=>ok (.int (i+j))
 | .str i,.str j=>if i.length+j.length≤100000 then ok (.str (i++j)) else none
 | .tup xs,.tup ys=>if xs.length+ys.length≤100000 then ok (.tup (xs++ys)) else none
 | .lst xs,.lst ys=>if xs.length+ys.length≤100000 then ok (.lst (xs++ys)) else none
 | _,_=>none
theorem n_plus:NoErr aC0:=by
 intro x y c h
 unfold aC0 at h
 (repeat' split at h)<;>cases h
theorem line5 {n:Nat} (h:n≤100000):n≤sizeLine:=Nat.le_trans h (by decide)
noncomputable def rPlus (K:PySem.W.Frag):R2:=fun x y H Q=>(∃i j,x= .int i∧y= .int j∧Q (.int (i+j)) H)∨(∃i j,x= .str i∧y= .str j∧i.length+j.length≤sizeLine∧Q (.str (i++j)) H)∨rCat0 K x y H Q∨rCatT K x y H Q∨rCatG K x y H Q
theorem op_plus:OpR X (binaryOp .Add) (rPlus X.K):=OpR.or op_add (OpR.or op_add_str (OpR.or op_cat0 (OpR.or op_catT op_catG)))
theorem r_plus:R2ok X (rPlus X.K) aC0:=by
 intro H x y dx dy d Q ix iy e q
 unfold aC0 at e
 split at e
 ·cases ix;cases iy;cases e
  exact .inl ⟨_,_,rfl,rfl,q _ H (Same.refl H) (.int _)⟩
 ·split at e
  ·rename_i hz
   cases ix;cases iy;cases e
   exact .inr (.inl ⟨_,_,rfl,rfl,line5 hz,q _ H (Same.refl H) (.str _)⟩)
  ·cases e
 ·split at e
  ·rename_i hz
   cases ix with
   | tup h1 r1=>
    cases iy with
    | tup h2 r2=>
     cases e
     rw[r1.length,r2.length] at hz
     cases r1 with
     | nil=>exact .inr (.inr (.inl ⟨_,_,_,rfl,rfl,h1,h2.sq,q _ H (Same.refl H) (.tup h2 r2)⟩))
     | cons i1 r1=>
      refine .inr (.inr (.inr (.inl ⟨_,_,_,_,rfl,rfl,h1,h2,by simp,line5 hz,fun z=> ?_,fun z p hp=> ?_⟩)))
      ·subst z
       cases r2
       exact q _ H (Same.refl H) (by rw[List.append_nil];exact .tup h1 (.cons i1 r1))
      ·exact q _ _ (aAn hp _) (.tup (TQ.of aAi) ((IsL.append (.cons i1 r1) r2).mono (aAn hp _)))
  ·cases e
 ·split at e
  ·rename_i hz
   cases ix with
   | lst h1 r1=>
    cases iy with
    | lst h2 r2=>
     cases e
     rw[r1.length,r2.length] at hz
     exact .inr (.inr (.inr (.inr ⟨_,_,_,_,rfl,rfl,h1,h2,line5 hz,fun p hp=>q _ _ (aAn hp _) (.lst (SqL.of aAi) ((IsL.append r1 r2).mono (aAn hp _)))⟩)))
  ·cases e
 ·cases e
theorem pd_plus (ha:PD X B a fa) (hb:PD X B b fb):PD X B (.BinOp a .Add b pos) (b2 aC0 fa fb):=pd_op op_plus r_plus n_plus ha hb
end
section
variable {X:Cx} {B:Hp} {a b:Expr} {fa fb:Rho→M D} {pos:Pos}
noncomputable def repS (x:Str) (n:Nat):Str:=⟨(List.replicate n x.cps).foldl (· ++ ·) #[]⟩
noncomputable def rMulS:R2:=fun x y H Q=> ∃z k,x= .str z∧y= .int k∧0≤k∧z.length≤1000∧k≤1000∧Q (.str (repS z k.toNat)) H
theorem rep0 (x:Str):repS x 0=Str.empty:=rfl
theorem rep1 (x:Str):repS x 1=x:=by
 unfold repS
 simp
theorem repE {x:Str} (h:x.length=0) (n:Nat):repS x n=x:=by
 obtain⟨c⟩:=x
 have e:c= #[]:=Array.size_eq_zero_iff.mp h
 subst e
 unfold repS
 congr 1
 induction n with
 | zero=>rfl
 | succ n ih=>rw[List.replicate_succ,List.foldl_cons];exact ih
theorem rep_len (x:Str) (n:Nat):(repS x n).length=n*x.length:=by
 have g: ∀(m:Nat) (a:Array Nat),((List.replicate m x.cps).foldl (· ++ ·) a).size=a.size+m*x.cps.size:=by
  intro m
  induction m with
  | zero=>intro a;simp
  | succ m ih=>intro a;rw[List.replicate_succ,List.foldl_cons,ih,Array.size_append,Nat.succ_mul];omega
 show ((List.replicate n x.cps).foldl (· ++ ·) #[]).size=n*x.cps.size
 rw[g]
 simp
theorem op_mulS:OpR X (binaryOp .Mult) rMulS:=by
 intro pins s σ H x y v u Q I rx ry h
 obtain⟨z,k,rfl,rfl,h0,hz,hk,q⟩:=h
 obtain⟨t,rfl⟩:=rx
 obtain⟨t',rfl⟩:=ry
 refine P.mul_str ?_ (fun h1 h2=> ?_) (fun h1 h2=> ?_) ?_
 ·have e1:decide (k< -(2^63:Int))=false:=decide_eq_false (by omega)
  have e2:decide (k≥2^63)=false:=decide_eq_false (by omega)
  rw[e1,e2];rfl
 ·have h3:(1001:Int)≤(2^63-1)/k:=by
   refine Int.le_ediv_of_mul_le (by omega) ?_
   have:(1001:Int)*k≤1001*1000:=by omega
   omega
  omega
 ·have h3:z.length*k.toNat≤1000*1000:=Nat.mul_le_mul hz (by omega)
  exact decide_eq_false (by unfold sizeLine;omega)
 ·by_cases k0:k<1
  ·have ek:k.toNat=0:=by omega
   rw[if_pos k0]
   rw[ek,rep0] at q
   exact⟨by decide,⟨.str Str.empty,H,I.tok _,⟨_,rfl⟩,q⟩⟩
  ·rw[if_neg k0]
   split
   ·rename_i hh
    have e:repS z k.toNat=z:=by
     simp only[Bool.or_eq_true,beq_iff_eq] at hh
     rcases hh with hh | hh
     ·have ek:k.toNat=1:=by omega
      rw[ek,rep1]
     ·exact repE hh _
    rw[e] at q
    exact⟨.str z,H,I,⟨t,rfl⟩,q⟩
   ·have hl:(repS z k.toNat).length≤sizeLine:=by
     rw[rep_len]
     have:k.toNat*z.length≤1000*1000:=Nat.mul_le_mul (by omega) hz
     unfold sizeLine
     omega
    exact⟨hl,⟨.str (repS z k.toNat),H,I.tok _,⟨_,rfl⟩,q⟩⟩
noncomputable def aEe:D→D→M D
 | .int i,.int j=>gMul (.int i) (.int j)
 | .str z,.int k=>if 0≤k∧z.length≤1000∧k≤1000 then ok (.str (repS z k.toNat)) else none
 | _,_=>none
theorem n_times:NoErr aEe:=by
 intro x y c h
 unfold aEe gMul at h
 (repeat' split at h)<;>cases h
theorem pd_times (ha:PD X B a fa) (hb:PD X B b fb):PD X B (.BinOp a .Mult b pos) (b2 aEe fa fb):=by
 refine pd_op (OpR.or op_mulB op_mulS) ?_ n_times ha hb
 intro H x y dx dy d Q ix iy e q
 unfold aEe at e
 split at e
 ·dsimp only[gMul] at e
  split at e
  ·rename_i h
   cases ix;cases iy;cases e
   exact .inl ⟨_,_,rfl,rfl,h,q _ H (Same.refl H) (.int _)⟩
  ·cases e
 ·split at e
  ·rename_i h
   cases ix;cases iy;cases e
   exact .inr ⟨_,_,rfl,rfl,h.1,h.2.1,h.2.2,q _ H (Same.refl H) (.str _)⟩
  ·cases e
 ·cases e
end
section
variable {K:PySem.W.Frag} {H₀ H:Hp} {ρ:Rho} {σ:St}
theorem Rel.own_new {i:Nat} {a:Addr} {ds:List D} {vs:List V} (r:Rel K H₀ ρ σ H) (hf:H a=none) (im:immL ds=true) (iv:IsL K H ds vs):Rel K H₀ (ρ.set i (some (.own ds))) (σ.set i (some (.ref a))) (upd H a (.lst vs)):=by
 obtain⟨O,h1,ho,h2,hl,h3⟩:=id r
 by_cases hi:i<σ.length
 case neg=>
  have s1: ∀x:Option SV,ρ.set i x=ρ:=fun x=>List.set_eq_of_length_le (by omega)
  have s2: ∀x:Option V,σ.set i x=σ:=fun x=>List.set_eq_of_length_le (by omega)
  rw[s1,s2]
  exact r.mono (aAn hf _)
 have na: ∀j b,O j=some b→b≠a:=fun j b q e=>by
  subst e
  obtain⟨u,w,m⟩:=ho j b q;rw[w] at hf;cases hf
 let O':Nat→Option Addr:=fun j=>if j=i then some a else O j
 have Oi:O' i=some a:=if_pos rfl
 have On: ∀j,j≠i→O' j=O j:=fun j e=>if_neg e
 have hO':OwnK (upd H a (.lst vs)) O':=fun j b q=>by
  by_cases e:j=i
  ·subst e
   rw[Oi] at q
   cases q
   exact⟨_,aAi,rfl⟩
  ·rw[On j e] at q
   have nb:=na j b q
   obtain⟨u,w,m⟩:=ho j b q
   exact⟨u,by rw[aAk nb];exact w,m⟩
 have sm:Same (Off H O) (Off (upd H a (.lst vs)) O'):=fun b o q=>by
  have qh:=Off.same H O b o q
  have nb:b≠a:=fun e=>by subst e;rw[hf] at qh;cases qh
  refine Off.of (by rw[aAk nb];exact qh) fun j z=> ?_
  by_cases e:j=i
  ·subst e
   rw[Oi] at z
   cases z
   exact nb rfl
  ·rw[On j e] at z
   exact Off.not q j z
 refine⟨O',fun j k b q1 q2=> ?_,hO',h2.trans sm,by rw[List.length_set,List.length_set,hl],fun j sv q=> ?_⟩
 ·by_cases e1:j=i
  ·by_cases e2:k=i
   ·rw[e1,e2]
   ·subst e1
    rw[Oi] at q1
    cases q1
    rw[On k e2] at q2
    exact absurd rfl (na k _ q2)
  ·by_cases e2:k=i
   ·subst e2
    rw[Oi] at q2
    cases q2
    rw[On j e1] at q1
    exact absurd rfl (na j _ q1)
   ·rw[On j e1] at q1
    rw[On k e2] at q2
    exact h1 j k b q1 q2
 ·by_cases e:j=i
  ·subst e
   have hj:j<ρ.length:=by
    have:=(List.getElem?_eq_some_iff.mp q).1
    rwa [List.length_set] at this
   rw[List.getElem?_set_self hj] at q
   have q':=Option.some.inj (Option.some.inj q)
   subst q'
   exact⟨a,vs,Oi,List.getElem?_set_self (by rw[←hl];exact hj),aAi,offL_imm hO' im (iv.mono (aAn hf _))⟩
  ·rw[List.getElem?_set_ne (Ne.symm e)] at q
   have z:=h3 j sv q
   cases sv with
   | sh d'=>obtain⟨v',e1,e2⟩:=z;exact⟨v',by rw[List.getElem?_set_ne (Ne.symm e)];exact e1,e2.mono sm⟩
   | own ds'=>
    obtain⟨b,ws,e1,e2,e3,e4⟩:=z
    exact⟨b,ws,by rw[On j e];exact e1,by rw[List.getElem?_set_ne (Ne.symm e)];exact e2,by rw[aAk (na j b e1)];exact e3,e4.mono sm⟩
   | oin b C dx fs=>
    obtain⟨e1,e2,e3,ws,e4,e5⟩:=z
    exact⟨by rw[On j e];exact e1,by rw[List.getElem?_set_ne (Ne.symm e)];exact e2,e3,ws,by rw[aAk (na j b e1)];exact e4,e5.mono sm⟩
   | ow o=>
    obtain⟨b,u,e1,e2,e3,e4⟩:=z
    exact⟨b,u,by rw[On j e];exact e1,by rw[List.getElem?_set_ne (Ne.symm e)];exact e2,by rw[aAk (na j b e1)];exact e3,e4.mono sm⟩
   | tk ks=>obtain⟨b,e1,e2⟩:=z;exact⟨b,by rw[List.getElem?_set_ne (Ne.symm e)];exact e1,sm _ _ e2⟩
   | nl kd ls=>exact NL.move (by rw[List.length_set]) (List.getElem?_set_ne (Ne.symm e)) (fun m b w hm e1 e2=>⟨by rw[On m (by rcases hm with h | h<;>omega)];exact e1,by rw[aAk (na m b e1)];exact e2⟩) sm z
theorem Rel.own_put {i:Nat} {a:Addr} {ds ds':List D} {vs':List V} (O:Nat→Option Addr) (h1: ∀i j a,O i=some a→O j=some a→i=j) (ho:OwnK H O) (h2:Same H₀ (Off H O)) (hl:ρ.length=σ.length)
  (h3: ∀i sv,ρ[i]? =some (some sv)→Slot K H O σ i sv) (q:ρ[i]? =some (some (.own ds))) (z1:O i=some a) (z2:σ[i]? =some (some (.ref a))) (iv:IsL K (Off H O) ds' vs'):Rel K H₀ (ρ.set i (some (.own ds'))) σ (upd H a (.lst vs')):=by
 have eo:Off (upd H a (.lst vs')) O=Off H O:=Off.upd z1
 refine⟨O,h1,fun j b qj=> ?_,by rw[eo];exact h2,by rw[List.length_set,hl],fun j sv qj=> ?_⟩
 ·by_cases e:b=a
  ·subst e;exact⟨_,aAi,rfl⟩
  ·obtain⟨u,w,m⟩:=ho j b qj
   exact⟨u,by rw[aAk e];exact w,m⟩
 ·by_cases e:j=i
  ·subst e
   have hj:j<ρ.length:=(List.getElem?_eq_some_iff.mp q).1
   rw[List.getElem?_set_self hj] at qj
   have q':=Option.some.inj (Option.some.inj qj)
   subst q'
   exact⟨a,vs',z1,z2,aAi,by rw[eo];exact iv⟩
  ·rw[List.getElem?_set_ne (Ne.symm e)] at qj
   have z:=h3 j sv qj
   cases sv with
   | sh d'=>obtain⟨v',e1,e2⟩:=z;exact⟨v',e1,by rw[eo];exact e2⟩
   | own es=>
    obtain⟨b,ws,e1,e2,e3,e4⟩:=z
    have nb:b≠a:=fun w=>e (h1 j i a (by rw[←w];exact e1) z1)
    exact⟨b,ws,e1,e2,by rw[aAk nb];exact e3,by rw[eo];exact e4⟩
   | oin b C' dx' fs'=>
    obtain⟨e1,e2,e3,ws,e4,e5⟩:=z
    have nb:b≠a:=fun w=>e (h1 j i a (by rw[←w];exact e1) z1)
    exact⟨e1,e2,e3,ws,by rw[aAk nb];exact e4,by rw[eo];exact e5⟩
   | ow o=>
    obtain⟨b,u,e1,e2,e3,e4⟩:=z
    have nb:b≠a:=fun w=>e (h1 j i a (by rw[←w];exact e1) z1)
    exact⟨b,u,e1,e2,by rw[aAk nb];exact e3,by rw[eo];exact e4⟩
   | tk ks=>obtain⟨b,e1,e2⟩:=z;exact⟨b,e1,by rw[eo];exact e2⟩
   | nl kd ls=>
    have hi:i<σ.length:=by have:=(List.getElem?_eq_some_iff.mp q).1;omega
    exact NL.move rfl rfl (fun m b w hm e1 e2=>⟨e1,by rw[aAk (fun z=>absurd (h1 m i a (by rw[←z];exact e1) z1) (by rcases hm with h | h<;>omega))];exact e2⟩) (by rw[eo];exact Same.refl _) z
end
section
variable {X:Cx} {B:Hp} {e e':Expr} {es:List Expr} {fa fb:Rho→M D} {ga:Rho→M (List D)} {pos pos' p p2 apos cpos:Pos} {x:Str} {i:Nat}
noncomputable def sNew (i:Nat) (g:Rho→M (List D)):Rho→Option Out:=fun ρ=>lft (g ρ) ρ fun ds=>if immL ds=true∧ds.length≤1000 then some (.nx (ρ.set i (some (.own ds)))) else none
theorem pds_new (hN:X.N.Nodup) (hi:X.N[i]? =some x) (hx:Loc X.env.scope x) (he:PDA X B es ga) (hs:swapsWith (.List es p) (some (.Name x pos')) pos.line X.env=pure false:=by rfl) (hf:X.fn x=true∨X.env.scope.names.lookup x=some .local:=by first | exact .inl rfl | exact .inr rfl | assumption):
  PDS X B (.Assign [.Name x pos'] (.List es p) pos) (sNew i ga):=by
 refine PS.of (ps_set hN hi hx (pe_lst he) hs hf) fun E σ H h=> ?_
 obtain⟨ρ,r,h⟩:=h
 refine⟨ρ,r,(aBa r h).imp fun ds h1 vs H1 e1 i1=> ?_⟩
 split at h1
 ·rename_i hh
  refine⟨by rw[←i1.length];exact Nat.le_trans hh.2 (by decide),fun l hl=> ?_⟩
  exact h1 _ _ ((r.mono e1).own_new hl hh.1 i1)
 ·exact False.elim h1
noncomputable def sOwn (G:List D→List D→Option (List D)) (i:Nat) (g:Rho→M (List D)):Rho→Option Out:=fun ρ=>match ρ[i]? with
 | some (some (.own ds))=>lft (g ρ) ρ fun as=>if immL as=true∧ds.length<100000 then (match G ds as with | some ds'=>some (.nx (ρ.set i (some (.own ds')))) | none=>none) else none
 | _=>none
noncomputable def LMok (r:V→List V→Hp→VK→Prop) (G:List D→List D→Option (List D)):Prop:=
 ∀(K:PySem.W.Frag) (H0 H1:Hp) (l:Addr) (ds as ds':List D) (vs us:List V) (Q:VK),IsL K H0 ds vs→IsL K H0 as us→H1 l=some (.lst vs)→ds.length<100000→G ds as=some ds'→(∀vs',IsL K H0 ds' vs'→Q .non (upd H1 l (.lst vs')))→r (.ref l) us H1 Q
theorem pds_own {id:String} {name:Str} {r:V→List V→Hp→VK→Prop} {G:List D→List D→Option (List D)} (slot:PySem.Slot "list" name id) (hty:typeOf (.builtin id)=pure (.type "method_descriptor")) (hm:MtM X id r) (hr:LMok r G)
  (hN:X.N[i]? =some x) (hv:Vis X.env.scope x) (ha:PDA X B (e::es) ga)
  (hfew:((backTo cpos (starEach (e::es) X.env)).all (fun x=> !x.1)&&(backToKw cpos (keywordEach [] X.env)).all (fun x=>x.1.isSome)
   &&decide ((e::es).length+([]:List Keyword).length+(if ([]:List Keyword).isEmpty then 0 else 1)<30))=true)
  (hs:starEach (e::es) X.env=(false,eval e X.env)::starEach es X.env) (hplain:(backTo cpos (starEach es X.env)).any (·.1)=false)
  (hline:(apos.endLine==cpos.line)=true:=by rfl)
  (hsw:swapsWith (.Call (.Attribute (.Name x p) name apos) (e::es) [] cpos) none pos.line X.env=pure false:=by rfl)
  (hd:(x==("__debug__":Str))=false:=by decide) (hcd:(x==("__classdict__":Str))=false:=by decide):
  PDS X B (.Expr (.Call (.Attribute (.Name x p) name apos) (e::es) [] cpos) pos) (sOwn G i ga):=by
 refine PS.of (ps_expr (pe_bm PySem.F.plainAttrs_list slot hty hm (pe_var hN hv hd hcd) ha (hbase:=rfl) (hfew:=hfew) (hline:=hline) (hs:=hs) (hplain:=hplain)) hsw) fun E σ H h=> ?_
 obtain⟨ρ,r1,h⟩:=h
 unfold sOwn at h
 split at h
 ·rename_i ds q
  obtain⟨O,h1,ho,h2,hl,h3⟩:=(show Rel X.K B ρ σ H from r1)
  obtain⟨a,vs,z1,z2,z3,z4⟩:=h3 i _ q
  refine⟨.ref a,z2,.inl ⟨rfl,_,SqL.of z3⟩,ρ,r1,(aBa r1 h).imp fun as k1 us H1 e1 i1=> ?_⟩
  split at k1
  ·rename_i hh
   split at k1
   ·rename_i ds' hG
    have ho1:=ho.mono e1
    refine hr X.K (Off H1 O) H1 a ds as ds' vs us _ (z4.mono (Off.mono e1)) (offL_imm ho1 hh.1 i1) (e1 _ _ z3) hh.2 hG fun vs' i'=> ?_
    exact k1 _ _ (Rel.own_put O h1 ho1 (h2.trans (Off.mono e1)) hl (fun j sv qj=>(h3 j sv qj).mono e1) q z1 z2 i')
   ·exact False.elim k1
  ·exact False.elim k1
 ·exact False.elim h
noncomputable def lApp (ds:List D):List D→Option (List D)
 | [d]=>some (ds++ [d])
 | _=>none
theorem lm_app:LMok rAppend lApp:=by
 intro K H0 H1 l ds as ds' vs us Q i1 i2 hl hn hG q
 unfold lApp at hG
 split at hG
 ·cases hG
  cases i2 with
  | cons id1 rest=>
   cases rest
   exact⟨l,vs,_,rfl,rfl,hl,by rw[←i1.length];exact Nat.lt_of_lt_of_le hn (by decide),q _ (i1.append (.cons id1 .nil))⟩
 ·cases hG
theorem pds_append (hN:X.N[i]? =some x) (hv:Vis X.env.scope x) (ha:PD X B e fa) (hs:aB4 e=true:=by rfl) (hline:(apos.endLine==cpos.line)=true:=by rfl)
  (hsw:swapsWith (.Call (.Attribute (.Name x p) "append" apos) [e] [] cpos) none pos.line X.env=pure false:=by rfl)
  (hd:(x==("__debug__":Str))=false:=by decide) (hcd:(x==("__classdict__":Str))=false:=by decide):
  PDS X B (.Expr (.Call (.Attribute (.Name x p) "append" apos) [e] [] cpos) pos) (sOwn lApp i (aAc fa aAv)):=
 pds_own PySem.F.slot_list_append PySem.F.type_list_append mt_append lm_app hN hv (aAd ha aAl (aAx hs)) (by rw[star1 hs];rfl) (aAx hs) rfl hline hsw hd hcd
end
section
variable {X:Cx} {B:Hp} {e:Expr} {fa:Rho→M D} {pos p:Pos}
noncomputable def blL:List D→Option (List Bool)
 | []=>some []
 | .bl b::ds=>match blL ds with | some bs=>some (b::bs) | none=>none
 | _::_=>none
noncomputable def anyD:D→M D
 | .lst ds=>match blL ds with | some bs=>ok (.bl (bs.any id)) | none=>none
 | _=>none
noncomputable def allD:D→M D
 | .lst ds=>match blL ds with | some bs=>ok (.bl (bs.all id)) | none=>none
 | _=>none
theorem blL_is {K:PySem.W.Frag} {H:Hp}: ∀(ds:List D) {vs:List V} {bs:List Bool},IsL K H ds vs→blL ds=some bs→vs=bs.map V.bl
 | [],_,_,r,h=>by cases r;cases h;rfl
 | .bl b::ds,_,_,.cons i r,h=>by
  cases i
  unfold blL at h
  split at h
  ·rename_i bs hb
   cases h
   rw[blL_is ds r hb];rfl
  ·cases h
 | .non::_,_,_,_,h=>nomatch h
 | .int _::_,_,_,_,h=>nomatch h
 | .str _::_,_,_,_,h=>nomatch h
 | .tup _::_,_,_,_,h=>nomatch h
 | .lst _::_,_,_,_,h=>nomatch h
 | .obj _ _::_,_,_,_,h=>nomatch h
 | .dk _::_,_,_,_,h=>nomatch h
 | .dt _::_,_,_,_,h=>nomatch h
 | .exc _::_,_,_,_,h=>nomatch h
 | .set _::_,_,_,_,h=>nomatch h
theorem truth_at {bs:List Bool} {its:List Value} (r:Vals (bs.map V.bl) its) {i:Nat} {v:Value} (h:its.toArray[i]? =some v):v= .bool (bs.getD i false):=by
 rw[List.getElem?_toArray] at h
 induction bs generalizing its i with
 | nil=>cases r;simp at h
 | cons b bs ih=>
  cases r with
  | cons r1 r2=>
   cases i with
   | zero=>simp at h;subst h;cases r1;rfl
   | succ i=>rw[List.getElem?_cons_succ] at h;exact ih r2 h
theorem range_any (bs:List Bool):(List.range bs.length).any (fun i=>bs.getD i false)=bs.any id:=by
 induction bs with
 | nil=>rfl
 | cons b bs ih=>rw[List.length_cons,List.range_succ_eq_map,List.any_cons,List.any_map,List.any_cons,←ih];rfl
theorem range_all (bs:List Bool):(List.range bs.length).all (fun i=>bs.getD i false)=bs.all id:=by
 induction bs with
 | nil=>rfl
 | cons b bs ih=>rw[List.length_cons,List.range_succ_eq_map,List.all_cons,List.all_map,List.all_cons,←ih];rfl
noncomputable def rTruths (f:List Bool→Bool) (K:PySem.W.Frag):List V→Hp→VK→Prop:=fun xs H Q=> ∃p bs,xs=[.ref p]∧SqL K H p (bs.map V.bl)∧Q (.bl (f bs)) H
theorem call_anyB (hc:X.calm=true):CallR X (.builtin "any") (rTruths (fun bs=>bs.any id) X.K):=by
 intro pins s σ H xs us Q I r h
 obtain⟨p,bs,rfl,hq,q⟩:=h
 obtain⟨u,rfl,rx⟩:=vals1 r
 cases rx
 obtain⟨its,r',pl,hz⟩:=I.list hq
 have hlen:its.toArray.size=bs.length:=by rw[List.size_toArray,←r'.length,List.length_map]
 have hlt:p<s.heap.objs.size:=by obtain⟨o,_,e,_⟩:=pl;exact Heap.lt_size e
 refine call_any_walk (wpAny_pyIter_list pl.isList ?_)
 refine⟨s.heap.objs.size,_,_,_,_,_,fun i=>bs.getD i false,rfl,Walks.list (by simpa using I.ok.hd hc) _ p (Nat.ne_of_lt hlt) its.toArray,⟨⟨_,Heap.get?_push_size _ rfl,rfl,rfl⟩,pl.isList.push _⟩,fun i v s Q E hP hQ=> ?_,fun h' tk hk=> ?_⟩
 ·rw[truth_at r' hP];exact wpAny_truthy_bool hQ
 ·rw[hlen,range_any]
  exact⟨.bl _,H,I.kept (t':=tk) fun b ob e=>hk b ob (by simp;exact Nat.ne_of_lt (Heap.lt_size e)) (Heap.get?_push_of_some _ e),rfl,q⟩
theorem call_allB (hc:X.calm=true):CallR X (.builtin "all") (rTruths (fun bs=>bs.all id) X.K):=by
 intro pins s σ H xs us Q I r h
 obtain⟨p,bs,rfl,hq,q⟩:=h
 obtain⟨u,rfl,rx⟩:=vals1 r
 cases rx
 obtain⟨its,r',pl,hz⟩:=I.list hq
 have hlen:its.toArray.size=bs.length:=by rw[List.size_toArray,←r'.length,List.length_map]
 have hlt:p<s.heap.objs.size:=by obtain⟨o,_,e,_⟩:=pl;exact Heap.lt_size e
 refine call_all_walk (wpAny_pyIter_list pl.isList ?_)
 refine⟨s.heap.objs.size,_,_,_,_,_,fun i=>bs.getD i false,rfl,Walks.list (by simpa using I.ok.hd hc) _ p (Nat.ne_of_lt hlt) its.toArray,⟨⟨_,Heap.get?_push_size _ rfl,rfl,rfl⟩,pl.isList.push _⟩,fun i v s Q E hP hQ=> ?_,fun h' tk hk=> ?_⟩
 ·rw[truth_at r' hP];exact wpAny_truthy_bool hQ
 ·rw[hlen,range_all]
  exact⟨.bl _,H,I.kept (t':=tk) fun b ob e=>hk b ob (by simp;exact Nat.ne_of_lt (Heap.lt_size e)) (Heap.get?_push_of_some _ e),rfl,q⟩
theorem boot_any:bootBuiltins "any"=some (.builtin "any"):=by decide+kernel
theorem boot_all:bootBuiltins "all"=some (.builtin "all"):=by decide+kernel
theorem pd_any (hc:X.calm=true) (hg:Gl X "any") (hm:X.mg "any"=none) (ha:PD X B e fa) (hs:aB4 e=true:=by rfl):PD X B (.Call (.Name "any" p) [e] [] pos) (f1 anyD fa):=by
 refine PE.of (aC4 (call_anyB hc) hg hm boot_any (aA4 ha aBx (aAx hs)) (he:=aAx hs) (hpl:=by rfl)) fun σ H Q h=> ?_
 obtain⟨ρ,r1,h⟩:=h
 refine⟨ρ,r1,(Res.bind h).imp fun d q1 v H1 e1 i1=> ?_⟩
 cases i1 with
 | lst hh rr=>
  dsimp only[anyD] at q1
  split at q1
  ·rename_i bs hb
   exact⟨_,bs,rfl,by rw[←blL_is _ rr hb];exact hh,q1 _ H1 e1 (.bl _)⟩
  ·exact False.elim q1
 | _=>exact False.elim q1
theorem pd_all (hc:X.calm=true) (hg:Gl X "all") (hm:X.mg "all"=none) (ha:PD X B e fa) (hs:aB4 e=true:=by rfl):PD X B (.Call (.Name "all" p) [e] [] pos) (f1 allD fa):=by
 refine PE.of (aC4 (call_allB hc) hg hm boot_all (aA4 ha aBx (aAx hs)) (he:=aAx hs) (hpl:=by rfl)) fun σ H Q h=> ?_
 obtain⟨ρ,r1,h⟩:=h
 refine⟨ρ,r1,(Res.bind h).imp fun d q1 v H1 e1 i1=> ?_⟩
 cases i1 with
 | lst hh rr=>
  dsimp only[allD] at q1
  split at q1
  ·rename_i bs hb
   exact⟨_,bs,rfl,by rw[←blL_is _ rr hb];exact hh,q1 _ H1 e1 (.bl _)⟩
  ·exact False.elim q1
 | _=>exact False.elim q1
end
section
variable {X:Cx} {B:Hp} {e a b:Expr} {fa fb:Rho→M D} {pos p p2 pos2:Pos}
noncomputable def strL:List D→Option (List Str)
 | []=>some []
 | .str x::ds=>match strL ds with | some xs=>some (x::xs) | none=>none
 | _::_=>none
theorem strL_map (xs:List Str):strL (xs.map D.str)=some xs:=by
 induction xs with
 | nil=>rfl
 | cons x r ih=>rw[List.map_cons];unfold strL;rw[ih]
theorem strL_eq: ∀(ds:List D) {xs:List Str},strL ds=some xs→ds=xs.map D.str
 | [],_,h=>by cases h;rfl
 | .str x::ds,_,h=>by
  unfold strL at h
  split at h
  ·rename_i xs hx
   cases h
   rw[strL_eq ds hx];rfl
  ·cases h
 | .non::_,_,h=>nomatch h
 | .bl _::_,_,h=>nomatch h
 | .int _::_,_,h=>nomatch h
 | .tup _::_,_,h=>nomatch h
 | .lst _::_,_,h=>nomatch h
 | .obj _ _::_,_,h=>nomatch h
 | .dk _::_,_,h=>nomatch h
 | .dt _::_,_,h=>nomatch h
 | .exc _::_,_,h=>nomatch h
 | .set _::_,_,h=>nomatch h
theorem strs_at {K:PySem.W.Frag} {H:Hp}: ∀{xs:List Str} {vs:List V} {its:List Value},IsL K H (xs.map D.str) vs→Vals vs its→∀(i:Nat) (v:Value),its[i]? =some v→∃t,v=Value.str (xs.getD i Str.empty) t
 | [],_,_,.nil,r,i,v,h=>by cases r;simp at h
 | x::xs,_,_,.cons i1 r1,r,i,v,h=>by
  cases i1
  cases r with
  | cons q r=>
   obtain⟨t,rfl⟩:=q
   cases i with
   | zero=>simp at h;subst h;exact⟨t,rfl⟩
   | succ i=>rw[List.getElem?_cons_succ] at h;exact strs_at r1 r i v h
noncomputable def toS:D→M D
 | .tup ds=>match strL ds with | some xs=>if xs.length≤2000 then ok (.set (aDp xs)) else none | none=>none
 | .lst ds=>match strL ds with | some xs=>if xs.length≤2000 then ok (.set (aDp xs)) else none | none=>none
 | _=>none
noncomputable def rSet (K:PySem.W.Frag):List V→Hp→VK→Prop:=fun vs H Q=> ∃p ys xs,vs=[.ref p]∧(SqL K H p ys∨SqT K H p ys)∧IsL K H (xs.map D.str) ys∧xs.length≤2000∧∀l,H l=none→Q (.ref l) (upd H l (.set (fun k=>(aDp xs).contains k) (aDp xs).length))
theorem call_setS (hc:X.calm=true):CallR X (.type "set") (rSet X.K):=by
 intro pins s σ H vs us Q I r h
 obtain⟨p,ys,xs,rfl,hq,ix,hz,q⟩:=h
 obtain⟨u,rfl,rx⟩:=vals1 r
 cases rx
 have hl:=ix.length
 rw[List.length_map] at hl
 have fin: ∀(its:List Value),Vals ys its→∀(o:Obj) (n:Nat) (T:String),(T="list"∨T="tuple")→s.heap.get? p=some o→o.cls= .type T→o.data= .seq its.toArray n→wpAny (model X.prog X.w) X.A (call (.type "set") [.ref p]) (EP X pins σ Q) X.xe s:=by
  intro its r' o n T hT ho hcl hd
  have hlen:xs.length=its.toArray.size:=by rw[List.size_toArray,←r'.length,hl]
  refine call_set_seq hT (I.ok.hd hc) ho hcl hd (fun i v hv=>strs_at ix r' i v (by simpa using hv)) hlen (by rw[←hlen];show xs.length+1<4096;omega) fun h' tk z zt kp=> ?_
  exact⟨.ref s.heap.objs.size,_,I.laid (t':=tk) kp (Nat.le_refl _) (show aBw X.prog X.w _ h' _ (.set _ _) from⟨z,zt⟩),rfl,q _ (I.hok.fresh (Nat.le_refl _))⟩
 rcases hq with hq | hq
 ·obtain⟨its,r',⟨o,n,ho,hcl,_,hd⟩,_⟩:=I.list hq
  exact fin its r' o n "list" (.inl rfl) ho hcl hd
 ·obtain⟨its,r',⟨o,ho,hcl,n,hd⟩,_⟩:=I.tuple hq
  exact fin its r' o n "tuple" (.inr rfl) ho hcl hd
theorem boot_set:bootBuiltins "set"=some (.type "set"):=by decide+kernel
theorem pd_set (hc:X.calm=true) (hg:Gl X "set") (hm:X.mg "set"=none) (ha:PD X B e fa) (hs:aB4 e=true:=by rfl):PD X B (.Call (.Name "set" p) [e] [] pos) (f1 toS fa):=by
 refine PE.of (pe_callTy (call_setS hc) hg hm boot_set (aA4 ha aBx (aAx hs)) (he:=aAx hs) (hpl:=by rfl)) fun σ H Q h=> ?_
 obtain⟨ρ,r1,h⟩:=h
 refine⟨ρ,r1,(Res.bind h).imp fun d q1 v H1 e1 i1=> ?_⟩
 cases i1 with
 | lst hh rr=>
  dsimp only[toS] at q1
  split at q1
  ·rename_i xs hx
   have ed:=strL_eq _ hx
   subst ed
   split at q1
   ·rename_i hz
    exact⟨_,_,xs,rfl,.inl hh,rr,hz,fun l hl=>q1 _ _ (e1.trans (aAn hl _)) (.set aAi)⟩
   ·exact False.elim q1
  ·exact False.elim q1
 | tup hh rr=>
  dsimp only[toS] at q1
  split at q1
  ·rename_i xs hx
   have ed:=strL_eq _ hx
   subst ed
   split at q1
   ·rename_i hz
    exact⟨_,_,xs,rfl,.inr hh,rr,hz,fun l hl=>q1 _ _ (e1.trans (aAn hl _)) (.set aAi)⟩
   ·exact False.elim q1
  ·exact False.elim q1
 | _=>exact False.elim q1
end
section
variable {X:Cx} {B:Hp} {e a b:Expr} {fa fb:Rho→M D} {pos p p2 pos2:Pos}
theorem inv_drew {pins:List (Addr×Obj)} {σ:List (Option V)} {H:Hp} {s:Shared} (I:Inv X pins σ H s) (d:Drawn):Inv X pins σ H {s with drawn:=d}:=⟨I.ok,I.os,I.bare,I.base,I.loc,I.cell,I.free,I.freeC,I.pin,I.hok,I.len⟩
theorem strsD {K:PySem.W.Frag} {H:Hp}: ∀{vs:List Value} {xs:List Str},StrsAre vs xs→Vals (xs.map V.str) vs∧IsL K H (xs.map D.str) (xs.map V.str)
 | _,_,.nil=>⟨.nil,.nil⟩
 | _,_,.cons y t r=>⟨.cons ⟨t,rfl⟩ (strsD (K:=K) (H:=H) r).1,.cons (.str y) (strsD r).2⟩
noncomputable def srtD:D→M D
 | .set ss=>if ss.length<64∧ss.Nodup then ok (.lst ((srtS ss).map .str)) else none
 | _=>none
theorem call_sortedS (hc:X.calm=true):CallR X (.builtin "sorted") (fun xs H Q=> ∃p ss,xs=[.ref p]∧H p=some (.set (fun k=>(ss:List Str).contains k) ss.length)∧ss.length<64∧ss.Nodup∧∀l,H l=none→Q (.ref l) (upd H l (.lst ((srtS ss).map V.str)))):=by
 intro pins s σ H xs us Q I r h
 obtain⟨p,ss,rfl,hp,h64,hn,q⟩:=h
 obtain⟨u,rfl,rx⟩:=vals1 r
 cases rx
 obtain⟨z,zt⟩:=(show aBw X.prog X.w H s.heap p (.set _ _) from I.hok p _ hp)
 refine sorted_set (I.ok.hd hc) h64 hn z zt fun out l h' tk d m hS hl ho kp=> ?_
 have hlen:(srtS ss).length=ss.length:=(srtS_perm ss).length_eq
 have hs:sizeLine=16777216:=sizeLine_eq
 exact⟨.ref l,_,(inv_drew I d).laid (t':=tk) kp hl (show aBw X.prog X.w _ h' _ (.lst _) from⟨by rw[List.length_map];omega,out,m,(strsD (K:=X.K) (H:=H) hS).1,ho⟩),rfl,q _ (I.hok.fresh hl)⟩
theorem boot_sorted:bootBuiltins "sorted"=some (.builtin "sorted"):=by decide+kernel
theorem isl_str {K:PySem.W.Frag} {H:Hp}: ∀(xs:List Str),IsL K H (xs.map D.str) (xs.map V.str)
 | []=> .nil
 | x::xs=> .cons (.str x) (isl_str xs)
theorem pd_sorted (hc:X.calm=true) (hg:Gl X "sorted") (hm:X.mg "sorted"=none) (ha:PD X B e fa) (hs:aB4 e=true:=by rfl):PD X B (.Call (.Name "sorted" p) [e] [] pos) (f1 srtD fa):=by
 refine PE.of (aC4 (call_sortedS hc) hg hm boot_sorted (aA4 ha aBx (aAx hs)) (he:=aAx hs) (hpl:=by rfl)) fun σ H Q h=> ?_
 obtain⟨ρ,r1,h⟩:=h
 refine⟨ρ,r1,(Res.bind h).imp fun d q1 v H1 e1 i1=> ?_⟩
 cases i1 with
 | set hh=>
  dsimp only[srtD] at q1
  split at q1
  ·rename_i hz
   exact⟨_,_,rfl,hh,hz.1,hz.2,fun l hl=>q1 _ _ (e1.trans (aAn hl _)) (.lst (SqL.of aAi) (isl_str _))⟩
  ·exact False.elim q1
 | _=>exact False.elim q1
end
noncomputable def viaD (n:Nat) (f:List D→M D):List D→M D:=fun ds=>if ds.length=n then (match f ds with | some (.ok d)=>some (.ok d) | _=>none) else none
theorem aB3 {n:Nat} {f:List D→M D}: ∀ds r,viaD n f ds=some r→ds.length=n:=fun ds r h=>by
 unfold viaD at h
 split at h
 ·assumption
 ·cases h
theorem aD9 {n:Nat} {f:List D→M D}: ∀ds r,viaD n f ds=some r→∃d,r= .ok d∧f ds=ok d:=fun ds r h=>by
 unfold viaD at h
 split at h
 ·split at h
  ·rename_i d hd
   cases h
   exact⟨d,rfl,hd⟩
  ·cases h
 ·cases h
theorem aCp {n:Nat} {f:List D→M D} {ds:List D} {d:D} (hl:ds.length=n) (h:f ds=ok d):viaD n f ds=ok d:=by unfold viaD;rw[if_pos hl,h];rfl
noncomputable abbrev tS (xs:List Str):D:= .tup (xs.map D.str)
theorem immL_strs (xs:List Str):immL (xs.map D.str)=true:=by
 induction xs with
 | nil=>rfl
 | cons x r ih=>rw[List.map_cons,immL,ih];rfl
theorem aEd (xs:List Str):(tS xs).imm=true:=immL_strs xs
theorem in_tS (neg:Bool) (x:Str) (h:List Str):gIn neg (.str x) (tS h)=ok (.bl (if neg then !h.contains x else h.contains x)):=by
 unfold gIn
 simp only[flD,seqD,Option.bind_some,flL_strs,inV_strs]
theorem andB_ok {f g:Rho→M Bool} {ρ:Rho} {a b:Bool} (h1:f ρ=ok a) (h2:g ρ=ok b):andB f g ρ=ok (a&&b):=by
 unfold andB
 rw[h1,aDk]
 cases a
 ·rfl
 ·rw[if_pos rfl,h2];rfl
theorem orB_ok {f g:Rho→M Bool} {ρ:Rho} {a b:Bool} (h1:f ρ=ok a) (h2:g ρ=ok b):orB f g ρ=ok (a || b):=by
 unfold orB
 rw[h1,aDk]
 cases a
 ·rw[if_neg (by decide),h2];rfl
 ·rfl
theorem len_app (a b:Str):(a++b).length=a.length+b.length:=PySem.strLen_append a b
noncomputable abbrev L (s:Str):List Nat:=s.cps.toList
theorem L_app (a b:Str):L (a++b)=L a++L b:=by
 show (a.cps++b.cps).toList=_
 rw[Array.toList_append]
theorem len_L (s:Str):s.length=(L s).length:=by simp[Str.length]
theorem L_cut (z:Str) (lo hi:Option Int): ∀c∈L (aDq z lo hi),c∈L z:=fun c hc=>by
 have:c∈(z.cps.toList.drop (HT.sIx z.length 0 lo)).take (HT.sIx z.length z.length hi-HT.sIx z.length 0 lo):=by simpa[aDq] using hc
 exact List.mem_of_mem_drop (List.mem_of_mem_take this)
theorem cut_len (z:Str) (lo hi:Option Int):(aDq z lo hi).length≤z.length:=by
 rw[len_L,len_L]
 have e:L (aDq z lo hi)=(z.cps.toList.drop (HT.sIx z.length 0 lo)).take (HT.sIx z.length z.length hi-HT.sIx z.length 0 lo):=by simp[aDq]
 rw[e,List.length_take,List.length_drop]
 show _≤z.cps.toList.length
 omega
theorem L_rep (z:Str): ∀(n:Nat),∀c∈L (repS z n),c∈L z:=by
 have g: ∀(m:Nat) (a:Array Nat),∀c∈((List.replicate m z.cps).foldl (· ++ ·) a).toList,c∈a.toList∨c∈z.cps.toList:=by
  intro m
  induction m with
  | zero=>intro a c hc;exact .inl hc
  | succ m ih=>
   intro a c hc
   rw[List.replicate_succ,List.foldl_cons] at hc
   rcases ih _ c hc with h | h
   ·rw[Array.toList_append] at h
    exact List.mem_append.mp h
   ·exact .inr h
 intro n c hc
 rcases g n #[] c hc with h | h
 ·simp at h
 ·exact h
noncomputable def chs:Str:="aXq 0~zB-c!_dEf.gH1i(jK"
theorem chs_len:(L chs).length=23:=by decide+kernel
noncomputable def chr (i:Nat):Str:=⟨#[(L chs).getD i 0]⟩
noncomputable def nam (st k:Int):Str:=
 if st/23%3=1 then aDq "zz" none (some (st%3))++repS "a" ((5*k+st)%23).toNat
 else aDq "zyzy" none (some (st/69%4))++chr ((5*k+st)%23).toNat++aDq "yzzy" none (some (st/276%4))
theorem chr_at {i:Nat} (h:i<23):(L chs)[i]? =some ((L chs).getD i 0):=by
 have h':i<(L chs).length:=by rw[chs_len];exact h
 rw[List.getD_eq_getElem?_getD,List.getElem?_eq_getElem h']
 rfl
theorem mulB_int {i j:Int} (h1:0≤i) (h2:i<1000000000000000000000000000000) (h3:0≤j) (h4:j<1000000000000000000000000000000):mulB i j=true:=by
 have q: ∀z:Int,0≤z→z<1000000000000000000000000000000→z.natAbs<2^1048576:=fun z a b=>pow_line (m:=100) (by omega) (by decide)
 exact mulB_of (q i h1 h2) (q j h3 h4)
noncomputable def mix (c:Int):Int:=(c%1000000000+1)*2862933555777941757%1000000000000000000000007
theorem p9:(10:Int)^(9:Int).toNat=1000000000:=by decide
theorem p24:(10:Int)^(24:Int).toNat=1000000000000000000000000:=by decide
noncomputable def denMix:Rho→Option Out:=
  (aAh (aBy (b2 gMod (b2 aEe (b2 aC0 (b2 gMod (look 0) (b2 gPow (con (.int 10)) (con (.int 9)))) (con (.int 1))) (con (.int 2862933555777941757))) (b2 aC0 (b2 gPow (con (.int 10)) (con (.int 24))) (con (.int 7)))))
  aAp)
theorem mix_sp (c:Int):aAz (denMix [some (.sh (.int c))])=ok (.int (mix c)):=by
 have hm:mulB (c%1000000000+1) 2862933555777941757=true:=mulB_int (by omega) (by omega) (by omega) (by omega)
 simp[denMix,aAh,aBy,b2,look,con,bnd,ok,lft,gMod,aC0,aEe,gMul,gPow,p9,p24,aAz,SV.cur,hm,mix]
noncomputable def denName:Rho→Option Out:=
  (aAh (aC3 2 (b2 gMod (b2 aC0 (b2 aEe (con (.int 5)) (look 1)) (look 0)) (con (.int 23))))
  (aAh (sIf (aAy (b2 gEq (b2 gMod (b2 aD8 (look 0) (con (.int 23))) (con (.int 3))) (con (.int 1)))) (aAh (aBy (b2 aC0 (cut3 (con (.str "zz")) oNone (oPart (b2 gMod (look 0) (con (.int 3))))) (b2 aEe (con (.str "a")) (look 2))))
  aAp) aAp)
  (aAh (aBy (b2 aC0 (b2 aC0 (cut3 (con (.str "zyzy")) oNone (oPart (b2 gMod (b2 aD8 (look 0) (con (.int 69))) (con (.int 4))))) (b2 gIx (con (.str "aXq 0~zB-c!_dEf.gH1i(jK")) (look 2))) (cut3 (con (.str "yzzy")) oNone (oPart (b2 gMod (b2 aD8 (look 0) (con (.int 276))) (con (.int 4)))))))
  aAp)))
theorem name_sp {st k:Int} (h1:0≤st) (h2:st<2000) (h3:0≤k) (h4:k<1000):aAz (denName [some (.sh (.int st)),some (.sh (.int k)),none])=ok (.str (nam st k)):=by
 have hm:mulB 5 k=true:=mulB_int (by omega) (by omega) (by omega) (by omega)
 have a1:0≤(5*k+st)%23∧(5*k+st)%23<23:=by omega
 have s1:aC3 2 (b2 gMod (b2 aC0 (b2 aEe (con (.int 5)) (look 1)) (look 0)) (con (.int 23))) [some (.sh (.int st)),some (.sh (.int k)),none]=some (.nx [some (.sh (.int st)),some (.sh (.int k)),some (.sh (.int ((5*k+st)%23)))]):=by
  simp[aC3,b2,look,con,bnd,ok,lft,gMod,aC0,aEe,gMul,SV.cur,hm,setV,D.imm]
 have l1:(("zz":Str)).length=2:=by decide+kernel
 have l2:(("zyzy":Str)).length=4:=by decide+kernel
 have l3:(("yzzy":Str)).length=4:=by decide+kernel
 have l4:(("a":Str)).length=1:=by decide+kernel
 have l5:chs.length=23:=by decide+kernel
 have d2:b2 gEq (b2 gMod (b2 aD8 (look 0) (con (.int 23))) (con (.int 3))) (con (.int 1)) [some (.sh (.int st)),some (.sh (.int k)),some (.sh (.int ((5*k+st)%23)))]=ok (.bl (decide (st/23%3=1))):=by
  simp[b2,look,con,bnd,ok,gMod,aD8,gEq,eqF,SV.cur]
 have cut: ∀(z:Str) (f:Rho→M D) (i:Int) (ρ:Rho),z.length≤1000→f ρ=ok (.int i)→cut3 (con (.str z)) oNone (oPart f) ρ=ok (.str (aDq z none (some i))):=fun z f i ρ hz hf=>by
  unfold cut3 oPart oNone con
  rw[hf]
  simp only[aDk]
  show (if z.length≤1000 then ok (D.str (aDq z none (some i))) else none)=_
  rw[if_pos hz]
 have plus: ∀(f g:Rho→M D) (x y:Str) (ρ:Rho),x.length≤1000→y.length≤1000→f ρ=ok (.str x)→g ρ=ok (.str y)→b2 aC0 f g ρ=ok (.str (x++y)):=fun f g x y ρ hx hy hf hg=>by
  refine aCy hf hg ?_
  show (if x.length+y.length≤100000 then ok (D.str (x++y)) else none)=_
  rw[if_pos (by omega)]
 have md: ∀(d:Int),0<d→b2 gMod (look 0) (con (.int d)) [some (.sh (.int st)),some (.sh (.int k)),some (.sh (.int ((5*k+st)%23)))]=ok (.int (st%d)):=fun d hd=>by
  simp[b2,look,con,bnd,ok,gMod,SV.cur,hd]
 have mf: ∀(d e:Int),0<d→0<e→d<1000→b2 gMod (b2 aD8 (look 0) (con (.int d))) (con (.int e)) [some (.sh (.int st)),some (.sh (.int k)),some (.sh (.int ((5*k+st)%23)))]=ok (.int (st/d%e)):=fun d e hd he hd2=>by
  have hd3:d<1073741824:=by omega
  simp[b2,look,con,bnd,ok,gMod,aD8,SV.cur,hd,he,hd3]
 unfold denName
 rw[aAf s1]
 by_cases hb:st/23%3=1
 ·rw[decide_eq_true hb] at d2
  have t2:b2 aEe (con (.str "a")) (look 2) [some (.sh (.int st)),some (.sh (.int k)),some (.sh (.int ((5*k+st)%23)))]=ok (.str (repS "a" ((5*k+st)%23).toNat)):=by
   refine aCy (x:= .str "a") (y:= .int ((5*k+st)%23)) rfl rfl ?_
   show (if 0≤(5*k+st)%23∧(("a":Str)).length≤1000∧(5*k+st)%23≤1000 then ok (D.str (repS "a" ((5*k+st)%23).toNat)) else none)=_
   rw[if_pos ⟨a1.1,by rw[l4];decide,by omega⟩]
  have c1:=cut "zz" (b2 gMod (look 0) (con (.int 3))) _ _ (by rw[l1];decide) (md 3 (by decide))
  have p1:=plus _ _ _ _ _ (by have:=cut_len "zz" none (some (st%3));omega) (by rw[rep_len,l4];omega) c1 t2
  rw[aB2 ((sIf_t (testB_ok d2)).trans (aB2 (aCz p1)))]
  unfold nam
  rw[if_pos hb]
  rfl
 ·rw[decide_eq_false hb] at d2
  rw[aAf ((sIf_f (testB_ok d2)).trans rfl)]
  have c1:=cut "zyzy" (b2 gMod (b2 aD8 (look 0) (con (.int 69))) (con (.int 4))) _ _ (by rw[l2];decide) (mf 69 4 (by decide) (by decide) (by decide))
  have c2:=cut "yzzy" (b2 gMod (b2 aD8 (look 0) (con (.int 276))) (con (.int 4))) _ _ (by rw[l3];decide) (mf 276 4 (by decide) (by decide) (by decide))
  have i1:b2 gIx (con (.str "aXq 0~zB-c!_dEf.gH1i(jK")) (look 2) [some (.sh (.int st)),some (.sh (.int k)),some (.sh (.int ((5*k+st)%23)))]=ok (.str (chr ((5*k+st)%23).toNat)):=by
   refine aCy (x:= .str chs) (y:= .int ((5*k+st)%23)) rfl rfl ?_
   show (if chs.length≤1000 then (match atI (L chs) ((5*k+st)%23) with | some c=>ok (D.str ⟨#[c]⟩) | none=>none) else none)=_
   have ea:atI (L chs) ((5*k+st)%23)=some ((L chs).getD ((5*k+st)%23).toNat 0):=by
    have e:(5*k+st)%23=(((5*k+st)%23).toNat:Int):=by omega
    rw[e,Int.toNat_natCast]
    exact atI_nat (chr_at (by omega))
   rw[if_pos (by rw[l5];decide),ea]
   rfl
  have p1:=plus _ _ _ _ _ (by have:=cut_len "zyzy" none (some (st/69%4));omega) (show (chr ((5*k+st)%23).toNat).length≤1000 from (show 1≤1000 by decide)) c1 i1
  have p2:=plus _ _ _ _ _ (by rw[len_app];have:=cut_len "zyzy" none (some (st/69%4));have e:(chr ((5*k+st)%23).toNat).length=1:=rfl;omega) (by have:=cut_len "yzzy" none (some (st/276%4));omega) p1 c2
  rw[aB2 (aCz p2)]
  unfold nam
  rw[if_neg hb]
  rfl
noncomputable def fMix:List D→M D
 | [.int c]=>ok (.int (mix c))
 | _=>none
noncomputable def fName:List D→M D
 | [.int st,.int k]=>if 0≤st∧st<2000∧0≤k∧k<1000 then ok (.str (nam st k)) else none
 | _=>none
theorem fMix_len: ∀ds r,fMix ds=some r→ds.length=1:=by
 intro ds r h
 unfold fMix at h
 split at h
 ·rfl
 ·cases h
theorem fName_len: ∀ds r,fName ds=some r→ds.length=2:=by
 intro ds r h
 unfold fName at h
 split at h
 ·rfl
 ·cases h
theorem mix_den (N:List Str) (hN:N.length=1): ∀ds r,fMix ds=some r→∃d,r= .ok d∧aAz (denMix (aCo N ds))=ok d:=by
 intro ds r h
 unfold fMix at h
 split at h
 ·rename_i c
  cases h
  refine⟨_,rfl,?_⟩
  have e0:aCo N [.int c]=[some (.sh (.int c))]:=by unfold aCo;rw[hN];rfl
  rw[e0]
  exact mix_sp c
 ·cases h
theorem name_den (N:List Str) (hN:N.length=3): ∀ds r,fName ds=some r→∃d,r= .ok d∧aAz (denName (aCo N ds))=ok d:=by
 intro ds r h
 unfold fName at h
 split at h
 ·rename_i st k
  split at h
  ·rename_i q
   cases h
   refine⟨_,rfl,?_⟩
   have e0:aCo N [.int st,.int k]=[some (.sh (.int st)),some (.sh (.int k)),none]:=by unfold aCo;rw[hN];rfl
   rw[e0]
   exact name_sp q.1 q.2.1 q.2.2.1 q.2.2.2
  ·cases h
 ·cases h
theorem fName_ok {st k:Int} (h:0≤st∧st<2000∧0≤k∧k<1000):fName [.int st,.int k]=ok (.str (nam st k)):=if_pos h
theorem pl_tS: ∀(xs:List Str),xs.length≤1000→(tS xs).pl=true:=fun xs h=>by
 have g: ∀ys:List Str,plL (ys.map D.str)=true:=by
  intro ys
  induction ys with
  | nil=>rfl
  | cons y r ih=>rw[List.map_cons,plL,ih];rfl
 show (decide ((xs.map D.str).length≤100000)&&plL (xs.map D.str))=true
 rw[g,List.length_map,decide_eq_true (by omega)]
 rfl
theorem dep_tS (xs:List Str):(tS xs).dep≤1:=by
 have g: ∀ys:List Str,depL (ys.map D.str)=0:=by
  intro ys
  induction ys with
  | nil=>rfl
  | cons y r ih=>rw[List.map_cons,depL,ih];rfl
 show depL (xs.map D.str)+1≤1
 rw[g]
 exact Nat.le_refl _
theorem at_app {ns:List Int} {rest:Rho} (k:Nat):app fAt (aAc (look 0) (aAc (con (.int (k:Int))) aAv)) (some (.sh (.lst (ns.map D.int)))::rest)=ok (.int (atZ ns k)):=by
 rw[aB5 (aAj (d:= .lst (ns.map D.int)) rfl (aAj (d:= .int (k:Int)) rfl aA0))]
 exact fAt_ints ns k
theorem mod_ok {f g:Rho→M D} {ρ:Rho} {i j:Int} (h1:f ρ=ok (.int i)) (h2:g ρ=ok (.int j)) (hj:0<j):b2 gMod f g ρ=ok (.int (i%j)):=by
 refine aCy h1 h2 ?_
 show (if 0<j then ok (D.int (i%j)) else none)=_
 rw[if_pos hj]
theorem fdiv_ok {f g:Rho→M D} {ρ:Rho} {i j:Int} (h1:f ρ=ok (.int i)) (h2:g ρ=ok (.int j)) (hj:0<j) (hj2:j<1073741824):b2 aD8 f g ρ=ok (.int (i/j)):=by
 refine aCy h1 h2 ?_
 simp[aD8,hj,hj2]
theorem eqi_ok {f g:Rho→M D} {ρ:Rho} {i j:Int} (h1:f ρ=ok (.int i)) (h2:g ρ=ok (.int j)):b2 gEq f g ρ=ok (.bl (decide (i=j))):=aCy h1 h2 rfl
theorem ixL_ok {f g:Rho→M D} {ρ:Rho} {x:List Str} {i:Int} (h1:f ρ=ok (.lst (x.map D.str))∨f ρ=ok (tS x)) (h2:g ρ=ok (.int i)) (h0:0≤i) (hi:i<x.length): ∃y∈x,b2 gIx f g ρ=ok (.str y):=by
 have hn:i.toNat<x.length:=by omega
 have ea:=atI_nat (xs:=x.map D.str) (j:=i.toNat) (v:=D.str x[i.toNat]) (by rw[List.getElem?_map,List.getElem?_eq_getElem hn];rfl)
 have e:((i.toNat:Nat):Int)=i:=by omega
 rw[e] at ea
 refine⟨x[i.toNat],List.getElem_mem hn,?_⟩
 rcases h1 with h1 | h1
 ·refine aCy h1 h2 ?_
  show (match atI (x.map D.str) i with | some d=>ok d | none=>none)=_
  rw[ea]
 ·refine aCy h1 h2 ?_
  show (match atI (x.map D.str) i with | some d=>ok d | none=>none)=_
  rw[ea]
theorem aBp {i:Nat} {f:Rho→M D} {ρ:Rho} {d:D} (h:f ρ=ok d) (hd:d.imm=true):aC3 i f ρ=some (.nx (ρ.set i (some (.sh d)))):=by rw[sSet_ok h,aEa hd]
theorem sSet_any {i:Nat} {f:Rho→M D} {ρ:Rho} {d:D} (h:f ρ=ok d) (hf:free ρ=ρ):aC3 i f ρ=some (.nx (ρ.set i (some (.sh d)))):=by
 rw[sSet_ok h]
 unfold setV
 split
 ·rfl
 ·rw[hf]
theorem blL_map {α:Type} (f:α→Bool): ∀(l:List α),blL (l.map fun c=>D.bl (f c))=some (l.map f)
 | []=>rfl
 | x::l=>by rw[List.map_cons,blL,blL_map f l];rfl
noncomputable def git (m:Nat):Nat→Nat→Nat
 | 0,i=>i
 | t+1,i=>git m t ((i*5+1)%m)
theorem git_add (m:Nat): ∀(a b i:Nat),git m (a+b) i=git m b (git m a i)
 | 0,b,i=>by rw[Nat.zero_add];rfl
 | a+1,b,i=>by rw[Nat.add_right_comm];exact git_add m a b _
noncomputable def orb (m:Nat):Nat→Nat→List Nat
 | 0,_=> []
 | t+1,i=>i::orb m t ((i*5+1)%m)
theorem orb_mem (m:Nat): ∀(n i j:Nat),j∈orb m n i→∃a,a<n∧git m a i=j
 | 0,i,j,h=>by cases h
 | n+1,i,j,h=>by
  rcases List.mem_cons.mp h with rfl | h
  ·exact⟨0,Nat.succ_pos n,rfl⟩
  ·obtain⟨a,h1,h2⟩:=orb_mem m n _ j h
   exact⟨a+1,Nat.succ_lt_succ h1,h2⟩
noncomputable def Pw (m:Nat):Prop:=m=8∨m=16∨m=32∨m=64∨m=128
theorem orb_all {m:Nat} (h:Pw m):(∀i,i<m→i∈orb m m 0)∧git m m 0=0:=by
 have g: ∀m,(List.range m).all (fun i=>(orb m m 0).contains i)=true→∀i,i<m→i∈orb m m 0:=fun m h i hi=>by
  rw[List.all_eq_true] at h
  exact List.contains_iff_mem.mp (h i (List.mem_range.mpr hi))
 rcases h with rfl | rfl | rfl | rfl | rfl
 ·exact⟨g 8 (by decide+kernel),by decide+kernel⟩
 ·exact⟨g 16 (by decide+kernel),by decide+kernel⟩
 ·exact⟨g 32 (by decide+kernel),by decide+kernel⟩
 ·exact⟨g 64 (by decide+kernel),by decide+kernel⟩
 ·exact⟨g 128 (by decide+kernel),by decide+kernel⟩
theorem reach {m i j:Nat} (h:Pw m) (hi:i<m) (hj:j<m): ∃t,t<m∧git m t i=j:=by
 obtain⟨h1,h2⟩:=orb_all h
 obtain⟨a,ha,ea⟩:=orb_mem m m 0 i (h1 i hi)
 obtain⟨b,hb,eb⟩:=orb_mem m m 0 j (h1 j hj)
 by_cases q:a≤b
 ·refine⟨b-a,by omega,?_⟩
  rw[←ea,←git_add,Nat.add_sub_cancel' q]
  exact eb
 ·refine⟨m-a+b,by omega,?_⟩
  rw[←ea,←git_add,←Nat.add_assoc,Nat.add_sub_cancel' (by omega),git_add,h2]
  exact eb
theorem above {n:Nat} (h:n<128):Pw (SetTable.sizeAbove n)∧n<SetTable.sizeAbove n:=by
 have g:(List.range 128).all (fun n=>decide ((SetTable.sizeAbove n=8∨SetTable.sizeAbove n=16∨SetTable.sizeAbove n=32∨SetTable.sizeAbove n=64∨SetTable.sizeAbove n=128)∧n<SetTable.sizeAbove n))=true:=by decide+kernel
 rw[List.all_eq_true] at g
 have:=g n (List.mem_range.mpr h)
 rw[decide_eq_true_eq] at this
 exact this
theorem Pw.pos {m:Nat} (h:Pw m):0<m∧m≤128∧8≤m:=by rcases h with rfl | rfl | rfl | rfl | rfl<;>decide
theorem free_none {mask:Nat} {owner:Array (Option Nat)} {fuel i p:Nat} (h:SetTable.layClean.free mask owner (fuel+1) i p=none):
  (owner.getD i (some 0)).isNone=false∧SetTable.layClean.free mask owner fuel ((i*5+1+p/32)%(mask+1)) (p/32)=none:=by
 unfold SetTable.layClean.free at h
 split at h
 ·cases h
 ·rename_i q
  refine⟨?_,h⟩
  rw[List.find?_eq_none] at q
  have:=q 0 (by
   rw[List.mem_range]
   unfold SetTable.runEnd
   split<;>omega)
  rw[Nat.add_zero] at this
  exact Bool.eq_false_iff.mpr this
theorem free_some {mask:Nat} {owner:Array (Option Nat)}: ∀{fuel i p j:Nat},SetTable.layClean.free mask owner fuel i p=some j→(owner.getD j (some 0)).isNone=true
 | 0,_,_,_,h=>by unfold SetTable.layClean.free at h;cases h
 | fuel+1,i,p,j,h=>by
  unfold SetTable.layClean.free at h
  split at h
  ·rename_i k q
   cases h
   have:=List.find?_some q
   exact this
  ·exact free_some h
theorem free_on {mask:Nat} {owner:Array (Option Nat)}: ∀(a b i p:Nat),i<mask+1→SetTable.layClean.free mask owner (a+b) i p=none→∃i',i'<mask+1∧SetTable.layClean.free mask owner b i' (p/32^a)=none
 | 0,b,i,p,hi,h=>⟨i,hi,by rw[Nat.zero_add] at h;simpa using h⟩
 | a+1,b,i,p,hi,h=>by
  rw[Nat.add_right_comm] at h
  obtain⟨i',h1,h2⟩:=free_on a b _ _ (Nat.mod_lt _ (Nat.succ_pos mask)) (free_none h).2
  refine⟨i',h1,?_⟩
  rw[Nat.div_div_eq_div_mul,←Nat.pow_succ'] at h2
  exact h2
theorem free_zero {mask:Nat} {owner:Array (Option Nat)}: ∀(b i:Nat),SetTable.layClean.free mask owner b i 0=none→∀t,t<b→(owner.getD (git (mask+1) t i) (some 0)).isNone=false
 | 0,_,_,t,ht=>absurd ht (Nat.not_lt_zero t)
 | b+1,i,h,t,ht=>by
  obtain⟨h1,h2⟩:=free_none h
  cases t with
  | zero=>exact h1
  | succ t=>
   rw[Nat.zero_div,Nat.add_zero] at h2
   exact free_zero b _ h2 t (by omega)
theorem free_there {mask:Nat} {owner:Array (Option Nat)} {i p j:Nat} (hm:Pw (mask+1)) (hi:i<mask+1) (hp:p<2^64) (hj:j<mask+1) (hn:(owner.getD j (some 0)).isNone=true):
  ∃k,SetTable.layClean.free mask owner (SetTable.turns mask) i p=some k∧(owner.getD k (some 0)).isNone=true:=by
 cases h:SetTable.layClean.free mask owner (SetTable.turns mask) i p with
 | some k=>exact⟨k,rfl,free_some h⟩
 | none=>
  have e:SetTable.turns mask=13+(mask+2):=by unfold SetTable.turns;omega
  rw[e] at h
  obtain⟨i',h1,h2⟩:=free_on 13 (mask+2) i p hi h
  have z:p/32^13=0:=Nat.div_eq_of_lt (Nat.lt_of_lt_of_le hp (by decide))
  rw[z] at h2
  obtain⟨t,ht,et⟩:=reach hm h1 hj
  have:=free_zero _ _ h2 t (by omega)
  rw[et,hn] at this
  cases this
theorem set_perm {v:Nat}: ∀(l:List (Option Nat)) (j:Nat),l[j]? =some none→((l.set j (some v)).filterMap id).Perm (v::l.filterMap id)
 | [],j,h=>by simp at h
 | x::l,0,h=>by
  simp at h
  subst h
  simp
 | x::l,j+1,h=>by
  have ih:=set_perm (v:=v) l j (by simpa using h)
  rw[List.set_cons_succ]
  cases x with
  | none=>simpa using ih
  | some y=>
   have e1:(some y::l.set j (some v)).filterMap id=y::(l.set j (some v)).filterMap id:=rfl
   have e2:(some y::l).filterMap id=y::l.filterMap id:=rfl
   rw[e1,e2]
   exact (ih.cons y).trans (List.Perm.swap v y _)
theorem filterMap_len {l:List (Option Nat)} (h:(l.filterMap id).length<l.length): ∃j:Nat,l[j]? =some none:=by
 induction l with
 | nil=>simp at h
 | cons x l ih=>
  cases x with
  | none=>exact⟨0,rfl⟩
  | some y=>
   obtain⟨j,hj⟩:=ih (by simpa using h)
   exact⟨j+1,by simpa using hj⟩
theorem bits_lt (h:Int):SetTable.bits h<2^64:=by
 unfold SetTable.bits
 omega
theorem lay_fold {mask:Nat} (hm:Pw (mask+1)): ∀(hs:List Int) (owner:Array (Option Nat)) (k:Nat),owner.size=mask+1→(owner.toList.filterMap id).Perm (List.range k)→k+hs.length≤mask→
  ∃owner',(hs.foldl (init:=some (owner,k)) fun acc h=>do
   let (owner,k)←acc
   let j←SetTable.layClean.free mask owner (SetTable.turns mask) (SetTable.bits h%(mask+1)) (SetTable.bits h)
   pure (owner.setIfInBounds j (some k),k+1))=some (owner',k+hs.length)∧owner'.size=mask+1∧(owner'.toList.filterMap id).Perm (List.range (k+hs.length))
 | [],owner,k,h1,h2,_=>⟨owner,rfl,h1,h2⟩
 | h::hs,owner,k,h1,h2,h3=>by
  rw[List.length_cons] at h3
  have hl:(owner.toList.filterMap id).length<owner.toList.length:=by
   rw[h2.length_eq,List.length_range,Array.length_toList,h1]
   omega
  obtain⟨j,hj⟩:=filterMap_len hl
  have hjl:j<owner.toList.length:=(List.getElem?_eq_some_iff.mp hj).1
  rw[Array.length_toList,h1] at hjl
  have hjn:(owner.getD j (some 0)).isNone=true:=by
   have:owner[j]? =some none:=by rw[←Array.getElem?_toList];exact hj
   simp[Array.getD_eq_getD_getElem?,this]
  obtain⟨q,e1,e2⟩:=free_there (i:=SetTable.bits h%(mask+1)) hm (Nat.mod_lt _ (Nat.succ_pos mask)) (bits_lt h) hjl hjn
  have hq:owner.toList[q]? =some none:=by
   rw[Array.getElem?_toList]
   cases hq:owner[q]? with
   | none=>simp[Array.getD_eq_getD_getElem?,hq] at e2
   | some z=>
    cases z with
    | none=>rfl
    | some z=>simp[Array.getD_eq_getD_getElem?,hq] at e2
  have hp:((owner.setIfInBounds q (some k)).toList.filterMap id).Perm (List.range (k+1)):=by
   rw[Array.toList_setIfInBounds]
   refine (set_perm _ q hq).trans ?_
   rw[List.range_succ]
   exact (h2.cons k).trans (List.perm_append_comm (l₁:=[k]))
  obtain⟨o',f1,f2,f3⟩:=lay_fold hm hs (owner.setIfInBounds q (some k)) (k+1) (by simpa using h1) hp (by omega)
  refine⟨o',?_,f2,by rw[List.length_cons];rw[show k+(hs.length+1)=k+1+hs.length by omega];exact f3⟩
  rw[List.foldl_cons]
  have e3:(do
   let (owner,k)←some (owner,k)
   let j←SetTable.layClean.free mask owner (SetTable.turns mask) (SetTable.bits h%(mask+1)) (SetTable.bits h)
   pure (owner.setIfInBounds j (some k),k+1))=some (owner.setIfInBounds q (some k),k+1):=by
   show (SetTable.layClean.free mask owner (SetTable.turns mask) (SetTable.bits h%(mask+1)) (SetTable.bits h)).bind _=_
   rw[e1]
   rfl
  rw[e3,f1,List.length_cons]
  congr 2
  omega
theorem range_getD {l:List (Option Nat)}:(List.range l.length).filterMap (fun j=>l.getD j none)=l.filterMap id:=by
 have e:l=(List.range l.length).map (fun j=>l.getD j none):=by
  apply List.ext_getElem
  ·simp
  ·intro i h1 h2
   simp[List.getD_eq_getElem?_getD,h1]
 conv=>rhs;rw[e]
 rw[List.filterMap_map]
 rfl
theorem laid_ok {mask finger moves:Nat} {led plain:Bool} {hs:Array Int} (hm:Pw (mask+1)) (hn:hs.size≤mask):
  ∃t order,SetTable.laid mask finger moves led plain hs=some (t,order)∧order.toList.Perm (List.range hs.size)∧t.fits hs.size=true∧t.led=led∧t.plain=plain∧t.mask=mask∧t.fill=hs.size:=by
 obtain⟨owner,e1,e2,e3⟩:=lay_fold hm hs.toList (Array.replicate (mask+1) none) 0 (by simp) (by
  have:((Array.replicate (mask+1) (none:Option Nat)).toList.filterMap id)=[]:=by
   rw[Array.toList_replicate]
   exact List.filterMap_eq_nil_iff.mpr (fun a ha=>by rw[List.eq_of_mem_replicate ha];rfl)
  rw[this]
  exact List.Perm.refl _) (by simpa using hn)
 rw[Nat.zero_add,Array.length_toList] at e1 e3
 have hc:SetTable.layClean mask hs=some owner:=by
  unfold SetTable.layClean
  rw[←Array.foldl_toList,e1]
  rfl
 have e4:(List.range (mask+1)).filterMap (fun j=>owner.getD j none)=owner.toList.filterMap id:=by
  rw[←e2,←Array.length_toList,←range_getD]
  congr 1
  funext j
  simp[Array.getD_eq_getD_getElem?,List.getD_eq_getElem?_getD]
 have el:((List.range (mask+1)).filterMap fun j=>(owner.getD j none).map (j,·)).map (·.2)=owner.toList.filterMap id:=by
  rw[←e4,List.map_filterMap]
  congr 1
  funext j
  cases owner.getD j none<;>rfl
 have ln:((List.range (mask+1)).filterMap fun j=>(owner.getD j none).map (j,·)).length=hs.size:=by
  rw[←List.length_map (f:=(·.2)),el,e3.length_eq,List.length_range]
 refine⟨_,_,(show SetTable.laid mask finger moves led plain hs=_ from by unfold SetTable.laid;rw[hc];rfl),?_,?_,rfl,rfl,rfl,?_⟩
 ·rw[List.toList_toArray,el]
  exact e3
 ·unfold SetTable.fits SetTable.fill
  rw[List.size_toArray,List.length_map,ln]
  simpa using hn
 ·unfold SetTable.fill
  rw[List.size_toArray,List.length_map,ln]
  rfl
theorem range_get {α:Type} (l:List α):(List.range l.length).filterMap (fun i=>l[i]?)=l:=by
 have e:(List.range l.length).map (fun i=>l[i]?)=l.map some:=by
  apply List.ext_getElem
  ·simp
  ·intro i h1 h2
   simp at h1
   simp[h1]
 have:(List.range l.length).filterMap (fun i=>l[i]?)=((List.range l.length).map (fun i=>l[i]?)).filterMap id:=by rw[List.filterMap_map];rfl
 rw[this,e,List.filterMap_map]
 simp
section
variable {prog:Program} {w:World} {A:Around} {E:Value→Shared→Prop} {s:Shared}
noncomputable def Rm (h:Heap) (a:Addr):Prop:= ∀o es ep t,h.get? a=some o→o.data= .set es ep t→t.fill=0→Pw (t.mask+1)
theorem order_perm {es:Array (Int×Value)} {order:Array Nat} (hp:order.toList.Perm (List.range es.size)):(order.filterMap (es[·]?)).toList.Perm es.toList:=by
 rw[Array.toList_filterMap]
 have:=hp.filterMap (fun (i:Nat)=>es.toList[i]?)
 rw[←Array.length_toList,range_get] at this
 have e:(fun (i:Nat)=>es.toList[i]?)=fun (i:Nat)=>es[i]? :=by funext i;rw[Array.getElem?_toList]
 rw[e] at this
 exact this
theorem relay_ok {a:Addr} {x:List Str} {wanted:Nat} {Q:Unit→Shared→Prop} (zx:s.heap.SetOf (PySem.strKind prog w) a (fun k=>x.contains k) x.length) (zt:Txts w s.heap a) (hw:wanted<128) (hx:x.length≤wanted)
  (h: ∀h',Heap.SameBut a s.heap h'→h'.SetOf (PySem.strKind prog w) a (fun k=>x.contains k) x.length→Txts w h' a→(∃o es ep t,h'.get? a=some o∧o.data= .set es ep t∧t.mask+1=SetTable.sizeAbove wanted)→Q () {s with heap:=h'}):
  wpAny (model prog w) A (setRelay a wanted) Q E s:=by
 obtain⟨o,es,ep,t,ho,hex,hd,hel,hmem,hb,hf,hn⟩:=id zx
 obtain⟨o',ho',es',ep',t',hd',hled,hpl⟩:=id zt
 rw[ho] at ho'
 cases ho'
 rw[hd] at hd'
 cases hd'
 obtain⟨pw,lt⟩:=above hw
 have e1:SetTable.sizeAbove wanted-1+1=SetTable.sizeAbove wanted:=by omega
 obtain⟨t2,order,hl,hp,hft,l1,l2,l3,l4⟩:=laid_ok (mask:=SetTable.sizeAbove wanted-1) (finger:=t.finger) (moves:=t.movedTo (SetTable.sizeAbove wanted-1)) (led:=t.led) (plain:=t.plain) (hs:=es.map (·.1)) (by rw[e1];exact pw) (by rw[Array.size_map];omega)
 rw[Array.size_map] at hp hft
 have hpe:=order_perm hp
 have hsz:(order.filterMap (es[·]?)).size=es.size:=by rw[←Array.length_toList,hpe.length_eq,Array.length_toList]
 unfold setRelay
 refine wpAny_bind (wpAny_setState_of ho hd hf ?_)
 dsimp only
 have hs:sizeLine=16777216:=sizeLine_eq
 have hle:=pw.pos
 rw[if_neg (by omega)]
 have er:t.relaid (es.map (·.1)) wanted=some (t2,order):=hl
 rw[er]
 refine wpAny_bind ?_
 show wpAny _ _ (if (order.filterMap (es[·]?)).size !=es.size then _ else _) _ _ _
 rw[if_neg (by rw[hsz];simp)]
 refine wpAny_pure ?_
 dsimp only
 refine wpAny_storeSet_of ho hd ?_ (by rw[hsz];exact fits_of_scanBound hb)
 obtain⟨o2,z2⟩:=SetOf_store (knd:=PySem.strKind prog w) ho hex hd (es':=order.filterMap (es[·]?)) (t':=t2) (S':=fun k=>x.contains k) (hel.perm hpe) (fun k=>(hmem k).trans ⟨fun⟨e,he,q⟩=>⟨e,hpe.mem_iff.mpr he,q⟩,fun⟨e,he,q⟩=>⟨e,hpe.mem_iff.mp he,q⟩⟩) (by rw[hsz];exact hb) (by rw[hsz];exact hft)
 rw[hsz,hn] at z2
 exact h _ (Heap.SameBut.update _ a _) z2 ⟨_,o2,_,_,_,rfl,by rw[l1];exact hled,by rw[hsz,l2];exact hpl⟩ ⟨_,_,_,_,o2,rfl,by rw[l3,e1]⟩
theorem quiet_ok {sets:List Addr} {Q:Bool→Shared→Prop} (hz: ∀a∈sets,∃x:List Str,s.heap.SetOf (PySem.strKind prog w) a (fun k=>x.contains k) x.length) (q:Q true s):wpAny (model prog w) A (setsQuiet sets) Q E s:=by
 unfold setsQuiet
 refine wpAny_bind (wpAny_forIn_list _ (fun rest st s'=>s'=s∧st=(none,())∧∀a∈rest,∃x:List Str,s.heap.SetOf (PySem.strKind prog w) a (fun k=>x.contains k) x.length) _ (fun a rest st s' ⟨e1,e2,he⟩=> ?_) (fun st s' ⟨e1,e2,_⟩=> ?_) _ _ ⟨rfl,rfl,hz⟩)
 ·subst e1 e2
  obtain⟨x,o,es,ep,t,ho,hex,hd,hel,hmem,hb,hf,hn⟩:=he a List.mem_cons_self
  refine wpAny_bind (wpAny_setEntries_of ho hd hf ?_)
  refine wpAny_bind (wpAny_forIn_array' _ (fun rest st s2=>s2=s'∧st=(none,())∧∀e∈rest,e∈es.toList) _ (fun e rest st s2 ⟨e1,e2,he2⟩=> ?_) (fun st s2 ⟨e1,e2,_⟩=> ?_) _ _ ⟨rfl,rfl,fun _ q=>q⟩)
  ·subst e1 e2
   obtain⟨⟨z,hz,hh⟩,sc⟩:=hel e (he2 e List.mem_cons_self)
   obtain⟨u,ez⟩:=Value.isStrOf_shape hz
   obtain⟨i,v⟩:=e
   dsimp only at ez
   subst ez
   exact wpAny_pure ⟨rfl,rfl,fun e q=>he2 e (List.mem_cons_of_mem _ q)⟩
  ·subst e1 e2
   exact wpAny_pure ⟨rfl,rfl,fun a q=>he a (List.mem_cons_of_mem _ q)⟩
 ·subst e1 e2
  exact wpAny_pure q
theorem unseen_ok {o:Addr} {ob:Obj} {es:Array (Int×Value)} {ep:Nat} {t:SetTable} {y:List Str} {others:List Addr} {f:Addr} {x:List Str} {Q:Array (Int×Value)→Shared→Prop}
  (zy:s.heap.SetOf (PySem.strKind prog w) o (fun k=>y.contains k) y.length) (zt:Txts w s.heap o) (ho:s.heap.get? o=some ob) (hd:ob.data= .set es ep t)
  (hz: ∀a∈others,∃x:List Str,s.heap.SetOf (PySem.strKind prog w) a (fun k=>x.contains k) x.length) (zf:s.heap.SetOf (PySem.strKind prog w) f (fun k=>x.contains k) x.length) (zft:Txts w s.heap f)
  (h: ∀es' h',es'.toList.Perm es.toList→Heap.SameBut f s.heap h'→h'.SetOf (PySem.strKind prog w) f (fun k=>x.contains k) x.length→Txts w h' f→Q es' {s with heap:=h'}):
  wpAny (model prog w) A (setWalkUnseen o others (some f)) Q E s:=by
 obtain⟨ob',es',ep',t',ho',hex,hd',hel,hmem,hb,hf,hn⟩:=id zy
 rw[ho] at ho'
 cases ho'
 rw[hd] at hd'
 cases hd'
 obtain⟨ob',ho',es',ep',t',hd',hled,hpl⟩:=id zt
 rw[ho] at ho'
 cases ho'
 rw[hd] at hd'
 cases hd'
 have same:Q es s:=by
  have:=h es s.heap (List.Perm.refl _) (Heap.SameBut.refl f s.heap) zf zft
  exact this
 unfold setWalkUnseen
 refine wpAny_bind (wpAny_setState_of ho hd hf ?_)
 dsimp only
 refine wpAny_bind (show wpAny _ _ setsByText _ _ _ from wpAny_bind (wpAny_askSetting (wpAny_pure ?_)))
 show wpAny _ _ (if (w.params.followText "set-order" || t.led&&t.plain || decide (es.size≤1))=true then _ else _) _ _ _
 have walk:(w.params.followText "set-order"=true∨es.size≤1)→wpAny (model prog w) A (setWalk o) Q E s:=fun hc=>by
  unfold setWalk
  refine wpAny_bind (wpAny_setState_of ho hd hf ?_)
  dsimp only
  refine wpAny_bind (show wpAny _ _ setsByText _ _ _ from wpAny_bind (wpAny_askSetting (wpAny_pure ?_)))
  show wpAny _ _ (if w.params.followText "set-order"=true then _ else _) _ _ _
  cases hw:w.params.followText "set-order" with
  | true=>
   rw[if_pos rfl]
   refine wpAny_bind (wpAny_askSetting (wpAny_pure ?_))
   have:=h (pickOrder (w.params.setOrder o ep) es) s.heap (pickO_perm _ es) (Heap.SameBut.refl f s.heap) zf zft
   exact this
  | false=>
   rw[hw] at hc
   have hs1:es.size≤1:=hc.resolve_left (by decide)
   rw[if_neg (by decide)]
   have hdec:(decide (es.size>1))=false:=decide_eq_false (by omega)
   show wpAny _ _ (if (!t.plain&&decide (es.size>1))=true then _ else _) _ _ _
   rw[hdec,Bool.and_false,if_neg (by decide)]
   refine wpAny_bind (show wpAny _ _ (if (!t.led&&decide (es.size>1))=true then _ else pure ()) _ _ _ from ?_)
   rw[hdec,Bool.and_false,if_neg (by decide)]
   exact wpAny_pure (wpAny_pure same)
 cases hc:(w.params.followText "set-order" || t.led&&t.plain || decide (es.size≤1)) with
 | true=>
  rw[if_pos rfl]
  refine walk ?_
  rw[Bool.or_eq_true,Bool.or_eq_true] at hc
  rcases hc with (hc | hc) | hc
  ·exact .inl hc
  ·rw[Bool.and_eq_true] at hc
   rcases hpl with q | q
   ·exact .inr (by omega)
   ·rw[q] at hc;exact absurd hc.2 (by decide)
  ·exact .inr (of_decide_eq_true hc)
 | false=>
  rw[if_neg (by decide)]
  rw[Bool.or_eq_false_iff,Bool.or_eq_false_iff] at hc
  obtain⟨⟨c1,c2⟩,c3⟩:=hc
  have c3':1<es.size:=by have:=of_decide_eq_false c3;omega
  have ll:t.led=true:=hled.resolve_left (by rw[c1];decide)
  have lp:t.plain=false:=by rw[ll] at c2;simpa using c2
  refine wpAny_bind (quiet_ok (fun a ha=> ?_) ?_)
  ·rcases List.mem_cons.mp ha with rfl | ha
   ·exact⟨y,zy⟩
   ·exact hz a ha
  rw[if_neg (by decide)]
  refine wpAny_bind (wpAny_rule ?_)
  obtain⟨of,ef,epf,tf,hof,hexf,hdf,helf,hmemf,hbf,hff,hnf⟩:=id zf
  obtain⟨of',hof',ef',epf',tf',hdf',hledf,hplf⟩:=id zft
  rw[hof] at hof'
  cases hof'
  rw[hdf] at hdf'
  cases hdf'
  refine wpAny_bind (wpAny_setState_of hof hdf hff ?_)
  dsimp only
  split
  ·refine wpAny_bind (wpAny_storeSet_of hof hdf (wpAny_pure ?_) (fits_of_scanBound hbf))
   obtain⟨o2,z2⟩:=SetOf_store (knd:=PySem.strKind prog w) hof hexf hdf (es':=ef) (t':={tf with led:=tf.led&&t.led,plain:=tf.plain&&t.plain}) (S':=fun k=>x.contains k) helf hmemf hbf hff
   rw[hnf] at z2
   refine h es _ (List.Perm.refl _) (Heap.SameBut.update _ f _) z2 ⟨_,o2,_,_,_,rfl,?_,.inr (by show (tf.plain&&t.plain)=false;rw[lp,Bool.and_false])⟩
   show _∨(tf.led&&t.led)=true
   rw[ll,Bool.and_true]
   exact hledf
  ·exact wpAny_pure same
end
noncomputable def uniS (x y:List Str):List Str:=y.foldl addS x
theorem aDz {x:List Str} (h:x.Nodup) (y:List Str):(uniS x y).Nodup:=metS_nodup_from y x h
theorem uni_has: ∀(y x:List Str) (k:Str),(uniS x y).contains k=(x.contains k || y.contains k)
 | [],x,k=>by simp[uniS]
 | v::y,x,k=>by
  have:uniS x (v::y)=uniS (addS x v) y:=rfl
  rw[this,uni_has y,addS_has,List.contains_cons,Bool.or_assoc]
  congr 2
theorem uni_mem {x y:List Str} {k:Str}:k∈uniS x y↔k∈x∨k∈y:=by
 have:=uni_has y x k
 rw[←List.contains_iff_mem,this,Bool.or_eq_true,List.contains_iff_mem,List.contains_iff_mem]
theorem uni_perm {x y y':List Str} (hx:x.Nodup) (hp: ∀k,k∈y'↔k∈y):(uniS x y').length=(uniS x y).length:=by
 have p:(uniS x y').Perm (uniS x y):=(List.perm_ext_iff_of_nodup (aDz hx y') (aDz hx y)).mpr fun k=>by rw[uni_mem,uni_mem,hp k]
 exact p.length_eq
theorem uni_le (x y:List Str):(uniS x y).length≤x.length+y.length:=by
 induction y generalizing x with
 | nil=>simp[uniS]
 | cons v y ih=>
  have e:uniS x (v::y)=uniS (addS x v) y:=rfl
  have:=ih (addS x v)
  rw[e,List.length_cons]
  have h2:=addS_len x v
  split at h2<;>omega
section
variable {prog:Program} {w:World} {A:Around} {E:Value→Shared→Prop} {s:Shared}
noncomputable def txtE:Int×Value→Str
 |(_,.str k _)=>k
 | _=>Str.empty
theorem txtE_of {e:Int×Value} {l:List (Int×Value)} (hel:ElemsOf (PySem.strKind prog w) l) (he:e∈l): ∃t,e=((PySem.strKind prog w).hash (txtE e),.str (txtE e) t):=by
 obtain⟨⟨z,hz,hh⟩,sc⟩:=hel e he
 obtain⟨u,ez⟩:=Value.isStrOf_shape hz
 obtain⟨i,v⟩:=e
 dsimp only at ez hh
 subst ez hh
 exact⟨u,rfl⟩
theorem txt_mem {l:List (Int×Value)} {y:List Str} (hel:ElemsOf (PySem.strKind prog w) l) (hm: ∀k,y.contains k=true↔∃e∈l,(PySem.strKind prog w).is k e.2=true) (k:Str):k∈l.map txtE↔k∈y:=by
 rw[←List.contains_iff_mem (as:=y),hm k,List.mem_map]
 constructor
 ·rintro⟨e,he,rfl⟩
  obtain⟨t,et⟩:=txtE_of hel he
  refine⟨e,he,?_⟩
  rw[et]
  simp[PySem.strKind,Value.isStrOf,txtE]
 ·rintro⟨e,he,q⟩
  refine⟨e,he,?_⟩
  obtain⟨t,et⟩:=txtE_of hel he
  rw[et] at q
  obtain⟨u,eu⟩:=Value.isStrOf_shape (x:=k) (show Value.isStrOf k (Value.str (txtE e) t)=true from q)
  injection eu
theorem merge_ok {r o:Addr} {x y:List Str} {each:Sem Unit} {Q:Unit→Shared→Prop} (hne:r≠o) (hx:x.Nodup) (hy:y.Nodup) (hl:x.length+y.length≤63)
  (zx:s.heap.SetOf (PySem.strKind prog w) r (fun k=>x.contains k) x.length) (zt:Txts w s.heap r) (rm:Rm s.heap r)
  (zy:s.heap.SetOf (PySem.strKind prog w) o (fun k=>y.contains k) y.length) (zyt:Txts w s.heap o)
  (hE: ∀(s':Shared) (Q':Unit→Shared→Prop),(∀ob,s.heap.get? o=some ob→s'.heap.get? o=some ob)→Q' () s'→wpAny (model prog w) A each Q' E s')
  (h: ∀h',Heap.SameBut r s.heap h'→h'.SetOf (PySem.strKind prog w) r (fun k=>(uniS x y).contains k) (uniS x y).length→Txts w h' r→Rm h' r→Q () {s with heap:=h'}):
  wpAny (model prog w) A (setMerge r o each) Q E s:=by
 obtain⟨oo,eo,epo,to,hoo,hexo,hdo,helo,hmemo,hbo,hfo,hno⟩:=id zy
 obtain⟨oo',hoo',eo',epo',to',hdo',hledo,hplo⟩:=id zyt
 rw[hoo] at hoo'
 cases hoo'
 rw[hdo] at hdo'
 cases hdo'
 unfold setMerge
 have hbeq:(r==o)=false:=by simpa using hne
 rw[hbeq,if_neg (by decide)]
 refine wpAny_bind (wpAny_setState_of hoo hdo hfo ?_)
 dsimp only
 by_cases hz:eo.size=0
 ·have:eo.isEmpty=true:=by simpa using hz
  rw[if_pos this]
  have ey:y=[]:=List.eq_nil_of_length_eq_zero (by omega)
  subst ey
  exact wpAny_pure (h s.heap (Heap.SameBut.refl r s.heap) zx zt rm)
 have hemp:eo.isEmpty=false:=by
  cases q:eo.isEmpty with
  | false=>rfl
  | true=>exact absurd (by simpa using q) hz
 rw[hemp,if_neg (by decide)]
 have go: ∀h1,Heap.SameBut r s.heap h1→h1.SetOf (PySem.strKind prog w) r (fun k=>x.contains k) x.length→Txts w h1 r→(∀ob es ep t,h1.get? r=some ob→ob.data= .set es ep t→t.fill=0→Pw (t.mask+1)∧y.length≤t.mask)→
   wpAny (model prog w) A (do
    let (_,_,ts)←setState r
    match ts.road to with
    | .slotForSlot=>storeSet r eo {to with finger:=ts.finger,led:=ts.led&&to.led,moves:=ts.moves,plain:=ts.plain&&to.plain}
    | .clean=>
     let (es,t)←(do
      let some (t,order):=SetTable.laid ts.mask ts.finger ts.moves (led:=ts.led&&to.led) (plain:=ts.plain&&to.plain) (eo.map (·.1)) | unsupported "internal:set-table-without-room"
      let es':=order.filterMap (eo[·]?)
      if es'.size !=eo.size then unsupported "internal:set-table-lost-an-element"
      pure (es',t))
     storeSet r es t
    | .oneByOne=>
     for (h,x) in←setWalkUnseen o [r] (some r) do
      let _←holding [x] (setAddHashed r x h)
      each
      if (←setState o).2.1 !=epo then unsupported "set.changed-during-merge") Q E {s with heap:=h1}:=by
  intro h1 sb z1 t1 hm
  obtain⟨o1,es1,ep1,tt1,ho1,hex1,hd1,hel1,hmem1,hb1,hf1,hn1⟩:=id z1
  obtain⟨o1',ho1',es1',ep1',tt1',hd1',hled1,hpl1⟩:=id t1
  rw[ho1] at ho1'
  cases ho1'
  rw[hd1] at hd1'
  cases hd1'
  have hoo1:h1.get? o=some oo:=by rw[sb.2 o (Ne.symm hne)];exact hoo
  refine wpAny_bind (wpAny_setState_of ho1 hd1 hf1 ?_)
  dsimp only
  by_cases hfill:tt1.fill=0
  ·--the target is empty
   obtain⟨pw,ym⟩:=hm _ _ _ _ ho1 hd1 hfill
   have hps:tt1.place.size=es1.size∧tt1.fill≤tt1.mask:=by simpa[SetTable.fits] using hf1
   have hes1:es1.size=0:=by have:tt1.fill=tt1.place.size+tt1.dummies.size:=rfl;omega
   have ex:x=[]:=List.eq_nil_of_length_eq_zero (by omega)
   subst ex
   have fin: ∀(es2:Array (Int×Value)) (t2:SetTable),es2.toList.Perm eo.toList→t2.fits eo.size=true→t2.led=(tt1.led&&to.led)→t2.plain=(tt1.plain&&to.plain)→wpAny (model prog w) A (storeSet r es2 t2) Q E {s with heap:=h1}:=by
    intro es2 t2 hp hft l1 l2
    have hsz:es2.size=eo.size:=by rw[←Array.length_toList,hp.length_eq,Array.length_toList]
    refine wpAny_storeSet_of ho1 hd1 ?_ (by rw[hsz];exact fits_of_scanBound hbo)
    obtain⟨o2,z2⟩:=SetOf_store (knd:=PySem.strKind prog w) ho1 hex1 hd1 (es':=es2) (t':=t2) (S':=fun k=>y.contains k) (helo.perm hp) (fun k=>(hmemo k).trans ⟨fun⟨e,he,q⟩=>⟨e,hp.mem_iff.mpr he,q⟩,fun⟨e,he,q⟩=>⟨e,hp.mem_iff.mp he,q⟩⟩) (by rw[hsz];exact hbo) (by rw[hsz];exact hft)
    have ylen:(uniS [] y).length=y.length:=((List.perm_ext_iff_of_nodup (aDz List.nodup_nil y) hy).mpr fun k=>by rw[uni_mem];simp).length_eq
    have z3:(h1.update r (Obj.putSet es2 t2)).SetOf (PySem.strKind prog w) r (fun k=>(uniS [] y).contains k) (uniS [] y).length:=aCk (σ:=[]) z2 (fun k=>by rw[uni_has];simp) (by rw[ylen,hsz,hno])
    refine h _ (sb.trans (Heap.SameBut.update h1 r _)) z3 ⟨_,o2,_,_,_,rfl,?_,.inr ?_⟩ ?_
    ·rw[l1]
     rcases hled1 with q | q
     ·exact .inl q
     ·rcases hledo with q' | q'
      ·exact .inl q'
      ·exact .inr (by rw[q,q'];rfl)
    ·rw[l2,hplo.resolve_left (by omega),Bool.and_false]
    ·intro ob es ep t e1 e2 e3
     rw[o2] at e1
     cases e1
     cases e2
     have:t2.place.size=eo.size∧t2.fill≤t2.mask:=by simpa[SetTable.fits] using hft
     have:t2.fill=t2.place.size+t2.dummies.size:=rfl
     omega
   have hroad:tt1.road to=if tt1.mask==to.mask&&to.dummies.isEmpty then .slotForSlot else .clean:=by
    unfold SetTable.road
    rw[hfill]
    rfl
   rw[hroad]
   cases hc:(tt1.mask==to.mask&&to.dummies.isEmpty) with
   | true=>
    rw[if_pos rfl]
    exact fin eo _ (List.Perm.refl _) hfo rfl rfl
   | false=>
    rw[if_neg (by decide)]
    dsimp only
    obtain⟨t2,order,hld,hp,hft,l1,l2,l3,l4⟩:=laid_ok (mask:=tt1.mask) (finger:=tt1.finger) (moves:=tt1.moves) (led:=tt1.led&&to.led) (plain:=tt1.plain&&to.plain) (hs:=eo.map (·.1)) pw (by rw[Array.size_map];omega)
    rw[Array.size_map] at hp hft
    have hpe:=order_perm hp
    have hsz:(order.filterMap (eo[·]?)).size=eo.size:=by rw[←Array.length_toList,hpe.length_eq,Array.length_toList]
    rw[hld]
    dsimp only
    rw[if_neg (by rw[hsz];simp)]
    refine wpAny_bind (wpAny_pure ?_)
    dsimp only
    exact fin _ t2 hpe hft l1 l2
  ·have hroad:tt1.road to= .oneByOne:=by
    unfold SetTable.road
    rw[if_pos (by simpa using hfill)]
   rw[hroad]
   dsimp only
   have zo1:h1.SetOf (PySem.strKind prog w) o (fun k=>y.contains k) y.length:=⟨oo,eo,epo,to,hoo1,hexo,hdo,helo,hmemo,hbo,hfo,hno⟩
   refine wpAny_bind (unseen_ok (x:=x) zo1 ⟨oo,hoo1,eo,epo,to,hdo,hledo,hplo⟩ hoo1 hdo (fun a ha=>by rw[List.mem_singleton] at ha;subst ha;exact⟨x,z1⟩) z1 t1 fun es' h2 hp sb2 z2 t2=> ?_)
   have sbt:=sb.trans sb2
   refine wpAny_bind (wpAny_forIn_array' _ (fun rest _ s'=> ∃(p:List (Int×Value)) (h3:Heap),s'={s with heap:=h3}∧es'.toList=p++rest∧Heap.SameBut r s.heap h3∧h3.SetOf (PySem.strKind prog w) r (fun k=>(uniS x (p.map txtE)).contains k) (uniS x (p.map txtE)).length∧Txts w h3 r) _ (fun e rest b s' ⟨p,h3,e1,e2,sb3,z3,t3⟩=> ?_) (fun b s' ⟨p,h3,e1,e2,sb3,z3,t3⟩=> ?_) es' _ ⟨[],h2,rfl,rfl,sbt,z2,t2⟩)
   ·subst e1
    have hem:e∈es'.toList:=by rw[e2];exact List.mem_append_right _ List.mem_cons_self
    obtain⟨u,eu⟩:=txtE_of helo (hp.mem_iff.mp hem)
    generalize txtE e=k at eu
    subst eu
    have hlen:(p.map txtE).length<y.length:=by
     have:=congrArg List.length e2
     rw[List.length_append,List.length_cons,hp.length_eq,Array.length_toList] at this
     rw[List.length_map]
     omega
    have hle:=uni_le x (p.map txtE)
    have hsb:scanBound=4096:=rfl
    dsimp only
    refine wpAny_bind (wpAny_holding (add_txts z3 t3 (by omega) fun h4 sb4 z4 t4=> ?_))
    have sb5:=sb3.trans sb4
    refine wpAny_bind (hE _ _ (fun ob q=>by rw[sb5.2 o (Ne.symm hne)];exact q) ?_)
    refine wpAny_bind (wpAny_setState_of (show h4.get? o=some oo from by rw[sb5.2 o (Ne.symm hne)];exact hoo) hdo hfo ?_)
    dsimp only
    rw[if_neg (by simp)]
    refine wpAny_pure ⟨p++ [((PySem.strKind prog w).hash k,.str k u)],h4,rfl,by rw[e2,List.append_assoc];rfl,sb5,?_,t4⟩
    have ek:(p++ [((PySem.strKind prog w).hash k,Value.str k u)]).map txtE=p.map txtE++ [k]:=by rw[List.map_append];rfl
    have eu2:uniS x (p.map txtE++ [k])=addS (uniS x (p.map txtE)) k:=by unfold uniS;rw[List.foldl_append];rfl
    rw[ek,eu2]
    exact aCk (σ:=[]) z4 (fun k'=>by rw[addS_has]) (by rw[addS_len])
   ·subst e1
    rw[List.append_nil] at e2
    have hk: ∀k,k∈p.map txtE↔k∈y:=fun k=>by
     rw[←e2]
     rw[←txt_mem helo hmemo k]
     exact (hp.map txtE).mem_iff
    have ln:=uni_perm hx hk
    refine wpAny_pure (h h3 sb3 (aCk (σ:=[]) z3 (fun k=> ?_) ln) t3 ?_)
    ·rw[uni_has,uni_has]
     congr 1
     rw[Bool.eq_iff_iff,List.contains_iff_mem,List.contains_iff_mem]
     exact hk k
    ·intro ob es ep t f1 f2 f3
     obtain⟨o5,es5,ep5,t5,ho5,_,hd5,_,_,_,hf5,hn5⟩:=z3
     rw[ho5] at f1
     cases f1
     rw[hd5] at f2
     cases f2
     have q1:t.place.size=es.size∧t.fill≤t.mask:=by simpa[SetTable.fits] using hf5
     have q2:t.fill=t.place.size+t.dummies.size:=rfl
     have hyp:0<y.length:=by omega
     obtain⟨v,hv⟩: ∃v,v∈y:=List.exists_mem_of_length_pos hyp
     have:v∈uniS x (p.map txtE):=uni_mem.mpr (.inr ((hk v).mpr hv))
     have:=List.length_pos_of_mem this
     omega
 obtain⟨or_,es,ep,t,hor,hexr,hdr,helr,hmemr,hbr,hfr,hnr⟩:=id zx
 unfold setRoomFor
 have hps:t.place.size=es.size∧t.fill≤t.mask:=by simpa[SetTable.fits] using hfr
 refine wpAny_bind (wpAny_bind (wpAny_setState_of hor hdr hfr ?_))
 dsimp only
 cases hr:t.roomFor eo.size with
 | none=>
  dsimp only
  refine wpAny_pure (go s.heap (Heap.SameBut.refl r s.heap) zx zt fun ob es2 ep2 t2 f1 f2 f3=> ?_)
  rw[hor] at f1
  cases f1
  rw[hdr] at f2
  cases f2
  refine⟨rm _ _ _ _ hor hdr f3,?_⟩
  unfold SetTable.roomFor at hr
  split at hr
  ·cases hr
  ·omega
 | some wanted=>
  dsimp only
  have hw:wanted=(t.place.size+eo.size)*2:=by
   unfold SetTable.roomFor at hr
   split at hr
   ·cases hr;rfl
   ·cases hr
  refine relay_ok zx zt (by omega) (by omega) fun h1 sb z1 t1 hm=>go h1 sb z1 t1 fun ob es2 ep2 t2 f1 f2 f3=> ?_
  obtain⟨o5,es5,ep5,t5,g1,g2,g3⟩:=hm
  rw[g1] at f1
  cases f1
  rw[g2] at f2
  cases f2
  obtain⟨pw,lt⟩:=above (n:=wanted) (by omega)
  rw[g3]
  exact⟨pw,by omega⟩
end
theorem entry_set_or:entryFor table "set.__or__"=some Builtin.«frozenset.__or__»:=
 entryFor_alias (id':="frozenset.__or__") (by kernel_rfl) rfl (by decide+kernel) (by kernel_rfl)
section
variable {prog:Program} {w:World} {A:Around} {E:Value→Shared→Prop} {s:Shared}
theorem is_set {a:Addr} {S:Str→Bool} {n:Nat} {Q:Bool→Shared→Prop} (z:s.heap.SetOf (PySem.strKind prog w) a S n) (q:Q true s):wpAny (model prog w) A (isInstance (.ref a) (.type "set")) Q E s:=by
 obtain⟨⟨c1,d1,x1,l1⟩,es1,ep1,t1,o1,⟨k1,_,_⟩,e1,_⟩:=z
 dsimp only at k1 e1
 subst k1 e1
 have hs:=sub_set_self
 wp_walk using AutoSeq1.wpAny_loadPart' o1
 exact q
theorem new_set {Q:Value→Shared→Prop} (q:Q (.ref s.heap.objs.size) {s with heap:=s.heap.push (setO (ledW w))}):wpAny (model prog w) A (newSet (.type "set")) Q E s:=by
 unfold newSet
 refine wpAny_bind (show wpAny _ _ setsByText _ _ _ from wpAny_bind (wpAny_askSetting (wpAny_pure ?_)))
 dsimp only
 simp only[newObj]
 exact wpAny_bind (wpAny_alloc (wpAny_pure q))
theorem rm_new {h:Heap} {a:Addr} {led:Bool} (e:h.get? a=some (setO led)):Rm h a:=fun o es ep t e1 e2 e3=>by
 rw[e] at e1
 cases e1
 cases e2
 exact .inl rfl
theorem copy_ok {a:Addr} {x:List Str} {Q:Value→Shared→Prop} (zx:s.heap.SetOf (PySem.strKind prog w) a (fun k=>x.contains k) x.length) (zt:Txts w s.heap a) (hx:x.Nodup) (hl:x.length≤63)
  (h: ∀h',(∀b o,s.heap.get? b=some o→h'.get? b=some o)→h'.SetOf (PySem.strKind prog w) s.heap.objs.size (fun k=>x.contains k) x.length→Txts w h' s.heap.objs.size→Rm h' s.heap.objs.size→Q (.ref s.heap.objs.size) {s with heap:=h'}):
  wpAny (model prog w) A (Builtin.Frozenset.copyOf a) Q E s:=by
 have hlt:a<s.heap.objs.size:=by obtain⟨o,_,_,_,ho,_⟩:=zx;exact Heap.lt_size ho
 unfold Builtin.Frozenset.copyOf Builtin.Frozenset.baseOf
 refine wpAny_bind (wpAny_bind (is_set zx (wpAny_pure ?_)))
 rw[if_pos rfl]
 refine wpAny_bind (new_set ?_)
 have zS:(s.heap.push (setO (ledW w))).get? s.heap.objs.size=some (setO (ledW w)):=Heap.get?_push_size _ rfl
 refine wpAny_bind (show wpAny _ _ (pure s.heap.objs.size) _ _ _ from wpAny_pure ?_)
 have kp: ∀b o,s.heap.get? b=some o→(s.heap.push (setO (ledW w))).get? b=some o:=fun b o e=>Heap.get?_push_of_some _ e
 have z0:(s.heap.push (setO (ledW w))).SetOf (PySem.strKind prog w) s.heap.objs.size (fun k=>([]:List Str).contains k) ([]:List Str).length:=aCk (σ:=[]) ((PyProof.Rows.setObjOf_fresh (knd:=PySem.strKind prog w) (ledW w)).setOf zS (by decide)) (fun _=>rfl) rfl
 refine wpAny_bind (merge_ok (x:=[]) (y:=x) (Nat.ne_of_gt hlt) List.nodup_nil hx (by simpa using hl) z0 (txts_new zS) (rm_new zS) (setOf_kept zx (fun o e=>kp a o e)) (txts_kept zt fun o e=>kp a o e) (fun s' Q' _ q=>wpAny_pure q) fun h' sb z' t' rm=> ?_)
 refine wpAny_pure (h h' (fun b o e=> ?_) (aCk (σ:=[]) z' (fun k=>by rw[uni_has];simp) ?_) t' rm)
 ·rw[sb.2 b (Nat.ne_of_lt (Heap.lt_size e))]
  exact kp b o e
 ·exact ((List.perm_ext_iff_of_nodup (aDz List.nodup_nil x) hx).mpr fun k=>by rw[uni_mem];simp).length_eq
theorem any_set {a:Addr} {S:Str→Bool} {n:Nat} {Q:Bool→Shared→Prop} (z:s.heap.SetOf (PySem.strKind prog w) a S n) (q:Q true s):wpAny (model prog w) A (Builtin.Frozenset.isAnySet (.ref a)) Q E s:=by
 unfold Builtin.Frozenset.isAnySet
 exact wpAny_bind (is_set z (wpAny_pure q))
theorem both_set {a b:Addr} {S S':Str→Bool} {n n':Nat} {Q:Bool→Shared→Prop} (z:s.heap.SetOf (PySem.strKind prog w) a S n) (z':s.heap.SetOf (PySem.strKind prog w) b S' n') (q:Q true s):wpAny (model prog w) A (Builtin.Frozenset.isAnySet (.ref a)<&&>Builtin.Frozenset.isAnySet (.ref b)) Q E s:=
 wpAny_bind (any_set z (show wpAny _ _ (Builtin.Frozenset.isAnySet (.ref b)) _ _ _ from any_set z' q))
theorem unchanged_ok {id:String} {o:Addr} {ob:Obj} {es:Array (Int×Value)} {ep:Nat} {t:SetTable} (ho:s.heap.get? o=some ob) (hd:ob.data= .set es ep t) (hf:t.fits es.size=true):
  ∀(s':Shared) (Q':Unit→Shared→Prop),(∀ob,s.heap.get? o=some ob→s'.heap.get? o=some ob)→Q' () s'→wpAny (model prog w) A (Builtin.Frozenset.unchanged id o ep) Q' E s':=fun s' Q' k q=>by
 unfold Builtin.Frozenset.unchanged
 refine wpAny_bind (wpAny_setEpoch_of (k _ ho) hd hf ?_)
 rw[if_neg (by simp)]
 exact wpAny_pure q
theorem set_or_body {a b:Addr} {x y:List Str} {Q:Value→Shared→Prop} (zx:s.heap.SetOf (PySem.strKind prog w) a (fun k=>x.contains k) x.length) (zxt:Txts w s.heap a) (zy:s.heap.SetOf (PySem.strKind prog w) b (fun k=>y.contains k) y.length) (zyt:Txts w s.heap b) (hx:x.Nodup) (hy:y.Nodup) (hl:x.length+y.length≤63)
  (h: ∀h',(∀b o,s.heap.get? b=some o→h'.get? b=some o)→h'.SetOf (PySem.strKind prog w) s.heap.objs.size (fun k=>(uniS x y).contains k) (uniS x y).length→Txts w h' s.heap.objs.size→Q (.ref s.heap.objs.size) {s with heap:=h'}):
  wpAny (model prog w) A (Builtin.«frozenset.__or__» ⟨[.ref a,.ref b],[]⟩) (fun fin s'=> ∃r,fin= .done (.ret r)∧Q r s') E s:=by
 have hlb:b<s.heap.objs.size:=by obtain⟨o,_,_,_,ho,_⟩:=zy;exact Heap.lt_size ho
 unfold Builtin.«frozenset.__or__»
 show wpAny _ _ (Builtin.Frozenset.slot1 "__or__" ⟨[.ref a,.ref b],[]⟩>>=_) _ _ _
 refine wpAny_bind (show wpAny _ _ (pure (Value.ref a,Value.ref b)) _ _ _ from wpAny_pure ?_)
 dsimp only
 refine wpAny_bind (both_set zx zy ?_)
 rw[if_neg (by decide)]
 refine wpAny_bind (show wpAny _ _ (pure a) _ _ _ from wpAny_pure ?_)
 refine wpAny_bind ?_
 show wpAny _ _ (Builtin.Frozenset.copyOf a>>=fun result=>if (Value.ref b !=Value.ref a)=true then (Builtin.Frozenset.addrOf result>>=fun r=>holding [result] (Builtin.Frozenset.updateFrom (toString "frozenset."++toString "__or__") r (.ref b))>>=fun _=>pure result) else pure result) _ _ _
 refine wpAny_bind (copy_ok zx zxt hx (by omega) fun h1 k1 z1 t1 rm1=> ?_)
 by_cases hab:b=a
 ·subst hab
  rw[if_neg (by simp)]
  refine wpAny_pure (wpAny_pure ⟨_,rfl,h h1 k1 (aCk (σ:=[]) z1 (fun k=> ?_) ?_) t1⟩)
  all_goals
   have hk: ∀k,x.contains k=y.contains k:=fun k=>by
    obtain⟨o1,es1,ep1,t1',ho1,_,hd1,_,hm1,_⟩:=zx
    obtain⟨o2,es2,ep2,t2',ho2,_,hd2,_,hm2,_⟩:=zy
    rw[ho1] at ho2
    cases ho2
    rw[hd1] at hd2
    cases hd2
    rw[Bool.eq_iff_iff]
    exact (hm1 k).trans (hm2 k).symm
  ·rw[uni_has,←hk k,Bool.or_self]
  ·refine (List.Perm.length_eq ((List.perm_ext_iff_of_nodup hx (aDz hx y)).mpr fun k=> ?_))
   rw[uni_mem,←List.contains_iff_mem,←List.contains_iff_mem (as:=y),hk k,or_self]
 ·rw[if_pos (by simpa using hab)]
  have zy1:=setOf_kept zy (fun o e=>k1 b o e)
  obtain⟨ob,es,ep,t,ho,hex,hd,hel,hm,hb,hf,hn⟩:=id zy1
  refine wpAny_bind (show wpAny _ _ (pure s.heap.objs.size) _ _ _ from wpAny_pure (wpAny_bind (wpAny_holding ?_)))
  unfold Builtin.Frozenset.updateFrom
  refine wpAny_bind (any_set zy1 ?_)
  rw[if_pos rfl]
  refine wpAny_bind (show wpAny _ _ (pure b) _ _ _ from wpAny_pure ?_)
  unfold Builtin.Frozenset.merge
  refine wpAny_bind (wpAny_setEpoch_of ho hd hf ?_)
  refine merge_ok (Nat.ne_of_gt hlb) hx hy hl z1 t1 rm1 zy1 (txts_kept zyt fun o e=>k1 b o e) (unchanged_ok ho hd hf) fun h2 sb z2 t2 _=> ?_
  refine wpAny_pure (wpAny_pure ⟨_,rfl,h h2 (fun c o e=> ?_) z2 t2⟩)
  rw[sb.2 c (Nat.ne_of_lt (Heap.lt_size e))]
  exact k1 c o e
end
section
variable {X:Cx} {B:Hp} {e a b:Expr} {fa fb:Rho→M D} {pos p p2 pos2:Pos}
noncomputable def gSOr:D→D→M D
 | .set x,.set y=>if x.Nodup∧y.Nodup∧x.length+y.length≤63 then ok (.set (uniS x y)) else none
 | _,_=>none
noncomputable def rS2 (ok:List Str→List Str→Prop) (f:List Str→List Str→List Str):R2:=fun x y H Q=> ∃a b xs ys,x= .ref a∧y= .ref b∧H a=some (.set (fun k=>(xs:List Str).contains k) xs.length)∧H b=some (.set (fun k=>(ys:List Str).contains k) ys.length)∧ok xs ys∧∀l,H l=none→Q (.ref l) (upd H l (.set (fun k=>(f xs ys).contains k) (f xs ys).length))
theorem op_s2 {op:Operator} {okp:List Str→List Str→Prop} {f:List Str→List Str→List Str} {id:String} {Bt:Builtin} (fills:fillsNumberSlot (.type "set") op.info.2=pure true) (slot:PySem.Slot "set" (dunder op.info.2) id) (entry:entryFor table id=some Bt) (args: ∀a b,argsOk id ⟨[a,b],[]⟩)
  (body: ∀{A:Around} {E:Value→Shared→Prop} {s:Shared} {a b:Addr} {x y:List Str} {Q:Value→Shared→Prop},s.heap.SetOf (PySem.strKind X.prog X.w) a (fun k=>x.contains k) x.length→Txts X.w s.heap a→s.heap.SetOf (PySem.strKind X.prog X.w) b (fun k=>y.contains k) y.length→Txts X.w s.heap b→okp x y→
   (∀h',(∀b o,s.heap.get? b=some o→h'.get? b=some o)→h'.SetOf (PySem.strKind X.prog X.w) s.heap.objs.size (fun k=>(f x y).contains k) (f x y).length→Txts X.w h' s.heap.objs.size→Q (.ref s.heap.objs.size) {s with heap:=h'})→
   wpAny (model X.prog X.w) A (Bt ⟨[.ref a,.ref b],[]⟩) (fun fin s'=> ∃r,fin= .done (.ret r)∧Q r s') E s):OpR X (binaryOp op) (rS2 okp f):=by
 intro pins s σ H x y v u Q I rx ry h
 obtain⟨a,b,xs,ys,rfl,rfl,ha,hb,hok,q⟩:=h
 cases rx
 cases ry
 obtain⟨za,ta⟩:=(show aBw X.prog X.w H s.heap a (.set _ _) from I.hok a _ ha)
 obtain⟨zb,tb⟩:=(show aBw X.prog X.w H s.heap b (.set _ _) from I.hok b _ hb)
 have ya:s.TypeIs (.ref a) "set":=by obtain⟨o,_,_,_,ho,hex,_⟩:=za;exact⟨o,ho,hex.1⟩
 have yb:s.TypeIs (.ref b) "set":=by obtain⟨o,_,_,_,ho,hex,_⟩:=zb;exact⟨o,ho,hex.1⟩
 refine wpAny_binaryOp_same ya yb fills slot (wpAny_call_entry slot ya entry (body za ta zb tb hok fun h' kp z' t'=> ?_) (args _ _))
 exact And.intro (fun z=>nomatch z) ⟨.ref _,_,I.laid (t':=s.toks) kp (Nat.le_refl _) (show aBw X.prog X.w _ h' _ (.set _ _) from⟨z',t'⟩),rfl,q _ (I.hok.fresh (Nat.le_refl _))⟩
theorem r_s2 {okp:List Str→List Str→Prop} {f:List Str→List Str→List Str} {g:D→D→M D} (hg: ∀dx dy d,g dx dy=ok d→∃x y,dx= .set x∧dy= .set y∧okp x y∧d= .set (f x y)):R2ok X (rS2 okp f) g:=by
 intro H x y dx dy d Q ix iy e q
 obtain⟨xs,ys,rfl,rfl,hok,rfl⟩:=hg _ _ _ e
 cases ix with
 | set h1=>
  cases iy with
  | set h2=>exact⟨_,_,_,_,rfl,rfl,h1,h2,hok,fun l hl=>q _ _ (aAn hl _) (.set aAi)⟩
theorem pd_sor (ha:PD X B a fa) (hb:PD X B b fb):PD X B (.BinOp a .BitOr b pos) (b2 gSOr fa fb):=
 pd_op (op_s2 (op:= .BitOr) (okp:=fun x y=>x.Nodup∧y.Nodup∧x.length+y.length≤63) F.fills_set_or F.slot_set_or entry_set_or F.args_set_or_2 (fun zx tx zy ty hok h=>set_or_body zx tx zy ty hok.1 hok.2.1 hok.2.2 h))
  (r_s2 fun dx dy d e=>by
   unfold gSOr at e
   split at e<;>first |(cases e;done) | skip
   split at e
   ·rename_i hh;cases e;exact⟨_,_,rfl,rfl,hh,rfl⟩
   ·cases e)
  (by intro x y c h;unfold gSOr at h;(repeat' split at h)<;>cases h) ha hb
end
section
variable {prog:Program} {w:World} {A:Around} {E:Value→Shared→Prop} {s:Shared}
theorem collect_seq {l:Addr} {vs:List Value} {T:String} {o:Obj} {nn:Nat} {Q:List Value→Shared→Prop} (hT:T="list"∨T="tuple") (ho:s.heap.get? l=some o) (hc:o.cls= .type T) (hd:o.data= .seq vs.toArray nn) (hz:vs.length≤100000)
  (h:Q vs {s with heap:=(s.heap.push (seqObj "list" #[] 0)).update s.heap.objs.size (Obj.mapSeq (· ++vs.toArray))}):wpAny (model prog w) A (collect (.ref l)) Q E s:=by
 have hs:sizeLine=16777216:=sizeLine_eq
 unfold collect
 refine wpAny_bind (wpAny_runValue (codeAny_builtin entry_proto_collect' ?_))
 refine wpAny_bind (wpAny_newList (wpAny_pure ⟨Code.quiet_builtin _ (by decide+kernel),codeAny_builtin entry_list_iadd' ?_⟩))
 have ho':(s.heap.push (seqObj "list" #[] 0)).get? l=some o:=Heap.get?_push_of_some _ ho
 show wpAny _ _ (Builtin.List.listExtendWith (.ref s.heap.objs.size) (.ref l) (.ref s.heap.objs.size)) _ _ _
 unfold Builtin.List.listExtendWith
 refine wpAny_bind (wpAny_typeOf (T:=T) ⟨o,ho',hc⟩ ?_)
 have ht:(Value.type T==Value.type "list" || Value.type T==Value.type "tuple")=true:=by rcases hT with rfl | rfl<;>rfl
 rw[if_pos (by rw[Bool.or_assoc,ht,Bool.or_true])]
 refine wpAny_bind (listItems_at ho' hd ?_)
 have hnew:(s.heap.push (seqObj "list" #[] 0)).get? s.heap.objs.size=some (seqObj "list" #[] 0):=Heap.get?_push_size _ rfl
 refine wpAny_bind (listItems_at (xs:= #[]) (n:=0) hnew rfl ?_)
 rw[if_neg (by simp)]
 have hz2:(#[]++vs.toArray:Array Value).size≤sizeLine+1:=by rw[Array.size_append,List.size_toArray];simp;omega
 refine wpAny_bind (listUpdate_at (xs:= #[]) (n:=0) hnew rfl (wpAny_pure ?_) (Nat.zero_le _) hz2)
 refine wpAny_bind (wpAny_load (get?_update_seq hnew _) ?_)
 have e:((#[]:Array Value)++vs.toArray).toList=vs:=by simp
 show wpAny _ _ (pure ((#[]:Array Value)++vs.toArray).toList) Q E _
 rw[e]
 exact wpAny_pure h
end
theorem f1_ok {g:D→M D} {f:Rho→M D} {ρ:Rho} {d:D} {r:M D} (h:f ρ=ok d) (h2:g d=r):f1 g f ρ=r:=by unfold f1;rw[h];exact h2
theorem ix_tup {ds:List D} {j:Nat} {d:D} (h:ds[j]? =some d):gIx (.tup ds) (.int (j:Int))=ok d:=by
 show (match atI ds (j:Int) with | some d=>ok d | none=>none)=_
 rw[atI_nat h]
theorem sub_ok {f g:Rho→M D} {ρ:Rho} {i j:Int} (h1:f ρ=ok (.int i)) (h2:g ρ=ok (.int j)):b2 gSub f g ρ=ok (.int (i-j)):=aCy h1 h2 rfl
theorem aDe {G:D→Rho→Option Rho} {F:Rho→Option Out} {d:D} {ds:List D} {ρ ρ1 ρ2:Rho} (h1:G d ρ=some ρ1) (h2:F ρ1=some (.nx ρ2)):loop G F (d::ds) ρ=loop G F ds ρ2:=by
 (conv=>lhs;unfold loop)
 rw[h1]
 dsimp only
 rw[h2]
theorem srtD_set {ss:List Str} (hn:ss.Nodup) (hl:ss.length<64):srtD (.set ss)=ok (.lst ((srtS ss).map D.str)):=by
 show (if ss.length<64∧ss.Nodup then _ else _)=_
 rw[if_pos ⟨hl,hn⟩]
noncomputable def lexS:List Str→List Str→Bool
 | [],[]=>false
 | [],_::_=>true
 | _::_,[]=>false
 | x::xs,y::ys=>if x=y then lexS xs ys else decide (x.cps.toList<y.cps.toList)
noncomputable def TxA:List Value→List Str→Prop
 | [],[]=>True
 | v::vs,x::xs=>(∃u,v=Value.str x u)∧TxA vs xs
 | _,_=>False
theorem TxA.length: ∀{vs:List Value} {xs:List Str},TxA vs xs→vs.length=xs.length
 | [],[],_=>rfl
 | _::_,_::_,h=>by rw[List.length_cons,List.length_cons,TxA.length h.2]
 | [],_::_,h=>h.elim
 | _::_,[],h=>h.elim
theorem lexS_ends: ∀{xs ys:List Str},(xs=[]∨ys=[])→lexS xs ys=decide (xs.length<ys.length)
 | [],[],_=>rfl
 | [],_::_,_=>by simp[lexS]
 | _::_,[],_=>by simp[lexS]
 | _::_,_::_,h=>by rcases h with h | h<;>cases h
section
variable {prog:Program} {w:World} {A:Around} {E:Value→Shared→Prop} {s:Shared}
theorem tup_lt_body {a b:Addr} {its jts:Array Value} {xs ys:List Str} {Q:Value→Shared→Prop} (ha:IsTup s.heap a its) (hb:IsTup s.heap b jts) (hx:TxA its.toList xs) (hy:TxA jts.toList ys) (q:Q (.bool (lexS xs ys)) s):
  wpAny (model prog w) A (Builtin.«tuple.__lt__» ⟨[.ref a,.ref b],[]⟩) (fun fin s'=> ∃r,fin= .done (.ret r)∧Q r s') E s:=by
 obtain⟨⟨c1,d1,x1,l1⟩,o1,k1,n1,e1⟩:=ha
 obtain⟨⟨c2,d2,x2,l2⟩,o2,k2,n2,e2⟩:=hb
 dsimp only at k1 e1 k2 e2
 subst k1 e1 k2 e2
 have f2:=AutoSeq1.sub_tuple_tuple
 have z1:=hx.length
 have z2:=hy.length
 rw[Array.length_toList] at z1 z2
 unfold Builtin.«tuple.__lt__»
 wp_walk using AutoSeq1.wpAny_loadPart' o1,AutoSeq1.wpAny_loadPart' o2,wpAny_forIn_list _ (fun rest st s'=>st.1=none∧s'=s∧∃(vs ws:List Value) (zs us:List Str),rest=vs.zip ws∧TxA vs zs∧TxA ws us∧zs.length+ys.length=us.length+xs.length∧lexS zs us=lexS xs ys) _
 case turn=>
  rintro⟨p,p'⟩ rest st s' ⟨g1,g2,vs,ws,zs,us,hz,hv,hw,hlen,hl⟩
  subst g2
  match vs,zs,ws,us,hv,hw with
  | v::vs,z::zs,y::ws,u::us,hv,hw=>
   rw[List.zip_cons_cons] at hz
   injection hz with hp hr
   injection hp with hp1 hp2
   obtain⟨⟨t1,e1⟩,hv⟩:=hv
   obtain⟨⟨t2,e2⟩,hw⟩:=hw
   subst hp1 hp2
   rw[e1,e2]
   rw[List.length_cons,List.length_cons] at hlen
   refine wpAny_bind (wpAny_eqBool_str ?_)
   by_cases ez:z=u
   ·rw[lexS,if_pos ez] at hl
    rw[decide_eq_true ez]
    wp_walk
    exact⟨rfl,rfl,vs,ws,zs,us,hr,hv,hw,by omega,hl⟩
   ·rw[lexS,if_neg ez] at hl
    rw[decide_eq_false ez]
    have hri: ∀(Q':Value→Shared→Prop) (E':Value→Shared→Prop),Q' (.bool (decide (z.cps.toList<u.cps.toList))) s'→wpAny (model prog w) A (richCompare .Lt (.str z t1) (.str u t2)) Q' E' s':=fun Q' E' h=>(lt_str h:wpAny (model prog w) A (compareOp .Lt (.str z t1) (.str u t2)) Q' E' s')
    wp_walk using hri
    exact⟨_,rfl,by rw[hl];exact q⟩
  | [],[],_,_,_,_=>rw[List.zip_nil_left] at hz;cases hz
  | _::_,_::_,[],[],_,_=>rw[List.zip_nil_right] at hz;cases hz
 case fin=>
  rintro⟨b1,b2⟩ s' ⟨g1,g2,vs,ws,zs,us,hz,hv,hw,hlen,hl⟩
  subst g2
  dsimp only at g1
  subst g1
  have hends:zs=[]∨us=[]:=by
   match vs,zs,ws,us,hv,hw with
   | [],[],_,_,_,_=>exact .inl rfl
   | _::_,_::_,[],[],_,_=>exact .inr rfl
   | _::_,_::_,_::_,_::_,_,_=>rw[List.zip_cons_cons] at hz;cases hz
  have hv:lexS xs ys=decide (its.size<jts.size):=by
   rw[←hl,lexS_ends hends]
   by_cases h:zs.length<us.length
   ·rw[decide_eq_true h,decide_eq_true (by omega)]
   ·rw[decide_eq_false h,decide_eq_false (by omega)]
  rw[hv] at q
  wp_walk
  exact⟨_,rfl,by simpa[Builtin.Tuple.tupleCompareSizes] using q⟩
 case h=>
  exact⟨rfl,rfl,its.toList,jts.toList,xs,ys,rfl,hx,hy,by omega,rfl⟩
theorem lt_tup_txts {a b:Addr} {its jts:Array Value} {xs ys:List Str} {Q:Value→Shared→Prop} (ha:IsTup s.heap a its) (hb:IsTup s.heap b jts) (hx:TxA its.toList xs) (hy:TxA jts.toList ys) (hu:A.units<cLine) (q:Q (.bool (lexS xs ys)) s):
  wpAny (model prog w) A (compareOp .Lt (.ref a) (.ref b)) Q E s:=by
 have ta:s.TypeIs (.ref a) "tuple":=ha.typeIs
 have tb:s.TypeIs (.ref b) "tuple":=hb.typeIs
 show wpAny _ _ (richCompare .Lt (.ref a) (.ref b)) _ _ _
 refine wpAny_richCompare_same_room ta tb PySem.F.slot_tuple_lt (wpAny_call_entry PySem.F.slot_tuple_lt ta PySem.F.entry_tuple_lt (tup_lt_body ha hb hx hy ?_) (PySem.F.args_tuple_lt_2 _ _)) hu
 exact And.intro (fun z=>nomatch z) q
end
end L2.PU
namespace L2.PU
open PySem PySem.Spec PyProof.Rows PySem.W
noncomputable def runT {α:Type} (lt:Nat→Nat→Bool):KasT α→α
 | .ret a=>a
 | .ask i j k=>runT lt (k (lt i j))
noncomputable def okP {α:Type} (n:Nat) (R:α→Prop):KasT α→Prop
 | .ret a=>R a
 | .ask i j k=>i<n∧j<n∧∀b,okP n R (k b)
theorem okP.bind {α β:Type} {n:Nat} {R:α→Prop} {S:β→Prop} {f:α→KasT β} (hf: ∀a,R a→okP n S (f a)): ∀(t:KasT α),okP n R t→okP n S (t.bind f)
 | .ret a,h=>hf a h
 | .ask i j k,h=>⟨h.1,h.2.1,fun b=>okP.bind hf (k b) (h.2.2 b)⟩
theorem runT_wp {n:Nat} {R:Array Nat→Prop} {lt:Nat→Nat→Bool} {cmp:Nat→Nat→(Bool→Shared→Prop)→Shared→Prop} {Q:Array Nat→Shared→Prop} {s:Shared} (hc: ∀i j C,i<n→j<n→C (lt i j) s→cmp i j C s): ∀(t:KasT (Array Nat)),okP n R t→Q (runT lt t) s→t.kasWp cmp Q s
 | .ret _,_,h=>h
 | .ask i j k,o,h=>hc i j _ o.1 o.2.1 (runT_wp hc (k (lt i j)) (o.2.2 _) h)
theorem runT_R {α:Type} {n:Nat} {R:α→Prop} {lt:Nat→Nat→Bool}: ∀(t:KasT α),okP n R t→R (runT lt t)
 | .ret _,o=>o
 | .ask i j k,o=>runT_R (k (lt i j)) (o.2.2 _)
noncomputable def Plc (n:Nat) (p:Array Nat):Prop:=p.toList.Perm (List.range n)
theorem Plc.lt {n:Nat} {p:Array Nat} (h:Plc n p) (hn:0<n) (k:Nat):p.getD k 0<n:=by
 by_cases hk:k<p.size
 ·have e:p.getD k 0=p[k]:=by simp[Array.getD,hk]
  rw[e]
  have:=(h.mem_iff (a:=p[k])).mp (by simp)
  exact List.mem_range.mp this
 ·have e:p.getD k 0=0:=by simp[Array.getD,hk]
  rw[e];exact hn
theorem Plc.of {n:Nat} {p p':Array Nat} (h:Plc n p) (q:p'.Perm p):Plc n p':=(Array.perm_iff_toList_perm.mp q).trans h
theorem Plc.rev {n:Nat} {p:Array Nat} (h:Plc n p) (i j:Nat):Plc n (kas_rev p i j):=h.of (mirror_perm _ _ _ _)
theorem ok_asc {n:Nat} {p:Array Nat} (hn:0<n) (h:Plc n p): ∀f m,okP n (fun _=>True) (kas_asc p f m)
 | 0,_=>trivial
 | f+1,m=>⟨h.lt hn _,h.lt hn _,fun b=>by
  cases b
  ·exact ok_asc hn h f (m+1)
  ·exact trivial⟩
theorem ok_desc {n:Nat} (hn:0<n): ∀f (p:Array Nat) m q,Plc n p→okP n (fun r=>Plc n r.1) (kas_desc f p m q)
 | 0,_,_,_,h=>h
 | f+1,p,m,q,h=>⟨h.lt hn _,h.lt hn _,fun b=>by
  cases b
  ·refine⟨h.lt hn _,h.lt hn _,fun d=> ?_⟩
   cases d
   ·exact ok_desc hn f p (m+1) (q+1) h
   ·exact h
  ·show okP n _ (if q>0 then kas_desc f (kas_rev p (m-(q+1)) m) (m+1) 0 else kas_desc f p (m+1) 0)
   split
   ·exact ok_desc hn f _ _ _ (h.rev _ _)
   ·exact ok_desc hn f _ _ _ h⟩
theorem ok_tail3 {n:Nat} {p:Array Nat} (hn:0<n) (h:Plc n p) (m r:Nat):okP n (fun x=>Plc n x.2) (kas_tail3 m r p):=by
 unfold kas_tail3
 refine okP.bind (R:=fun _=>True) (fun a _=> ?_) _ (ok_asc hn (h.rev 0 m) _ _)
 exact h.rev 0 m
theorem ok_descPart {n:Nat} {p:Array Nat} (hn:0<n) (h:Plc n p) (m r:Nat):okP n (fun x=>Plc n x.2) (kas_descPart m r p):=by
 refine okP.bind (fun x hx=> ?_) _ (ok_desc hn _ _ _ _ h)
 split
 ·exact ok_tail3 hn (hx.rev _ _) _ _
 ·exact ok_tail3 hn hx _ _
theorem ok_count {n:Nat} {p:Array Nat} (hn:0<n) (h:Plc n p) (r:Nat):okP n (fun x=>Plc n x.2) (kas_count r p):=by
 refine okP.bind (fun m _=> ?_) _ (ok_asc hn h _ _)
 split
 ·exact h
 ·split
  ·refine⟨h.lt hn _,h.lt hn _,fun c=> ?_⟩
   cases c
   ·exact ok_descPart hn (h.rev _ _) _ _
   ·exact h
  ·exact ok_descPart hn h _ _
theorem ok_place {n:Nat} {p:Array Nat} (hn:0<n) (h:Plc n p) (k:Nat): ∀f l r,okP n (fun _=>True) (kas_place p k f l r)
 | 0,_,_=>trivial
 | f+1,l,r=>by
  unfold kas_place
  split
  ·exact trivial
  ·refine⟨h.lt hn _,h.lt hn _,fun c=> ?_⟩
   cases c
   ·exact ok_place hn h k f _ _
   ·exact ok_place hn h k f _ _
theorem ok_bin {n:Nat} (hn:0<n): ∀f (p:Array Nat) k,Plc n p→okP n (Plc n) (kas_bin f p k)
 | 0,_,_,h=>h
 | f+1,p,k,h=>okP.bind (fun l _=>ok_bin hn f _ _ (h.of (bubble_perm _ _ _))) _ (ok_place hn h k _ _ _)
theorem ok_sort {n:Nat} (hn:0<n):okP n (Plc n) (kas_sort n):=by
 refine okP.bind (fun x hx=> ?_) _ (ok_count hn (p:=List.toArray (List.range n)) (List.Perm.refl _) _)
 split
 ·exact ok_bin hn _ _ _ hx
 ·exact hx
noncomputable def outT (lt:Nat→Nat→Bool) (n:Nat):List Nat:=if n<2 then List.range n else (runT lt (kas_sort n)).toList
theorem outT_perm (lt:Nat→Nat→Bool) (n:Nat):(outT lt n).Perm (List.range n):=by
 unfold outT
 split
 ·exact List.Perm.refl _
 ·exact runT_R _ (ok_sort (by omega))
section
variable {prog:Program} {w:World} {A:Around} {E:Value→Shared→Prop} {s:Shared}
theorem sort_T {a:Addr} {vs:List Value} {n:Nat} {lt:Nat→Nat→Bool} {P:PySem.Fin→Shared→Prop} (ho:s.heap.get? a=some (seqObj "list" vs.toArray n)) (h64:vs.length<64)
  (hc:2≤vs.length→∀s':Shared,(∀b o,b≠a→s.heap.get? b=some o→s'.heap.get? b=some o)→wpAny (model prog w) A (keyKind' vs.toArray) (fun κ s''=>s''=s'∧∀i j C,i<vs.length→j<vs.length→C (lt i j) s'→kas_ask prog w A κ vs i j C s') (fun _ _=>False) s')
  (h:P (.done (.ret .none)) {s with heap:=sortedHeap s.heap a vs ((outT lt vs.length).map fun i=>vs.getD i Value.none).toArray}):
  wpAny (model prog w) A (Builtin.«list.sort» ⟨[.ref a],[]⟩) P E s:=by
 rw[list_sort_plain]
 have ha:a<s.heap.objs.size:=Heap.lt_size ho
 refine wpAny_bind (listItems_at ho rfl ?_)
 refine wpAny_bind (listUpdate_at ho rfl ?_)
 obtain⟨e1,ho1⟩: ∃e1,(s.heap.update a (Obj.mapSeq fun _=> #[])).get? a=some (seqObj "list" #[] e1):=⟨_,get?_update_seq ho (fun _=> #[])⟩
 refine wpAny_bind (seqEpoch_at ho1 rfl ?_)
 refine wpAny_bind (wpAny_newTuple ?_)
 refine wpAny_bind (wpAny_newList ?_)
 refine wpAny_holding ?_
 have hk6: ∀b o,b≠a→s.heap.get? b=some o→(((s.heap.update a (Obj.mapSeq fun _=> #[])).push (seqObj "tuple" vs.toArray 0)).push (seqObj "list" #[] 0)).get? b=some o:=fun b o nb e=>Heap.get?_push_of_some _ (Heap.get?_push_of_some _ ((Heap.get?_update_other _ _ (Ne.symm nb)).trans e))
 have ho6:(((s.heap.update a (Obj.mapSeq fun _=> #[])).push (seqObj "tuple" vs.toArray 0)).push (seqObj "list" #[] 0)).get? a=some (seqObj "list" #[] e1):=Heap.get?_push_of_some _ (Heap.get?_push_of_some _ ho1)
 show wpAny (model prog w) A _ P E {s with heap:=((s.heap.update a (Obj.mapSeq fun _=> #[])).push (seqObj "tuple" vs.toArray 0)).push (seqObj "list" #[] 0)}
 dsimp only
 have hsz:vs.toArray.size=vs.length:=by simp
 by_cases h2:vs.toArray.size<2
 ·rw[if_pos h2,if_pos h2]
  refine wpAny_bind (wpAny_pure ?_)
  rw[StateT.run_pure]
  refine wpAny_bind (wpAny_pure ?_)
  dsimp only
  refine wpAny_bind (seqEpoch_at ho6 rfl ?_)
  refine wpAny_bind (listUpdate_at ho6 rfl ?_ (hsz2:=by rw[Array.size_map];show (pairsOf vs).size≤_;rw[pairsOf_size,sizeLine_eq];omega))
  simp only[bne_self_eq_false,Bool.false_eq_true,if_false]
  refine wpAny_pure ?_
  have eo:((outT lt vs.length).map fun i=>vs.getD i Value.none).toArray=Array.map (fun x=>x.2) (arrOf (SortSt.mk' general' (vs.toArray.zip vs.toArray) #[] 7 none)):=by
   unfold outT
   rw[if_pos (by rw[hsz] at h2;exact h2)]
   have hl:vs.length<2:=by rw[hsz] at h2;exact h2
   show _=Array.map (fun x=>x.2) (vs.toArray.zip vs.toArray)
   apply Array.ext
   ·simp
   ·intro i h1 h3
    simp at h1
    simp[h1]
  rw[eo] at h
  exact h
 ·rw[if_neg h2,if_neg h2]
  have h2':2≤vs.length:=by rw[hsz] at h2;omega
  refine wpAny_bind (wpAny_mono (hc h2' {s with heap:=((s.heap.update a (Obj.mapSeq fun _=> #[])).push (seqObj "tuple" vs.toArray 0)).push (seqObj "list" #[] 0)} hk6) (fun κ s0 hs0=> ?_) fun _ _ x=>x.elim)
  obtain⟨e0,ask⟩:=hs0
  subst e0
  refine wpAny_bind (wpAny_mono (kat_run (ks:=vs) (vs:=vs) (κ:=κ) (G:=fun p s'=>p=runT lt (kas_sort vs.length)∧s'={s with heap:=((s.heap.update a (Obj.mapSeq fun _=> #[])).push (seqObj "tuple" vs.toArray 0)).push (seqObj "list" #[] 0)})
   (Q:=fun st' s'=>s'={s with heap:=((s.heap.update a (Obj.mapSeq fun _=> #[])).push (seqObj "tuple" vs.toArray 0)).push (seqObj "list" #[] 0)}∧failedOf st'=none∧(runT lt (kas_sort vs.length)).size=vs.length∧arrOf st'=(runT lt (kas_sort vs.length)).map (kas_item (vs.toArray.zip vs.toArray)))
   rfl h2' h64 (fun p st' s' a1 a2 a3 a4=>⟨a4.2,a3,by rw[←a4.1];exact a1,by rw[←a4.1];exact a2⟩) (runT_wp ask _ (ok_sort (by omega)) ⟨rfl,rfl⟩)) ?_ fun _ _ e=>e)
  rintro⟨⟨⟩,st'⟩ s' ⟨rfl,hf,hp,har⟩
  dsimp only
  have hout:=kat_snds (ks:=vs) (vs:=vs) rfl har
  rw[hout]
  refine wpAny_bind (seqEpoch_at ho6 rfl ?_)
  refine wpAny_bind (listUpdate_at ho6 rfl ?_ (hsz2:=by rw[List.size_toArray,List.length_map,Array.length_toList,hp,sizeLine_eq];omega))
  rw[hf]
  simp only[bne_self_eq_false,Bool.false_eq_true,if_false]
  refine wpAny_pure ?_
  unfold outT at h
  rw[if_neg (by omega)] at h
  exact h
end
end L2.PU
namespace L2.PU
open PySem PySem.Spec PyProof.Rows
section
variable {K:PySem.W.Frag} {H₀ H:Hp} {ρ:Rho} {σ:St}
theorem Rel.ow_new {i:Nat} {a:Addr} {o:DO} {w:HO} (r:Rel K H₀ ρ σ H) (hf:H a=none) (iv: ∀H',Same H H'→IsO K H' o w) (hI: ∀O:Nat→Option Addr,OwnK (upd H a w) O→IsO K (Off (upd H a w) O) o w):Rel K H₀ (ρ.set i (some (.ow o))) (σ.set i (some (.ref a))) (upd H a w):=by
 obtain⟨O,h1,ho,h2,hl,h3⟩:=id r
 by_cases hi:i<σ.length
 case neg=>
  have s1: ∀x:Option SV,ρ.set i x=ρ:=fun x=>List.set_eq_of_length_le (by omega)
  have s2: ∀x:Option V,σ.set i x=σ:=fun x=>List.set_eq_of_length_le (by omega)
  rw[s1,s2]
  exact r.mono (aAn hf _)
 have mu:mutO w=true:=(iv H (Same.refl H)).mut
 have na: ∀j b,O j=some b→b≠a:=fun j b q e=>by
  subst e
  obtain⟨u,z,m⟩:=ho j b q;rw[z] at hf;cases hf
 let O':Nat→Option Addr:=fun j=>if j=i then some a else O j
 have Oi:O' i=some a:=if_pos rfl
 have On: ∀j,j≠i→O' j=O j:=fun j e=>if_neg e
 have hO':OwnK (upd H a w) O':=fun j b q=>by
  by_cases e:j=i
  ·subst e
   rw[Oi] at q
   cases q
   exact⟨_,aAi,mu⟩
  ·rw[On j e] at q
   have nb:=na j b q
   obtain⟨u,z,m⟩:=ho j b q
   exact⟨u,by rw[aAk nb];exact z,m⟩
 have sm:Same (Off H O) (Off (upd H a w) O'):=fun b o q=>by
  have qh:=Off.same H O b o q
  have nb:b≠a:=fun e=>by subst e;rw[hf] at qh;cases qh
  refine Off.of (by rw[aAk nb];exact qh) fun j z=> ?_
  by_cases e:j=i
  ·subst e
   rw[Oi] at z
   cases z
   exact nb rfl
  ·rw[On j e] at z
   exact Off.not q j z
 refine⟨O',fun j k b q1 q2=> ?_,hO',h2.trans sm,by rw[List.length_set,List.length_set,hl],fun j sv q=> ?_⟩
 ·by_cases e1:j=i
  ·by_cases e2:k=i
   ·rw[e1,e2]
   ·subst e1
    rw[Oi] at q1
    cases q1
    rw[On k e2] at q2
    exact absurd rfl (na k _ q2)
  ·by_cases e2:k=i
   ·subst e2
    rw[Oi] at q2
    cases q2
    rw[On j e1] at q1
    exact absurd rfl (na j _ q1)
   ·rw[On j e1] at q1
    rw[On k e2] at q2
    exact h1 j k b q1 q2
 ·by_cases e:j=i
  ·subst e
   have hj:j<ρ.length:=by
    have:=(List.getElem?_eq_some_iff.mp q).1
    rwa [List.length_set] at this
   rw[List.getElem?_set_self hj] at q
   have q':=Option.some.inj (Option.some.inj q)
   subst q'
   exact⟨a,w,Oi,List.getElem?_set_self (by rw[←hl];exact hj),aAi,hI O' hO'⟩
  ·rw[List.getElem?_set_ne (Ne.symm e)] at q
   have z:=h3 j sv q
   cases sv with
   | sh d'=>obtain⟨v',e1,e2⟩:=z;exact⟨v',by rw[List.getElem?_set_ne (Ne.symm e)];exact e1,e2.mono sm⟩
   | own ds'=>
    obtain⟨b,ws,e1,e2,e3,e4⟩:=z
    exact⟨b,ws,by rw[On j e];exact e1,by rw[List.getElem?_set_ne (Ne.symm e)];exact e2,by rw[aAk (na j b e1)];exact e3,e4.mono sm⟩
   | oin b C dx fs=>
    obtain⟨e1,e2,e3,ws,e4,e5⟩:=z
    exact⟨by rw[On j e];exact e1,by rw[List.getElem?_set_ne (Ne.symm e)];exact e2,e3,ws,by rw[aAk (na j b e1)];exact e4,e5.mono sm⟩
   | ow o'=>
    obtain⟨b,u,e1,e2,e3,e4⟩:=z
    exact⟨b,u,by rw[On j e];exact e1,by rw[List.getElem?_set_ne (Ne.symm e)];exact e2,by rw[aAk (na j b e1)];exact e3,e4.mono sm⟩
   | tk ks=>obtain⟨b,e1,e2⟩:=z;exact⟨b,by rw[List.getElem?_set_ne (Ne.symm e)];exact e1,sm _ _ e2⟩
   | nl kd ls=>exact NL.move (by rw[List.length_set]) (List.getElem?_set_ne (Ne.symm e)) (fun m b w hm e1 e2=>⟨by rw[On m (by rcases hm with h | h<;>omega)];exact e1,by rw[aAk (na m b e1)];exact e2⟩) sm z
theorem Rel.ow_put {i:Nat} {a:Addr} {o o':DO} {w':HO} (O:Nat→Option Addr) (h1: ∀i j a,O i=some a→O j=some a→i=j) (ho:OwnK H O) (h2:Same H₀ (Off H O)) (hl:ρ.length=σ.length)
  (h3: ∀i sv,ρ[i]? =some (some sv)→Slot K H O σ i sv) (q:ρ[i]? =some (some (.ow o))) (z1:O i=some a) (z2:σ[i]? =some (some (.ref a))) (iv:IsO K (Off H O) o' w'):Rel K H₀ (ρ.set i (some (.ow o'))) σ (upd H a w'):=by
 have eo:Off (upd H a w') O=Off H O:=Off.upd z1
 refine⟨O,h1,fun j b qj=> ?_,by rw[eo];exact h2,by rw[List.length_set,hl],fun j sv qj=> ?_⟩
 ·by_cases e:b=a
  ·subst e;exact⟨_,aAi,iv.mut⟩
  ·obtain⟨u,w,m⟩:=ho j b qj
   exact⟨u,by rw[aAk e];exact w,m⟩
 ·by_cases e:j=i
  ·subst e
   have hj:j<ρ.length:=(List.getElem?_eq_some_iff.mp q).1
   rw[List.getElem?_set_self hj] at qj
   have q':=Option.some.inj (Option.some.inj qj)
   subst q'
   exact⟨a,w',z1,z2,aAi,by rw[eo];exact iv⟩
  ·rw[List.getElem?_set_ne (Ne.symm e)] at qj
   have z:=h3 j sv qj
   cases sv with
   | sh d'=>obtain⟨v',e1,e2⟩:=z;exact⟨v',e1,by rw[eo];exact e2⟩
   | own es=>
    obtain⟨b,ws,e1,e2,e3,e4⟩:=z
    have nb:b≠a:=fun w=>e (h1 j i a (by rw[←w];exact e1) z1)
    exact⟨b,ws,e1,e2,by rw[aAk nb];exact e3,by rw[eo];exact e4⟩
   | oin b C' dx' fs'=>
    obtain⟨e1,e2,e3,ws,e4,e5⟩:=z
    have nb:b≠a:=fun w=>e (h1 j i a (by rw[←w];exact e1) z1)
    exact⟨e1,e2,e3,ws,by rw[aAk nb];exact e4,by rw[eo];exact e5⟩
   | ow o''=>
    obtain⟨b,u,e1,e2,e3,e4⟩:=z
    have nb:b≠a:=fun w=>e (h1 j i a (by rw[←w];exact e1) z1)
    exact⟨b,u,e1,e2,by rw[aAk nb];exact e3,by rw[eo];exact e4⟩
   | tk ks=>obtain⟨b,e1,e2⟩:=z;exact⟨b,e1,by rw[eo];exact e2⟩
   | nl kd ls=>
    have hi:i<σ.length:=by have:=(List.getElem?_eq_some_iff.mp q).1;omega
    exact NL.move rfl rfl (fun m b w hm e1 e2=>⟨e1,by rw[aAk (fun z=>absurd (h1 m i a (by rw[←z];exact e1) z1) (by rcases hm with h | h<;>omega))];exact e2⟩) (by rw[eo];exact Same.refl _) z
end
noncomputable def keyOf:D→Option Key
 | .int i=>some (.inl i)
 | .str x=>some (.inr x)
 | _=>none
noncomputable def keysOf:List D→Option (List Key)
 | []=>some []
 | d::ds=>match keyOf d,keysOf ds with | some k,some ks=>some (k::ks) | _,_=>none
theorem keyOf_V {K:PySem.W.Frag} {H:Hp} {d:D} {v:V} {k:Key} (i:Is K H d v) (h:keyOf d=some k):v=kV k:=by
 cases i<;>first |(cases h;done) |(cases h;rfl)
section
variable {κ:Type} [DecidableEq κ]
noncomputable def valD (kvs:List (κ×D)) (k:κ):Option D:=(kvs.find? fun kv=>decide (kv.1=k)).map (·.2)
noncomputable def putT (kvs:List (κ×D)) (k:κ) (d:D):List (κ×D):=
 if (kvs.any fun kv=>decide (kv.1=k))=true then kvs.map (fun kv=>if kv.1=k then (kv.1,d) else kv) else kvs++ [(k,d)]
end
open Classical in
noncomputable def dictAt (ρ:Rho) (i:Nat):Option (List (List Key×D)):=match ρ[i]? with
 | some (some (.ow (.t kvs)))=>some kvs
 | some (some (.sh (.dt kvs)))=>some kvs
 | _=>none
section
variable {X:Cx} {B:Hp} {e:Expr} {fa:Rho→M D} {pos p apos cpos:Pos} {x:Str} {i:Nat}
noncomputable def rExt2 (K:PySem.W.Frag):V→List V→Hp→VK→Prop:=fun x vs H Q=> ∃l b xs zs,x= .ref l∧vs=[.ref b]∧H l=some (.lst xs)∧(SqL K H b zs∨SqT K H b zs)∧xs.length+zs.length≤sizeLine∧Q .non (upd H l (.lst (xs++zs)))
theorem mt_ext2:MtM X "list.extend" (rExt2 X.K):=by
 intro pins s σ H x vs v us Q I rx rv h
 obtain⟨l,b,xs,zs,rfl,rfl,hH,hB,hz,q⟩:=h
 cases rx
 obtain⟨u,rfl,ru⟩:=rv.one
 cases ru
 obtain⟨z,its,n,r,hl,e⟩:=I.lstM hH
 obtain⟨its2,r2,o2,n2,ho2,hc2,hd2⟩: ∃its2:List Value,Vals zs its2∧∃(o2:Obj) (n2:Nat),s.heap.get? b=some o2∧(o2.cls= .type "list"∨o2.cls= .type "tuple")∧o2.data= .seq its2.toArray n2:=by
  rcases hB with hB | hB
  ·obtain⟨its2,r2,⟨o2,n2,ho2,hc2,_,hd2⟩,z2⟩:=I.list hB
   exact⟨its2,r2,o2,n2,ho2,.inl hc2,hd2⟩
  ·obtain⟨its2,r2,⟨o2,ho2,hc2,n2,hd2⟩,z2⟩:=I.tuple hB
   exact⟨its2,r2,o2,n2,ho2,.inr hc2,hd2⟩
 have hl2:=r2.length
 have hsz:its.toArray.size+its2.toArray.size≤sizeLine:=by rw[List.size_toArray,List.size_toArray];omega
 refine wpAny_call_entry F.slot_list_extend ⟨_,e,rfl⟩ F.entry_list_extend ?_ (F.args_list_extend_2 _ _)
 show wpAny _ _ (Builtin.List.listExtendWith (.ref l) (.ref b) .none) _ _ _
 unfold Builtin.List.listExtendWith
 have ht:(Value.type "list"==Value.type "list")=true:=by rfl
 have ht2:(Value.type "tuple"==Value.type "tuple")=true:=by rfl
 rcases hc2 with hc2 | hc2
 ·refine wpAny_bind (wpAny_typeOf (T:="list") ⟨o2,ho2,hc2⟩ ?_)
  rw[if_pos (by rw[ht];simp)]
  refine wpAny_bind (listItems_at ho2 hd2 (wpAny_bind (listItems_at e rfl ?_)))
  rw[if_neg (by rw[notLongL hsz,Bool.and_false];exact Bool.false_ne_true)]
  refine wpAny_bind (listUpdate_at e rfl (wpAny_pure ⟨_,rfl,?_⟩) (by rw[List.size_toArray];omega) (by rw[Array.size_append];omega))
  refine⟨.non,_,I.lset (its':=its++its2) hH e (by simp) (r.append r2) ?_,rfl,q⟩
  rw[List.length_append]
  omega
 ·refine wpAny_bind (wpAny_typeOf (T:="tuple") ⟨o2,ho2,hc2⟩ ?_)
  rw[if_pos (by rw[ht2];simp)]
  refine wpAny_bind (listItems_at ho2 hd2 (wpAny_bind (listItems_at e rfl ?_)))
  rw[if_neg (by rw[notLongL hsz,Bool.and_false];exact Bool.false_ne_true)]
  refine wpAny_bind (listUpdate_at e rfl (wpAny_pure ⟨_,rfl,?_⟩) (by rw[List.size_toArray];omega) (by rw[Array.size_append];omega))
  refine⟨.non,_,I.lset (its':=its++its2) hH e (by simp) (r.append r2) ?_,rfl,q⟩
  rw[List.length_append]
  omega
noncomputable def sExt2 (i:Nat) (g:Rho→M (List D)):Rho→Option Out:=fun ρ=>match ρ[i]? with
 | some (some (.own ds))=>lft (g ρ) ρ fun as=>(match as with
  | [.lst es]=>if immL es=true∧ds.length+es.length≤100000 then some (.nx (ρ.set i (some (.own (ds++es))))) else none
  | [.tup es]=>if immL es=true∧ds.length+es.length≤100000 then some (.nx (ρ.set i (some (.own (ds++es))))) else none
  | _=>none)
 | _=>none
theorem pds_extend2 (hN:X.N[i]? =some x) (hv:Vis X.env.scope x) (ha:PD X B e fa) (hs:aB4 e=true:=by rfl) (hline:(apos.endLine==cpos.line)=true:=by rfl)
  (hsw:swapsWith (.Call (.Attribute (.Name x p) "extend" apos) [e] [] cpos) none pos.line X.env=pure false:=by rfl)
  (hd:(x==("__debug__":Str))=false:=by decide) (hcd:(x==("__classdict__":Str))=false:=by decide):
  PDS X B (.Expr (.Call (.Attribute (.Name x p) "extend" apos) [e] [] cpos) pos) (sExt2 i (aAc fa aAv)):=by
 refine PS.of (ps_expr (pe_bm PySem.F.plainAttrs_list PySem.F.slot_list_extend PySem.F.type_list_extend mt_ext2 (pe_var hN hv hd hcd) (aAd ha aAl (aAx hs)) (hbase:=rfl) (hfew:=by rw[star1 hs];rfl) (hline:=hline) (hs:=aAx hs) (hplain:=rfl)) hsw) fun E σ H h=> ?_
 obtain⟨ρ,r1,h⟩:=h
 unfold sExt2 at h
 split at h
 ·rename_i ds q
  obtain⟨O,h1,ho,h2,hl,h3⟩:=(show Rel X.K B ρ σ H from r1)
  obtain⟨a,vs,z1,z2,z3,z4⟩:=h3 i _ q
  refine⟨.ref a,z2,.inl ⟨rfl,_,SqL.of z3⟩,ρ,r1,(aBa r1 h).imp fun as k1 us H1 e1 i1=> ?_⟩
  have ho1:=ho.mono e1
  have z4':=z4.mono (Off.mono e1 (O:=O))
  split at k1
  ·rename_i es
   split at k1
   ·rename_i hh
    cases i1 with
    | cons id1 rest=>
     cases rest
     cases id1 with
     | lst hq rr=>
      have il:=offL_imm ho1 hh.1 rr
      refine⟨a,_,vs,_,rfl,rfl,e1 _ _ z3,.inl hq,?_,k1 _ _ (Rel.own_put O h1 ho1 (h2.trans (Off.mono e1)) hl (fun j sv qj=>(h3 j sv qj).mono e1) q z1 z2 (z4'.append il))⟩
      rw[←z4.length,←rr.length]
      exact Nat.le_trans hh.2 (by decide)
   ·exact False.elim k1
  ·rename_i es
   split at k1
   ·rename_i hh
    cases i1 with
    | cons id1 rest=>
     cases rest
     cases id1 with
     | tup hq rr=>
      have il:=offL_imm ho1 hh.1 rr
      refine⟨a,_,vs,_,rfl,rfl,e1 _ _ z3,.inr hq,?_,k1 _ _ (Rel.own_put O h1 ho1 (h2.trans (Off.mono e1)) hl (fun j sv qj=>(h3 j sv qj).mono e1) q z1 z2 (z4'.append il))⟩
      rw[←z4.length,←rr.length]
      exact Nat.le_trans hh.2 (by decide)
   ·exact False.elim k1
  ·exact False.elim k1
 ·exact False.elim h
end
theorem ar1 (us:List Value) (hl:us.length=1): ∃a,us=[a]:=by
 cases us with
 | nil=>exact absurd hl (by simp)
 | cons a us=>
  cases us with
  | nil=>exact⟨a,rfl⟩
  | cons z us=>exact absurd hl (by simp)
theorem ar2 (us:List Value) (hl:us.length=2): ∃a b,us=[a,b]:=by
 cases us with
 | nil=>exact absurd hl (by simp)
 | cons a us=>
  cases us with
  | nil=>exact absurd hl (by simp)
  | cons b us=>
   cases us with
   | nil=>exact⟨a,b,rfl⟩
   | cons z us=>exact absurd hl (by simp)
theorem ar3 (us:List Value) (hl:us.length=3): ∃a b c,us=[a,b,c]:=by
 cases us with
 | nil=>exact absurd hl (by simp)
 | cons a us=>
  cases us with
  | nil=>exact absurd hl (by simp)
  | cons b us=>
   cases us with
   | nil=>exact absurd hl (by simp)
   | cons c us=>
    cases us with
    | nil=>exact⟨a,b,c,rfl⟩
    | cons z us=>exact absurd hl (by simp)
noncomputable def Kps (h h':Heap):Prop:= ∀b u,h.get? b=some u→h'.get? b=some u
end L2.PU
namespace L2.PU
open PySem PySem.Spec PyProof.Rows PySem.W
structure Tot (n:Nat) (lt:Nat→Nat→Bool):Prop where
 ir: ∀i,lt i i=false
 tr: ∀i j k,lt i j=true→lt j k=true→lt i k=true
 to: ∀i j,i<n→j<n→i≠j→lt i j=false→lt j i=true
theorem runT_bind {α β:Type} {lt:Nat→Nat→Bool} {f:α→KasT β}: ∀(t:KasT α),runT lt (t.bind f)=runT lt (f (runT lt t))
 | .ret _=>rfl
 | .ask i j k=>runT_bind (k (lt i j))
noncomputable abbrev gt0 (p:Array Nat) (i:Nat):Nat:=p.getD i 0
theorem Plc.size {n:Nat} {p:Array Nat} (h:Plc n p):p.size=n:=by
 have:=h.length_eq
 rw[Array.length_toList,List.length_range] at this
 exact this
theorem Plc.ne {n:Nat} {p:Array Nat} (h:Plc n p) {i j:Nat} (hi:i<n) (hj:j<n) (e:i≠j):gt0 p i≠gt0 p j:=by
 have hs:=h.size
 have nd:p.toList.Nodup:=h.nodup_iff.mpr List.nodup_range
 intro q
 have e1:p.toList[i]? =some (gt0 p i):=by
  have:i<p.toList.length:=by rw[Array.length_toList];omega
  rw[List.getElem?_eq_getElem this]
  simp[gt0,Array.getD,show i<p.size by omega]
 have e2:p.toList[j]? =some (gt0 p j):=by
  have:j<p.toList.length:=by rw[Array.length_toList];omega
  rw[List.getElem?_eq_getElem this]
  simp[gt0,Array.getD,show j<p.size by omega]
 exact e ((List.getElem?_inj (by rw[Array.length_toList];omega) nd).mp (by rw[e1,e2,q]))
section
variable {n:Nat} {lt:Nat→Nat→Bool} (T:Tot n lt)
noncomputable def Asc (lt:Nat→Nat→Bool) (p:Array Nat) (a b:Nat):Prop:= ∀i,a≤i→i+1<b→lt (gt0 p i) (gt0 p (i+1))=true
include T
theorem asc_pw {p:Array Nat} {a b:Nat} (h:Asc lt p a b): ∀(d i:Nat),a≤i→i+d+1<b→lt (gt0 p i) (gt0 p (i+d+1))=true
 | 0,i,hi,hb=>h i hi hb
 | d+1,i,hi,hb=>T.tr _ _ _ (asc_pw h d i hi (by omega)) (h (i+d+1) (by omega) (by omega))
theorem run_asc {p:Array Nat} (hp:Plc n p): ∀(f m:Nat),1≤m→m+f≤n→Asc lt p 0 m→∃m',runT lt (kas_asc p f m)=m'∧m≤m'∧m'≤m+f∧Asc lt p 0 m'∧(m'<m+f→lt (gt0 p m') (gt0 p (m'-1))=true)
 | 0,m,h1,h2,ha=>⟨m,rfl,Nat.le_refl _,Nat.le_refl _,ha,fun z=>by omega⟩
 | f+1,m,h1,h2,ha=>by
  have e:runT lt (kas_asc p (f+1) m)=runT lt (if lt (gt0 p m) (gt0 p (m-1))=true then .ret m else kas_asc p f (m+1)):=rfl
  cases c:lt (gt0 p m) (gt0 p (m-1)) with
  | true=>exact⟨m,by rw[e,if_pos c];rfl,Nat.le_refl _,by omega,ha,fun _=>c⟩
  | false=>
   obtain⟨m',g1,g2,g3,g4,g5⟩:=run_asc hp f (m+1) (by omega) (by omega) (fun i hi hb=>by
    by_cases q:i+1<m
    ·exact ha i hi q
    ·have:i=m-1:=by omega
     subst this
     rw[show m-1+1=m by omega]
     exact T.to _ _ (hp.lt (by omega) _) (hp.lt (by omega) _) (hp.ne (by omega) (by omega) (by omega)) c)
   exact⟨m',by rw[e,if_neg (by rw[c];exact Bool.false_ne_true)];exact g1,by omega,by omega,g4,fun z=>g5 (by omega)⟩
noncomputable def Des (lt:Nat→Nat→Bool) (p:Array Nat) (b:Nat):Prop:= ∀i,i+1<b→lt (gt0 p (i+1)) (gt0 p i)=true
theorem run_desc {p:Array Nat} (hp:Plc n p): ∀(f m:Nat),1≤m→m+f≤n→Des lt p m→∃m',runT lt (kas_desc f p m 0)=(p,m',0)∧m≤m'∧m'≤m+f∧Des lt p m'
 | 0,m,h1,h2,ha=>⟨m,rfl,Nat.le_refl _,Nat.le_refl _,ha⟩
 | f+1,m,h1,h2,ha=>by
  have e:runT lt (kas_desc (f+1) p m 0)=runT lt (if lt (gt0 p m) (gt0 p (m-1))=true then (if 0>0 then kas_desc f (kas_rev p (m-(0+1)) m) (m+1) 0 else kas_desc f p (m+1) 0)
   else .ask (gt0 p (m-1)) (gt0 p m) fun d=>if d=true then .ret (p,m,0) else kas_desc f p (m+1) (0+1)):=rfl
  cases c:lt (gt0 p m) (gt0 p (m-1)) with
  | true=>
   obtain⟨m',g1,g2,g3,g4⟩:=run_desc hp f (m+1) (by omega) (by omega) (fun i hb=>by
    by_cases q:i+1<m
    ·exact ha i q
    ·have:i=m-1:=by omega
     subst this
     rw[show m-1+1=m by omega]
     exact c)
   exact⟨m',by rw[e,if_pos c,if_neg (by omega)];exact g1,by omega,by omega,g4⟩
  | false=>
   have d:=T.to _ _ (hp.lt (by omega) _) (hp.lt (by omega) _) (hp.ne (i:=m) (j:=m-1) (by omega) (by omega) (by omega)) c
   refine⟨m,?_,Nat.le_refl _,by omega,ha⟩
   rw[e,if_neg (by rw[c];exact Bool.false_ne_true)]
   show runT lt (if lt (gt0 p (m-1)) (gt0 p m)=true then .ret (p,m,0) else kas_desc f p (m+1) (0+1))=_
   rw[if_pos d]
   rfl
omit T in
theorem gt0_rev {p:Array Nat} {m:Nat} (hm:m≤p.size) {i:Nat}:gt0 (kas_rev p 0 m) i=if i<m then gt0 p (m-1-i) else gt0 p i:=by
 have e:=getElem?_mirror_all (xs:=p) (i:=0) (j:=m) hm i
 have g: ∀(q:Array Nat) (k:Nat),gt0 q k=(q[k]?).getD 0:=fun q k=>by simp[gt0,Array.getD,getElem?_def];split<;>rfl
 rw[g,show kas_rev p 0 m=mirror p 0 m ((m-0)/2) from rfl,e]
 by_cases q:i<m
 ·rw[if_pos ⟨Nat.zero_le _,q⟩,if_pos q,g,show 0+m-1-i=m-1-i by omega]
 ·rw[if_neg (fun z=>q z.2),if_neg q,g]
theorem run_tail {p:Array Nat} (hp:Plc n p) {m:Nat} (h1:1≤m) (h2:m≤n) (hd:Des lt p m): ∃m' p',runT lt (kas_tail3 m n p)=(m',p')∧Plc n p'∧1≤m'∧m'≤n∧Asc lt p' 0 m':=by
 have hr:=hp.rev 0 m
 obtain⟨m',g1,g2,g3,g4,_⟩:=run_asc T hr (n-m) m h1 (by omega) (fun i _ hb=>by
  rw[gt0_rev (by rw[hp.size];exact h2),gt0_rev (by rw[hp.size];exact h2),if_pos (by omega),if_pos hb]
  have:=hd (m-1-(i+1)) (by omega)
  rwa [show m-1-(i+1)+1=m-1-i by omega] at this)
 refine⟨m',kas_rev p 0 m,?_,hr,by omega,by omega,g4⟩
 unfold kas_tail3
 rw[runT_bind,g1]
 rfl
theorem run_count {p:Array Nat} (hp:Plc n p) (hn:2≤n): ∃m p',runT lt (kas_count n p)=(m,p')∧Plc n p'∧1≤m∧m≤n∧Asc lt p' 0 m:=by
 obtain⟨m,g1,g2,g3,g4,g5⟩:=run_asc T hp (n-1) 1 (Nat.le_refl _) (by omega) (fun i _ hb=>by omega)
 unfold kas_count
 rw[runT_bind,g1]
 by_cases q:m=n
 ·rw[if_pos (by simpa using q)]
  exact⟨m,p,rfl,hp,g2,by omega,g4⟩
 ·rw[if_neg (by simpa using q)]
  by_cases q2:m>1
  ·rw[if_pos q2]
   have c:=asc_pw T g4 (m-2) 0 (Nat.le_refl _) (by omega)
   rw[show 0+(m-2)+1=m-1 by omega] at c
   refine⟨m,p,?_,hp,g2,by omega,g4⟩
   show runT lt (if lt (gt0 p 0) (gt0 p (m-1))=true then .ret (m,p) else kas_descPart m n (kas_rev p 0 m))=_
   rw[if_pos c]
   rfl
  ·rw[if_neg q2]
   have em:m=1:=by omega
   subst em
   have c:=g5 (by omega)
   obtain⟨m',k1,k2,k3,k4⟩:=run_desc T hp (n-(1+1)) (1+1) (by omega) (by omega) (fun i hb=>by
    have:i=0:=by omega
    subst this
    exact c)
   unfold kas_descPart
   rw[runT_bind,k1]
   show∃m p',runT lt (if 0>0 then kas_tail3 m' n (kas_rev p (m'-(0+1)) m') else kas_tail3 m' n p)=(m,p')∧_
   rw[if_neg (by omega)]
   exact run_tail T hp (by omega) (by omega) k4
theorem run_place {p:Array Nat} (hp:Plc n p) {k:Nat} (hk:k<n) (ha:Asc lt p 0 k): ∀(f l r:Nat),r≤l+f→r≤k→l≤r→(∀i,i<l→lt (gt0 p i) (gt0 p k)=true)→(∀i,r≤i→i<k→lt (gt0 p k) (gt0 p i)=true)→
  ∃l',runT lt (kas_place p k f l r)=l'∧l'≤k∧(∀i,i<l'→lt (gt0 p i) (gt0 p k)=true)∧(∀i,l'≤i→i<k→lt (gt0 p k) (gt0 p i)=true)
 | 0,l,r,h1,h2,h3,hl,hr=>⟨l,rfl,by omega,hl,fun i hi hk=>hr i (by omega) hk⟩
 | f+1,l,r,h1,h2,h3,hl,hr=>by
  unfold kas_place
  by_cases q:l≥r
  ·rw[if_pos q]
   exact⟨l,rfl,by omega,hl,fun i hi hk=>hr i (by omega) hk⟩
  ·rw[if_neg q]
   have pw: ∀i j,i<j→j<k→lt (gt0 p i) (gt0 p j)=true:=fun i j hij hjk=>by
    have:=asc_pw T ha (j-i-1) i (Nat.zero_le _) (by omega)
    rwa [show i+(j-i-1)+1=j by omega] at this
   show∃l',runT lt (if lt (gt0 p k) (gt0 p ((l+r)/2))=true then kas_place p k f l ((l+r)/2) else kas_place p k f ((l+r)/2+1) r)=l'∧_
   cases c:lt (gt0 p k) (gt0 p ((l+r)/2)) with
   | true=>
    rw[if_pos rfl]
    refine run_place hp hk ha f l ((l+r)/2) (by omega) (by omega) (by omega) hl fun i hi hik=> ?_
    by_cases e:i=(l+r)/2
    ·rw[e];exact c
    ·exact T.tr _ _ _ c (pw _ _ (by omega) hik)
   | false=>
    rw[if_neg Bool.false_ne_true]
    have d:=T.to _ _ (hp.lt (by omega) _) (hp.lt (by omega) _) (hp.ne (i:=k) (j:=(l+r)/2) hk (by omega) (by omega)) c
    refine run_place hp hk ha f ((l+r)/2+1) r (by omega) h2 (by omega) (fun i hi=> ?_) hr
    by_cases e:i=(l+r)/2
    ·rw[e];exact d
    ·exact T.tr _ _ _ (pw _ _ (by omega) (by omega)) d
omit T in
theorem gt0_bub {p:Array Nat} {k d:Nat} (hk:k<p.size) (hd:d≤k) {i:Nat}:gt0 (bubble p k d) i=if i=k-d then gt0 p k else if k-d<i∧i≤k then gt0 p (i-1) else gt0 p i:=by
 have g: ∀(q:Array Nat) (k:Nat),gt0 q k=(q[k]?).getD 0:=fun q k=>by simp[gt0,Array.getD,getElem?_def];split<;>rfl
 have b:=getElem?_bubble hk d hd i
 rw[g,g p k,g p (i-1),g p i,b]
 by_cases c1:i=k-d
 ·rw[if_pos c1,if_pos c1]
 ·rw[if_neg c1,if_neg c1]
  by_cases c2:k-d<i∧i≤k
  ·rw[if_pos c2,if_pos c2]
  ·rw[if_neg c2,if_neg c2]
theorem run_bin: ∀(f:Nat) (p:Array Nat) (k:Nat),Plc n p→1≤k→k+f=n→Asc lt p 0 k→∃p',runT lt (kas_bin f p k)=p'∧Plc n p'∧Asc lt p' 0 n
 | 0,p,k,hp,h1,h2,ha=>⟨p,rfl,hp,by rw[←h2];exact ha⟩
 | f+1,p,k,hp,h1,h2,ha=>by
  obtain⟨l,g1,g2,g3,g4⟩:=run_place T hp (k:=k) (by omega) ha k 0 k (by omega) (Nat.le_refl _) (Nat.zero_le _) (fun i hi=>by omega) (fun i hi hk=>by omega)
  have e:runT lt (kas_bin (f+1) p k)=runT lt (kas_bin f (bubble p k (k-l)) (k+1)):=by
   show runT lt ((kas_place p k k 0 k).bind fun l=>kas_bin f (bubble p k (k-l)) (k+1))=_
   rw[runT_bind,g1]
  rw[e]
  have hs:=hp.size
  refine run_bin f _ (k+1) (hp.of (bubble_perm _ _ _)) (by omega) (by omega) fun i _ hb=> ?_
  rw[gt0_bub (by omega) (by omega),gt0_bub (by omega) (by omega)]
  have kl:k-(k-l)=l:=by omega
  rw[kl]
  by_cases c1:i=l
  ·rw[if_pos c1,if_neg (by omega),if_pos (by omega),show i+1-1=i by omega]
   exact g4 i (by omega) (by omega)
  ·rw[if_neg c1]
   by_cases c2:l<i
   ·rw[if_pos (by omega),if_neg (by omega),if_pos (by omega),show i+1-1=i-1+1 by omega]
    exact ha (i-1) (Nat.zero_le _) (by omega)
   ·rw[if_neg (by omega)]
    by_cases c3:i+1=l
    ·rw[if_pos c3]
     exact g3 i (by omega)
    ·rw[if_neg c3,if_neg (by omega)]
     exact ha i (Nat.zero_le _) (by omega)
theorem run_sort (hn:2≤n): ∃p,runT lt (kas_sort n)=p∧Plc n p∧Asc lt p 0 n:=by
 obtain⟨m,p,g1,g2,g3,g4,g5⟩:=run_count T (p:=List.toArray (List.range n)) (List.Perm.refl _) hn
 unfold kas_sort
 rw[runT_bind,g1]
 show∃p',runT lt (if m<n then kas_bin (n-max m 1) p (max m 1) else .ret p)=p'∧_
 rw[show max m 1=m by omega]
 by_cases q:m<n
 ·rw[if_pos q]
  exact run_bin T (n-m) p m g2 g3 (by omega) g5
 ·rw[if_neg q]
  refine⟨p,rfl,g2,?_⟩
  rw[show n=m by omega]
  exact g5
theorem outT_asc:(outT lt n).Pairwise fun i j=>lt i j=true:=by
 unfold outT
 by_cases h:n<2
 ·rw[if_pos h]
  rcases (show n=0∨n=1 by omega) with e | e<;>subst e
  ·exact .nil
  ·exact List.pairwise_singleton _ _
 ·rw[if_neg h]
  obtain⟨p,g1,g2,g3⟩:=run_sort T (by omega)
  rw[g1,List.pairwise_iff_getElem]
  intro i j hi hj hij
  rw[Array.length_toList] at hi hj
  have e: ∀k (h:k<p.size),p.toList[k]'(by rw[Array.length_toList];exact h)=gt0 p k:=fun k h=>by simp[gt0,Array.getD,h]
  rw[e i hi,e j hj]
  have hs:=g2.size
  have:=asc_pw T g3 (j-i-1) i (Nat.zero_le _) (by omega)
  rwa [show i+(j-i-1)+1=j by omega] at this
end
end L2.PU
namespace L2.PU
open PySem PySem.Spec PyProof.Rows
noncomputable def N1 (p:Keyed):Int:=numOf p.1
noncomputable def SL (l:List Keyed):Prop:=l.Pairwise fun p q=>N1 p≤N1 q
noncomputable def RunsOk:Nat→List (Nat×Nat×Nat)→List (List Keyed)→Prop
 | _,[],[]=>True
 | s,(b,n,_)::p,r::R=>b=s∧n=r.length∧0<n∧SL r∧RunsOk (s+n) p R
 | _,_,_=>False
structure TS (a0:List Keyed) (rest:List Keyed) (lo:Nat) (st:SortSt):Prop where
 kind:kindOf st=oneType'
 fail:failedOf st=none
 runs: ∃R,(arrOf st).toList=R.flatten++rest∧R.flatten.length=lo∧RunsOk 0 (pendingOf st).toList R
 perm:(arrOf st).toList.Perm a0
noncomputable def stand (t:SetTable) (h:Int):Nat→SetTable.Probe
 | 0=>t.probeStart h
 | n+1=>t.advance (stand t h n)
section
variable {prog:Program} {w:World} {K:Type} [DecidableEq K] {knd:KeyKind prog w K} {P:Value→Prop} {A:Around} {E:Value→Shared→Prop} {s:Shared}
noncomputable def TKey (knd:KeyKind prog w K) (h:Heap) (v:Value) (ks:List K):Prop:= ∃p,v= .ref p∧IsTupleKey knd h ks p
end
section
variable {prog:Program} {w:World} {K:Type} [DecidableEq K] {knd:KeyKind prog w K} {P:Value→Prop} {A:Around} {E:Value→Shared→Prop} {s:Shared}
theorem TKey.moved {h h':Heap} {v:Value} {ks:List K} (x:TKey knd h v ks) (hs: ∀p o,v= .ref p→h.get? p=some o→h'.get? p=some o):TKey knd h' v ks:=by
 obtain⟨p,rfl,o',items,n,ho',hc,hd',hi⟩:=x
 exact⟨p,rfl,o',items,n,hs p o' rfl ho',hc,hd',hi⟩
end
section
variable {prog:Program} {w:World} {A:Around} {E:Value→Shared→Prop} {s:Shared}
theorem TKey.inj {h h':Heap} {v:Value} {a b:List Str} (x:TKey (PySem.strKind prog w) h v a) (y:TKey (PySem.strKind prog w) h' v b) (k:Kps h h'):a=b:=by
 obtain⟨p,rfl,hp⟩:=x
 obtain⟨q,e,hq⟩:=y
 cases e
 obtain⟨o,items,n,ho,hc,hd,hi⟩:=hp
 exact IsTupleKey.inj (h:=h') ⟨o,items,n,k _ _ ho,hc,hd,hi⟩ hq
end
theorem Paired.len {α β:Type} {F:α→β→Prop}: ∀{l₁:List α} {l₂:List β},Paired F l₁ l₂→l₁.length=l₂.length
 | _,_,.nil=>rfl
 | _,_,.cons _ t=>congrArg (· +1) (Paired.len t)
theorem Paired.at {α β:Type} {F:α→β→Prop}: ∀{l₁:List α} {l₂:List β} {i:Nat} {a:α},Paired F l₁ l₂→l₁[i]? =some a→∃b,l₂[i]? =some b∧F a b
 | _,_,_,_,.nil,e=>by simp at e
 | _,_,0,_,.cons h _,e=>by simp at e;subst e;exact⟨_,rfl,h⟩
 | _,_,i+1,a,.cons _ t,e=>by
  obtain⟨b,h1,h2⟩:=Paired.at (i:=i) (a:=a) t (by simpa using e)
  exact⟨b,by simpa using h1,h2⟩
noncomputable def txtsD:List D→Option (List Str)
 | []=>some []
 | .str x::r=>match txtsD r with | some l=>some (x::l) | none=>none
 | _::_=>none
theorem txtsD_map (xs:List Str):txtsD (xs.map D.str)=some xs:=by
 induction xs with
 | nil=>rfl
 | cons x xs ih=>rw[List.map_cons,txtsD,ih]
theorem txtsD_V {K:PySem.W.Frag} {H:Hp}: ∀{ds:List D} {vs:List V} {xs:List Str},txtsD ds=some xs→IsL K H ds vs→vs=xs.map V.str
 | [],_,_,h,.nil=>by cases h;rfl
 | d::r,_,xs,h,.cons i t=>by
  unfold txtsD at h
  split at h
  ·rename_i e;cases e
  ·rename_i x r' e
   cases e
   split at h
   ·rename_i l e1
    cases h
    cases i
    rw[txtsD_V e1 t]
    rfl
   ·cases h
  ·cases h
theorem txA_of: ∀{xs:List Str} {its:List Value},Vals (xs.map V.str) its→TxA its xs
 | [],_,.nil=>trivial
 | _::_,_,.cons r t=>⟨r,txA_of t⟩
noncomputable def rLtU:R2:=fun x y H Q=>(∃i j,x= .str i∧y= .str j∧Q (.bl (decide (i.cps.toList<j.cps.toList))) H)∨(∃(a b:Addr) (xs ys:List Str),x= .ref a∧y= .ref b∧H a=some (.tup (xs.map V.str))∧H b=some (.tup (ys.map V.str))∧Q (.bl (lexS xs ys)) H)
noncomputable def gLtU:D→D→M D
 | .str i,.str j=>ok (.bl (decide (i.cps.toList<j.cps.toList)))
 | .tup xs,.tup ys=>match txtsD xs,txtsD ys with | some xs,some ys=>ok (.bl (lexS xs ys)) | _,_=>none
 | _,_=>none
section
variable {X:Cx} {B:Hp} {a b:Expr} {fa fb:Rho→M D} {pos:Pos}
theorem op_lt_tup {k:Nat} (hr:aCw k X.A):OpR X (compareOp .Lt) rLtU:=by
 intro pins s σ H x y v u Q I rx ry h
 rcases h with⟨i,j,rfl,rfl,q⟩ |⟨a,b,xs,ys,rfl,rfl,ha,hb,q⟩
 ·obtain⟨t,rfl⟩:=rx
  obtain⟨t',rfl⟩:=ry
  exact lt_str (aA8 I q rfl)
 ·cases rx;cases ry
  obtain⟨_,its,r1,td1⟩:=(show aBw X.prog X.w H s.heap a (.tup (xs.map V.str)) from I.hok a _ ha)
  obtain⟨_,jts,r2,td2⟩:=(show aBw X.prog X.w H s.heap b (.tup (ys.map V.str)) from I.hok b _ hb)
  exact lt_tup_txts td1.tup td2.tup (txA_of r1) (txA_of r2) (by have:=hr.un;omega) (aA8 I q rfl)
theorem pd_ltU {k:Nat} (hr:aCw k X.A) (ha:PD X B a fa) (hb:PD X B b fb):PD X B (.Compare a [.Lt] [b] pos) (b2 gLtU fa fb):=
 pd_cmp (op_lt_tup hr) (by
  intro H x y dx dy d Q ix iy e q
  unfold gLtU at e
  split at e
  ·cases ix;cases iy;cases e
   exact .inl ⟨_,_,rfl,rfl,q _ H (Same.refl H) (.bl _)⟩
  ·split at e
   ·rename_i xs ys e1 e2
    cases ix with
    | tup h1 r1=>
     cases iy with
     | tup h2 r2=>
      cases e
      have v1:=txtsD_V e1 r1
      have v2:=txtsD_V e2 r2
      subst v1 v2
      exact .inr ⟨_,_,_,_,rfl,rfl,h1,h2,q _ H (Same.refl H) (.bl _)⟩
   ·cases e
  ·cases e) (by
  intro x y c h
  unfold gLtU at h
  split at h
  ·cases h
  ·split at h<;>cases h
  ·cases h) ha hb (nomark _)
end
theorem ltc_iff (a b:Str):decide (a.cps.toList<b.cps.toList)= !leS b a:=by
 rw[Bool.eq_iff_iff,decide_eq_true_eq,Bool.not_eq_true',←Bool.not_eq_true,leS_iff]
 exact List.not_le.symm
theorem ltc_ir (a:Str):decide (a.cps.toList<a.cps.toList)=false:=by
 rw[ltc_iff]
 have:=leS_total a a
 rw[Bool.or_self] at this
 rw[this]
 rfl
theorem ltc_tr {a b c:Str} (h1:decide (a.cps.toList<b.cps.toList)=true) (h2:decide (b.cps.toList<c.cps.toList)=true):decide (a.cps.toList<c.cps.toList)=true:=
 decide_eq_true (List.lt_trans (of_decide_eq_true h1) (of_decide_eq_true h2))
theorem ltc_to {a b:Str} (ne:a≠b) (h:decide (a.cps.toList<b.cps.toList)=false):decide (b.cps.toList<a.cps.toList)=true:=by
 rw[ltc_iff] at h⊢
 cases q:leS a b with
 | false=>rfl
 | true=>
  have q2:leS b a=true:=by cases z:leS b a<;>simp_all
  exact absurd (leS_anti a b q q2) ne
theorem lex_ir: ∀(xs:List Str),lexS xs xs=false
 | []=>rfl
 | x::xs=>by unfold lexS;rw[if_pos rfl];exact lex_ir xs
theorem lex_tr: ∀{xs ys zs:List Str},lexS xs ys=true→lexS ys zs=true→lexS xs zs=true
 | [],[],_,h,_=>by cases h
 | [],_::_,[],_,h=>by cases h
 | [],_::_,_::_,_,_=>rfl
 | _::_,[],_,h,_=>by cases h
 | _::_,_::_,[],_,h=>by cases h
 | x::xs,y::ys,z::zs,h1,h2=>by
  unfold lexS at h1 h2⊢
  by_cases e1:x=y
  ·subst e1
   rw[if_pos rfl] at h1
   by_cases e2:x=z
   ·subst e2
    rw[if_pos rfl] at h2⊢
    exact lex_tr h1 h2
   ·rw[if_neg e2] at h2⊢
    exact h2
  ·rw[if_neg e1] at h1
   by_cases e2:y=z
   ·subst e2
    rw[if_neg e1]
    exact h1
   ·rw[if_neg e2] at h2
    have t:=ltc_tr h1 h2
    rw[if_neg (fun e=>by rw[e,ltc_ir] at t;cases t)]
    exact t
theorem lex_to: ∀{xs ys:List Str},xs≠ys→lexS xs ys=false→lexS ys xs=true
 | [],[],n,_=>absurd rfl n
 | [],_::_,_,h=>by cases h
 | _::_,[],_,_=>rfl
 | x::xs,y::ys,n,h=>by
  unfold lexS at h⊢
  by_cases e:x=y
  ·subst e
   rw[if_pos rfl] at h⊢
   exact lex_to (fun z=>n (by rw[z])) h
  ·rw[if_neg e] at h
   rw[if_neg (Ne.symm e)]
   exact ltc_to e h
end L2.PU
namespace L2.PU
open PySem PySem.Spec PyProof.Rows PySem.W
noncomputable def srtT (ts:List (List Str)):List (List Str):=(outT (fun i j=>lexS (ts.getD i []) (ts.getD j [])) ts.length).map fun i=>ts.getD i []
theorem rangeT_getD (ts:List (List Str)):(List.range ts.length).map (fun i=>ts.getD i [])=ts:=by
 apply List.ext_getElem (by simp)
 intro i h1 h2
 simp[h2]
theorem srtT_perm (ts:List (List Str)):(srtT ts).Perm ts:=by
 have:=(outT_perm (fun i j=>lexS (ts.getD i []) (ts.getD j [])) ts.length).map fun i=>ts.getD i []
 rw[rangeT_getD] at this
 exact this
theorem srtT_asc {ts:List (List Str)} (nd:ts.Nodup):(srtT ts).Pairwise fun a b=>lexS a b=true:=by
 unfold srtT
 rw[List.pairwise_map]
 refine outT_asc ⟨fun i=>lex_ir _,fun a b c h1 h2=>lex_tr h1 h2,fun i j hi hj hne hf=> ?_⟩
 refine lex_to (fun e=>hne ?_) hf
 have e1:ts[i]? =ts[j]? :=by
  rw[List.getD_eq_getElem?_getD,List.getD_eq_getElem?_getD,List.getElem?_eq_getElem hi,List.getElem?_eq_getElem hj] at e
  rw[List.getElem?_eq_getElem hi,List.getElem?_eq_getElem hj]
  simpa using e
 exact (List.getElem?_inj hi nd).mp e1
section
variable {prog:Program} {w:World} {A:Around} {E:Value→Shared→Prop} {s:Shared}
theorem lex_ask {fin:Bool} {C:Bool→Shared→Prop}: ∀{xs ys:List Str} {vs us:List Value} (i:Nat),ItemsAre (PySem.strKind prog w) xs vs→ItemsAre (PySem.strKind prog w) ys us→fin=decide (xs.length<ys.length)→C (lexS xs ys) s→KatLex prog w A true fin C (vs.zip us) i s:=by
 intro xs
 induction xs with
 | nil=>
  intro ys vs us i h1 h2 hf h
  cases h1
  rw[List.zip_nil_left]
  rw[lexS_ends (.inl rfl),←hf] at h
  exact kat_nil h
 | cons x xs ih=>
  intro ys vs us i h1 h2 hf h
  cases h1 with
  | cons k1 r1=>
   cases h2 with
   | nil=>
    rw[List.zip_nil_right]
    rw[lexS_ends (.inr rfl),←hf] at h
    exact kat_nil h
   | cons k2 r2=>
    rename_i y _ ys _
    rw[List.zip_cons_cons]
    refine kat_cons ((PySem.strKind prog w).eqBool k1 k2 ?_)
    unfold lexS at h
    by_cases e:x=y
    ·rw[if_pos e] at h
     rw[decide_eq_true e]
     exact kat_yes (ih (i+1) r1 r2 (by rw[hf];simp) h)
    ·rw[if_neg e] at h
     rw[decide_eq_false e]
     obtain⟨t,rfl⟩:=Value.isStrOf_shape k1
     obtain⟨u,rfl⟩:=Value.isStrOf_shape k2
     refine kat_no ?_
     cases hi:(true&&i==0) with
     | true=>exact oneLt_str h
     | false=>exact kat_one _ _ (lt_str (show W.BoolBack C (.bool _) s from h))
theorem ask_txts {a b:Addr} {xs ys:List Str} {C:Bool→Shared→Prop} (ha:IsTupleKey (PySem.strKind prog w) s.heap xs a) (hb:IsTupleKey (PySem.strKind prog w) s.heap ys b) (h:C (lexS xs ys) s):wpAny (model prog w) A (keyLt' (tuples' true) (.ref a) (.ref b)) C E s:=by
 obtain⟨o,its,n,h1,_,h2,h3⟩:=ha
 obtain⟨o',jts,n',g1,_,g2,g3⟩:=hb
 refine kat_lt h1 h2 g1 g2 (lex_ask 0 h3 g3 ?_ h)
 rw[h3.length,g3.length]
 simp
theorem firsts_txt {h:Heap}: ∀(vs:List Value),(∀v∈vs,∃ks,TKey (PySem.strKind prog w) h v ks∧ks≠[])→∃fs,KatTups h vs fs∧fs.length=vs.length∧∀v∈fs,∃x t,v=Value.str x t
 | [],_=>⟨[],trivial,rfl,fun v hv=>by simp at hv⟩
 | v::vs,hp=>by
  obtain⟨fs,h1,h2,h3⟩:=firsts_txt vs fun b hb=>hp b (List.mem_cons_of_mem _ hb)
  obtain⟨ks,⟨a,rfl,o,items,n,g1,g2,g3,g4⟩,hne⟩:=hp v List.mem_cons_self
  obtain⟨il⟩:=items
  cases g4 with
  | nil=>exact absurd rfl hne
  | cons k1 k2=>
   obtain⟨t,rfl⟩:=Value.isStrOf_shape k1
   refine⟨_::fs,⟨⟨a,o,_,n,rfl,g1,g2,g3,by simp;rfl⟩,h1⟩,by rw[List.length_cons,List.length_cons,h2],fun v hv=> ?_⟩
   rcases List.mem_cons.mp hv with e | e
   ·exact⟨_,t,e⟩
   ·exact h3 v e
end
end L2.PU
namespace L2.PU
open PySem PySem.Spec PyProof.Rows
theorem look_sh {ρ:Rho} {j:Nat} {d:D} (h:ρ[j]? =some (some (.sh d))):look j ρ=ok d:=by unfold look;rw[h];rfl
theorem cmpL_one {α:Type} {k:Nat} {fe:Rho→M D} {ρ:Rho} {e:α→D} {g:α→D}: ∀(l:List α),(∀x∈l,fe (ρ.set k (some (.sh (e x))))=ok (g x)∧(g x).imm=true)→cmpL [k] h1 (fun _=>ok true) fe (l.map e) ρ=ok (l.map g)
 | [],_=>rfl
 | x::l,h=>by
  obtain⟨e1,e2⟩:=h x List.mem_cons_self
  have ih:=cmpL_one (g:=g) l fun p hp=>h p (List.mem_cons_of_mem _ hp)
  rw[List.map_cons,List.map_cons]
  unfold cmpL
  show (match fe (ρ.set k (some (.sh (e x)))) with
    | some (.ok r)=>if r.imm=true then bnd (cmpL [k] h1 (fun _=>ok true) fe (l.map e) ρ) fun rs=>ok (r::rs) else none
    | _=>none)=_
  rw[e1,ih]
  show (if (g x).imm=true then bnd (ok (l.map g)) fun rs=>ok (g x::rs) else none)=_
  rw[if_pos e2]
  rfl
theorem aD4 {α:Type} {m k:Nat} {it:Rho→M (List D)} {fe:Rho→M D} {ρ:Rho} {l:List α} {e:α→D} {g:α→D} (hi:it ρ=ok (l.map e)) (hl:l.length≤1000)
  (h: ∀x∈l,fe ((ext m (free ρ)).set k (some (.sh (e x))))=ok (g x)∧(g x).imm=true):cmp m it [k] h1 (fun _=>ok true) fe ρ=ok (.lst (l.map g)):=by
 unfold cmp
 rw[hi,aDk,if_pos (by rw[List.length_map];omega),cmpL_one l h,aDk]
theorem aDw {α:Type} [DecidableEq α]: ∀{l m:List α},l.Nodup→(∀x∈l,x∈m)→l.length≤m.length
 | [],_,_,_=>Nat.zero_le _
 | x::l,m,hn,hs=>by
  rw[List.nodup_cons] at hn
  have hx:=hs x List.mem_cons_self
  have:=aDw (l:=l) (m:=m.erase x) hn.2 fun y hy=>(List.mem_erase_of_ne (a:=y) (b:=x) (fun e=>hn.1 (by rw[←e];exact hy))).mpr (hs y (List.mem_cons_of_mem _ hy))
  rw[List.length_erase_of_mem hx] at this
  have:0<m.length:=List.length_pos_of_mem hx
  rw[List.length_cons]
  omega
noncomputable def r4:List Nat:=[0,1,2,3]
noncomputable def L35:List (List Nat):=[[]]++(r4.map fun a=> [a])++(r4.flatMap fun a=>(r4.filter fun b=>decide (a≤b)).map fun b=> [a,b])++(r4.flatMap fun a=>(r4.filter fun b=>decide (a≤b)).flatMap fun b=>(r4.filter fun c=>decide (b≤c)).map fun c=> [a,b,c])
theorem w1: ∀a:Fin 4,(L35.any fun l=>l.isPerm [a.1])=true:=by decide
theorem w2: ∀a b:Fin 4,(L35.any fun l=>l.isPerm [a.1,b.1])=true:=by decide
theorem w3: ∀a b c:Fin 4,(L35.any fun l=>l.isPerm [a.1,b.1,c.1])=true:=by decide
noncomputable def sWh (t:Rho→M Bool) (F:Rho→Option Out):Nat→Rho→Option Out
 | 0,_=>none
 | n+1,ρ=>lft (t ρ) ρ fun b=>if b=true then (match F ρ with
  | some (.nx ρ')=>sWh t F n ρ'
  | some (.ct ρ')=>sWh t F n ρ'
  | some (.bk ρ')=>some (.nx ρ')
  | some (.rt d)=>some (.rt d)
  | some (.ex c ρ')=>some (.ex c ρ')
  | none=>none) else some (.nx ρ)
noncomputable def sWhile (t:Rho→M Bool) (F:Rho→Option Out):Rho→Option Out:=sWh t F 100000
theorem sWh_stop {t:Rho→M Bool} {F:Rho→Option Out} {ρ:Rho} (h:t ρ=ok false) (n:Nat):sWh t F (n+1) ρ=some (.nx ρ):=by
 unfold sWh
 rw[h,lft_ok,if_neg Bool.false_ne_true]
section
variable {X:Cx} {B:Hp} {c:Expr} {body:List Stmt} {tc:Rho→M Bool} {F:Rho→Option Out} {pos:Pos}
theorem pds_while (hp:PassesOwn (model X.prog X.w) X.A X.env X.xe) (hc:PDT X B c tc) (hb:PDB X B body F):PDS X B (.While c body [] pos) (sWhile tc F):=by
 refine PS.of (ps_while hp hc hb) fun E σ H h=> ?_
 obtain⟨ρ,r,h⟩:=h
 refine⟨fun m σ H=> ∃ρ,Rel X.K B ρ σ H∧GoodO X B E (sWh tc F m ρ),⟨100000,ρ,r,h⟩,?_⟩
 rintro m σ H ⟨ρ,r,h⟩
 cases m with
 | zero=>exact False.elim h
 | succ m=>
  unfold sWh at h
  refine⟨ρ,r,(aBa r h).imp fun b h1 H1 e1=> ?_⟩
  cases b with
  | false=>rw[if_neg Bool.false_ne_true] at h1⊢;exact h1 σ H1 (r.mono e1)
  | true=>
   rw[if_pos rfl] at h1⊢
   refine⟨fun σ' H'=> ∃ρ',Rel X.K B ρ' σ' H'∧GoodO X B E (sWh tc F m ρ'),fun σ' H' q=>⟨m,Nat.lt_succ_self m,q⟩,ρ,r.mono e1,?_⟩
   cases qf:F ρ with
   | none=>rw[qf] at h1;exact False.elim h1
   | some o=>
    rw[qf] at h1
    cases o with
    | nx ρ2=>exact fun σ3 H3 r3=>⟨ρ2,r3,h1⟩
    | ct ρ2=>exact fun σ3 H3 r3=>⟨ρ2,r3,h1⟩
    | bk ρ2=>exact h1
    | rt d=>exact h1
    | ex c ρ2=>exact h1
end
section
variable {K:PySem.W.Frag} {H:Hp}
theorem isK_length: ∀{kvs:List (Key×D)} {vs:List (Key×V)},IsK K H kvs vs→kvs.length=vs.length
 | _,_,.nil=>rfl
 | _,_,.cons _ r=>by rw[List.length_cons,List.length_cons,isK_length r]
theorem isK_val {k:Key}: ∀{kvs:List (Key×D)} {vs:List (Key×V)},IsK K H kvs vs→(valD kvs k=none∧valV vs k=none)∨∃d v,valD kvs k=some d∧valV vs k=some v∧Is K H d v
 | _,_,.nil=> .inl ⟨rfl,rfl⟩
 | _,_,.cons (x:=x) (d:=d) (v:=v) i r=>by
  by_cases e:x=k
  ·exact .inr ⟨d,v,by simp[valD,e],by simp[valV,e],i⟩
  ·have h1: ∀ds,valD ((x,d)::ds) k=valD ds k:=fun ds=>by simp[valD,List.find?_cons,e]
   have h2: ∀ds,valV ((x,v)::ds) k=valV ds k:=fun ds=>by simp[valV,List.find?_cons,e]
   rw[h1,h2]
   exact isK_val r
theorem isK_any {k:Key}: ∀{kvs:List (Key×D)} {vs:List (Key×V)},IsK K H kvs vs→(kvs.any fun kv=>decide (kv.1=k))=(vs.any fun kv=>decide (kv.1=k))
 | _,_,.nil=>rfl
 | _,_,.cons _ r=>by rw[List.any_cons,List.any_cons,isK_any r]
theorem isK_map {k:Key} {d:D} {v:V} (i:Is K H d v): ∀{kvs:List (Key×D)} {vs:List (Key×V)},IsK K H kvs vs→IsK K H (kvs.map fun kv=>if kv.1=k then (kv.1,d) else kv) (vs.map fun kv=>if kv.1=k then (kv.1,v) else kv)
 | _,_,.nil=> .nil
 | _,_,.cons (x:=x) i' r=>by
  rw[List.map_cons,List.map_cons]
  by_cases e:x=k
  ·rw[if_pos e,if_pos e];exact .cons i (isK_map i r)
  ·rw[if_neg e,if_neg e];exact .cons i' (isK_map i r)
theorem isK_snoc {k:Key} {d:D} {v:V} (i:Is K H d v): ∀{kvs:List (Key×D)} {vs:List (Key×V)},IsK K H kvs vs→IsK K H (kvs++ [(k,d)]) (vs++ [(k,v)])
 | _,_,.nil=> .cons i .nil
 | _,_,.cons i' r=> .cons i' (isK_snoc i r)
theorem isK_put {k:Key} {d:D} {v:V} (i:Is K H d v) {kvs:List (Key×D)} {vs:List (Key×V)} (r:IsK K H kvs vs):IsK K H (putT kvs k d) (putK vs k v):=by
 unfold putT putK
 rw[isK_any (k:=k) r]
 split
 ·exact isK_map i r
 ·exact isK_snoc i r
end
section
variable {X:Cx} {B:Hp} {e a b:Expr} {fa fb fk:Rho→M D} {pos pos' p pos2 cpos apos spos:Pos} {x:Str} {i j:Nat}
noncomputable def gDix:D→D→M D:=fun d k=>match d,keyOf k with
 | .dk kvs,some key=>(match valD kvs key with | some v=>ok v | none=>none)
 | _,_=>none
theorem DGet.ofK {K:PySem.W.Frag} {H:Hp} {kvs:List (Key×D)} {v:V} {kd:D} {u:V} {key:Key} (i:Is K H (.dk kvs) v) (ik:Is K H kd u) (hk:keyOf kd=some key): ∃a vs,v= .ref a∧Rd H a (.dK vs)∧IsK K H kvs vs∧u=kV key∧DGet H a u (valV vs key):=by
 cases i with
 | dk hh rr=>
  have e:=keyOf_V ik hk
  subst e
  exact⟨_,_,rfl,hh,rr,rfl,.inl ⟨_,_,hh,rfl,rfl⟩⟩
theorem pd_dix {k:Nat} (hr:aCw k X.A) (ha:PD X B a fa) (hb:PD X B b fb) (hs:NoSl b:=by intro _ _;rfl):PD X B (.Subscript a b pos) (b2 gDix fa fb):=by
 refine PE.of (pe_dget (hu_of hr) ha hb hs) fun σ H Q h=> ?_
 obtain⟨ρ,r1,h⟩:=h
 refine⟨ρ,r1,(Res.bind h).imp fun dx h1 v H1 e1 i1=>⟨ρ,r1.mono e1,(Res.bind h1).mono e1 fun dy h2 u H2 e2 i2=> ?_⟩⟩
 unfold gDix at h2
 split at h2
 ·rename_i kvs key hk
  split at h2
  ·rename_i d hd
   obtain⟨a,vs,rfl,g1,g2,g3,g4⟩:=DGet.ofK (i1.mono e2) i2 hk
   rcases isK_val (k:=key) g2 with⟨z1,z2⟩ |⟨d',v',z1,z2,i'⟩
   ·rw[z1] at hd;cases hd
   ·rw[z1] at hd
    cases hd
    rw[z2] at g4
    exact⟨a,v',rfl,g4,h2 v' H2 (e1.trans e2) i'⟩
  ·exact False.elim h2
 ·exact False.elim h2
noncomputable def gDin (neg:Bool):D→D→M D:=fun k d=>match d,keyOf k with
 | .dk kvs,some key=>ok (.bl (if neg then !(valD kvs key).isSome else (valD kvs key).isSome))
 | _,_=>none
noncomputable def rDin (neg:Bool):R2:=fun x y H Q=> ∃a o,y= .ref a∧DGet H a x o∧Q (.bl (if neg then !o.isSome else o.isSome)) H
theorem din_noerr (neg:Bool):NoErr (gDin neg):=by
 intro x y c h
 unfold gDin at h
 split at h<;>cases h
theorem r_din (neg:Bool):R2ok X (rDin neg) (gDin neg):=by
 intro H x y dx dy d Q ix iy e q
 unfold gDin at e
 split at e
 ·rename_i kvs key hk
  cases e
  obtain⟨a,vs,rfl,g1,g2,g3,g4⟩:=DGet.ofK iy ix hk
  have hs:(valD kvs key).isSome=(valV vs key).isSome:=by
   rcases isK_val (k:=key) g2 with⟨z1,z2⟩ |⟨d',v',z1,z2,i'⟩<;>rw[z1,z2]<;>rfl
  refine⟨a,_,rfl,g4,?_⟩
  rw[←hs]
  exact q _ H (Same.refl H) (.bl _)
 ·cases e
theorem op_din {k:Nat} (hr:aCw k X.A):OpR X (compareOp .In) (rDin false):=by
 intro pins s σ H x y v u Q I rx ry h
 obtain⟨a,o,rfl,g,q⟩:=h
 cases ry
 exact d_in (hu_of hr) I g rx fun s' I'=>aA8 I' q rfl
theorem pdt_din {k:Nat} (hr:aCw k X.A) (ha:PD X B a fa) (hb:PD X B b fb) (hm:behindInMarks .In b=false:=by rfl):PDT X B (.Compare a [.In] [b] pos) (aAy (b2 (gDin false) fa fb)):=pdt_cmp (op_din hr) (r_din false) (din_noerr false) ha hb hm
noncomputable def lenK:D→M D
 | .dk kvs=>ok (.int kvs.length)
 | _=>none
theorem call_lenRd:CallR X (.builtin "len") (fun xs H Q=> ∃a kvs,xs=[V.ref a]∧Rd H a (.dK kvs)∧Q (.int kvs.length) H):=by
 intro pins s σ H xs us Q I r h
 obtain⟨a,kvs,rfl,ha,q⟩:=h
 obtain⟨u,rfl,ru⟩:=vals1 r
 cases ru
 exact d_len I ha fun t s' I'=>⟨.int kvs.length,H,I',⟨t,rfl⟩,q⟩
theorem pd_lenK (hg:Gl X "len") (hm:X.mg "len"=none) (ha:PD X B e fa) (he:starEach [e] X.env=[(false,eval e X.env)]:=by exact star1 rfl):PD X B (.Call (.Name "len" p) [e] [] pos) (f1 lenK fa):=by
 refine PE.of (aC4 call_lenRd hg hm PySem.boot_len (aA4 ha aBx he) (he:=by rw[he];rfl) (hpl:=by rfl)) fun σ H Q h=> ?_
 obtain⟨ρ,r1,h⟩:=h
 refine⟨ρ,r1,(Res.bind h).imp fun d h1 v H1 e1 i1=> ?_⟩
 cases i1 with
 | dk hh r=>exact⟨_,_,rfl,hh,by rw[←isK_length r];exact h1 _ H1 e1 (.int _)⟩
 | _=>exact False.elim h1
noncomputable def sNewK (i:Nat):Rho→Option Out:=fun ρ=>some (.nx (ρ.set i (some (.ow (.k [])))))
theorem pds_newK (hN:X.N.Nodup) (hi:X.N[i]? =some x) (hx:Loc X.env.scope x) (hs:swapsWith (.Dict [] [] p) (some (.Name x pos')) pos.line X.env=pure false:=by rfl) (hf:X.fn x=true∨X.env.scope.names.lookup x=some .local:=by first | exact .inl rfl | exact .inr rfl | assumption):
  PDS X B (.Assign [.Name x pos'] (.Dict [] [] p) pos) (sNewK i):=by
 refine PS.of (ps_set hN hi hx pe_dnewK hs hf) fun E σ H h=> ?_
 obtain⟨ρ,r,h⟩:=h
 intro l hl
 exact h _ _ (r.ow_new (o:= .k []) hl (fun _ _=>IsK.nil) (fun _ _=>IsK.nil))
theorem Rel.oneK {K:PySem.W.Frag} {B H:Hp} {ρ:Rho} {σ:St} {kvs:List (Key×D)} (r:Rel K B ρ σ H) (qi:ρ[i]? =some (some (.ow (.k kvs)))):
  ∃(O:Nat→Option Addr) (a:Addr) (vs:List (Key×V)),(∀i j a,O i=some a→O j=some a→i=j)∧OwnK H O∧Same B (Off H O)∧ρ.length=σ.length∧(∀i sv,ρ[i]? =some (some sv)→Slot K H O σ i sv)∧
   O i=some a∧σ[i]? =some (some (.ref a))∧H a=some (.dK vs)∧IsK K (Off H O) kvs vs:=by
 obtain⟨O,h1,ho,h2,hl,h3⟩:=r
 obtain⟨a,w,z1,z2,z3,z4⟩:=(show Slot K H O σ i (.ow (.k kvs)) from h3 i _ qi)
 cases w<;>first | exact False.elim z4 | skip
 exact⟨O,a,_,h1,ho,h2,hl,h3,z1,z2,z3,z4⟩
noncomputable def sPutK (i:Nat) (fk f:Rho→M D):Rho→Option Out:=fun ρ=>match ρ[i]? with
 | some (some (.ow (.k kvs)))=>lft (f ρ) ρ fun d=>lft (fk ρ) ρ fun kd=>(match keyOf kd with
  | some key=>if d.imm=true∧kvs.length<100000 then some (.nx (ρ.set i (some (.ow (.k (putT kvs key d)))))) else none
  | none=>none)
 | _=>none
theorem pds_putK {k:Nat} (hr:aCw k X.A) (i:Nat) {x:Str} (hk:PD X B b fk) (he:PD X B e fa) (hN:X.N[i]? =some x:=by rfl) (hv:Vis X.env.scope x:=by first | exact Or.inl rfl | exact Or.inr (Or.inl rfl) | exact Or.inr (Or.inr rfl))
  (hd:(x==("__debug__":Str))=false:=by decide) (hcd:(x==("__classdict__":Str))=false:=by decide) (hs:swapsWith e (some (.Subscript (.Name x p) b pos')) pos.line X.env=pure false:=by rfl):
  PDS X B (.Assign [.Subscript (.Name x p) b pos'] e pos) (sPutK i fk fa):=by
 refine PS.of (ps_dput (hu_of hr) (pe_var hN hv hd hcd) hk he hs) fun E σ H h=> ?_
 obtain⟨ρ,r,h⟩:=h
 unfold sPutK at h
 split at h
 ·rename_i kvs qi
  refine⟨ρ,r,(aBa r h).imp fun d h1 v H1 s1 i1=> ?_⟩
  obtain⟨O,a,vs,g1,go,g2,gl,g3,z1,z2,z3,z4⟩:=(r.mono s1).oneK qi
  refine⟨.ref a,z2,ρ,r.mono s1,Res.mono (Same.refl _) (aBa (r.mono s1) h1) fun kd h2 u H2 s2 i2=> ?_⟩
  split at h2
  ·rename_i key hkey
   split at h2
   ·rename_i hh
    clear g1 go g2 gl g3 z1 z3 z4
    obtain⟨O2,a',vs2,g1,go,g2,gl,g3,z1,z2',z3,z4⟩:=((r.mono s1).mono s2).oneK qi
    have ea:a=a':=by rw[z2] at z2';cases z2';rfl
    rw[ea]
    have eu:=keyOf_V i2 hkey
    rw[eu]
    refine⟨a',_,rfl,DPut.k z3 (by rw[←isK_length z4];exact Nat.lt_trans hh.2 (by decide)),?_⟩
    exact h2 _ _ (Rel.ow_put O2 g1 go g2 gl g3 qi z1 z2' (o':= .k (putT kvs key d)) (w':= .dK (putK vs2 key v)) (isK_put (off_imm go hh.1 (i1.mono s2)) z4))
   ·exact False.elim h2
  ·exact False.elim h2
 ·exact False.elim h
end
noncomputable def srtN (ns:List Int):List Int:=ns.mergeSort fun a b=>decide (a≤b)
theorem srtN_perm (ns:List Int):(srtN ns).Perm ns:=List.mergeSort_perm _ _
theorem srtN_pair (ns:List Int):(srtN ns).Pairwise (· ≤ ·):=by
 have h:=List.pairwise_mergeSort (le:=fun a b:Int=>decide (a≤b)) (fun a b c h1 h2=>by simp at h1 h2⊢;omega) (fun a b=>by simp;omega) ns
 exact h.imp fun h=>by simpa using h
theorem srtN_of {xs ys:List Int} (hs:ys.Pairwise (· ≤ ·)) (hp:ys.Perm xs):ys=srtN xs:=
 List.Perm.eq_of_pairwise (fun a b _ _ h1 h2=>Int.le_antisymm h1 h2) hs (srtN_pair xs) (hp.trans (srtN_perm xs).symm)
theorem srtN_len (ns:List Int):(srtN ns).length=ns.length:=(srtN_perm ns).length_eq
noncomputable def numL:List D→Option (List Int)
 | []=>some []
 | .int x::ds=>match numL ds with | some xs=>some (x::xs) | none=>none
 | _::_=>none
theorem numL_map (xs:List Int):numL (xs.map D.int)=some xs:=by
 induction xs with
 | nil=>rfl
 | cons x r ih=>rw[List.map_cons];unfold numL;rw[ih]
theorem numL_eq (ds:List D) {xs:List Int} (h:numL ds=some xs):ds=xs.map D.int:=by
 induction ds generalizing xs with
 | nil=>cases h;rfl
 | cons d ds ih=>
  unfold numL at h
  split at h
  ·cases‹_::_=[]›
  ·rename_i e
   cases e
   split at h
   ·rename_i ys hy
    cases h
    rw[ih hy];rfl
   ·cases h
  ·cases h
theorem isl_num {K:PySem.W.Frag} {H:Hp}: ∀(xs:List Int),IsL K H (xs.map D.int) (xs.map V.int)
 | []=> .nil
 | x::xs=> .cons (.int x) (isl_num xs)
theorem nums_vals: ∀{vs:List Value} {xs:List Int},IntsAre vs xs→Vals (xs.map V.int) vs
 | _,_,.nil=> .nil
 | _,_,.cons y t r=> .cons ⟨t,rfl⟩ (nums_vals r)
theorem nums_are {K:PySem.W.Frag} {H:Hp}: ∀{xs:List Int} {vs:List V} {its:List Value},IsL K H (xs.map D.int) vs→Vals vs its→IntsAre its xs
 | [],_,_,.nil,r=>by cases r;exact .nil
 | x::xs,_,_,.cons h q,r=>by
  cases h
  cases r with
  | cons r1 r2=>
   obtain⟨t,rfl⟩:=r1
   exact .cons x t (nums_are q r2)
theorem items_txt {prog:Program} {w:World}: ∀{ks:List Str} {its:List Value},Vals (ks.map V.str) its→ItemsAre (PySem.strKind prog w) ks its
 | [],_,r=>by cases r;exact .nil
 | k::ks,_,r=>by
  cases r with
  | cons r1 r2=>
   obtain⟨t,rfl⟩:=r1
   exact .cons (by simp[PySem.strKind,Value.isStrOf]) (items_txt r2)
theorem txt_key {P:Program} {w:World} {H:Hp} {h:Heap} {a:Addr} {ks:List Str} (ok:HOk P w H h) (e:H a=some (.tup (ks.map V.str))):IsTupleKey (PySem.strKind P w) h ks a:=by
 obtain⟨_,its,r,o,h1,h2,⟨n,h3⟩,_⟩:=(show aBw P w H h a (.tup (ks.map V.str)) from ok a _ e)
 exact⟨o,its.toArray,n,h1,h2,h3,by simpa using items_txt r⟩
noncomputable def TupV (H:Hp) (v:Value):Prop:= ∃p ks,v= .ref p∧H p=some (.tup ((ks:List Str).map V.str))
theorem str_inj: ∀{a b:List Str},a.map V.str=b.map V.str→a=b
 | [],[],_=>rfl
 | [],_::_,h=>by simp at h
 | _::_,[],h=>by simp at h
 | x::a,y::b,h=>by
  rw[List.map_cons,List.map_cons] at h
  injection h with h1 h2
  injection h1 with h1
  rw[h1,str_inj h2]
noncomputable abbrev TupL (H:Hp):List V→List (List Str)→Prop:=Paired fun v ks=> ∃p,v= .ref p∧H p=some (.tup ((ks:List Str).map V.str))
section
variable {X:Cx} {B:Hp} {e a b:Expr} {fa fb:Rho→M D} {pos p p2 pos2:Pos}
noncomputable def tupsL:List D→Option (List (List Str))
 | []=>some []
 | .tup ds::r=>match strL ds,tupsL r with | some x,some l=>some (x::l) | _,_=>none
 | _::_=>none
theorem tupsL_eq (ds:List D) {l:List (List Str)} (h:tupsL ds=some l):ds=l.map fun x=>D.tup (x.map D.str):=by
 induction ds generalizing l with
 | nil=>cases h;rfl
 | cons d ds ih=>
  unfold tupsL at h
  split at h
  ·cases‹_::_=[]›
  ·rename_i e
   cases e
   split at h
   ·rename_i x l' hx hl
    cases h
    rw[ih hl,strL_eq _ hx];rfl
   ·cases h
  ·cases h
theorem isl_strs {K:PySem.W.Frag} {H:Hp} {xs:List Str} {vs:List V} (h:IsL K H (xs.map D.str) vs):vs=xs.map V.str:=by
 induction xs generalizing vs with
 | nil=>cases h;rfl
 | cons x xs ih=>
  cases h with
  | cons h1 h2=>cases h1;rw[ih h2];rfl
theorem isl_tups {K:PySem.W.Frag} {H:Hp} {l:List (List Str)} {vs:List V} (h:IsL K H (l.map fun x=>D.tup (x.map D.str)) vs):TupL H vs l:=by
 induction l generalizing vs with
 | nil=>cases h;exact .nil
 | cons x l ih=>
  cases h with
  | cons h1 h2=>
   refine .cons ?_ (ih h2)
   cases h1 with
   | tup hh rr=>rw[isl_strs rr] at hh;exact⟨_,rfl,hh⟩
end
section
variable {X:Cx} {B:Hp} {e a b e2:Expr} {fa fb:Rho→M D} {pos p p2 pos2 p3 pos3:Pos}
theorem out_vals {P:Program} {w:World} {H:Hp} {h:Heap} (ok:HOk P w H h): ∀{out:List Value} {ts:List (List Str)},Paired (fun v ks=>TupV H v∧TKey (PySem.strKind P w) h v ks) out ts→∃vs,Vals vs out∧TupL H vs ts
 | _,_,.nil=>⟨[],.nil,.nil⟩
 | _,_,.cons ⟨⟨p,ks',e1,e2⟩,q⟩ r=>by
  obtain⟨vs,h1,h2⟩:=out_vals ok r
  subst e1
  have q':TKey (PySem.strKind P w) h (.ref p) ks':=⟨p,rfl,txt_key ok e2⟩
  have:=TKey.inj q' q (fun _ _ e=>e)
  subst this
  exact⟨.ref p::vs,.cons rfl h1,.cons ⟨p,rfl,e2⟩ h2⟩
theorem tups_isl {K:PySem.W.Frag} {H:Hp}: ∀{vs:List V} {l:List (List Str)},TupL H vs l→IsL K H (l.map fun x=>D.tup (x.map D.str)) vs
 | _,_,.nil=> .nil
 | _,_,.cons ⟨p,e1,e2⟩ r=>by
  subst e1
  exact .cons (.tup e2 (isl_str _)) (tups_isl r)
end
theorem txt_key2 {P:Program} {w:World} {prog:Program} {w':World} {H:Hp} {h:Heap} {a:Addr} {ks:List Str} (ok:HOk P w H h) (e:H a=some (.tup (ks.map V.str))):IsTupleKey (PySem.strKind prog w') h ks a:=by
 obtain⟨_,its,r,o,h1,h2,⟨n,h3⟩,_⟩:=(show aBw P w H h a (.tup (ks.map V.str)) from ok a _ e)
 exact⟨o,its.toArray,n,h1,h2,h3,by simpa using items_txt r⟩
noncomputable def eqK (H:Hp) (k:List Str):Value→Bool
 | .ref p=>match H p with | some (.tup vs)=>decide (vs=k.map V.str) | _=>false
 | _=>false
theorem eqK_at {H:Hp} {k ks:List Str} {p:Addr} (e:H p=some (.tup (ks.map V.str))):eqK H k (.ref p)=decide (ks=k):=by
 have e1:eqK H k (.ref p)=(match H p with | some (.tup vs)=>decide (vs=k.map V.str) | _=>false):=rfl
 rw[e1,e]
 show decide (ks.map V.str=k.map V.str)=_
 by_cases h:ks=k
 ·subst h;rw[decide_eq_true rfl,decide_eq_true rfl]
 ·rw[decide_eq_false h,decide_eq_false fun q=>h (str_inj q)]
section
variable {X:Cx} {B:Hp} {a b:Expr} {fa fb:Rho→M D} {pos:Pos}
theorem eqK_all {A:Around} {s:Shared} {P:Program} {w:World} {H:Hp} {k:List Str} {q:Addr} (hu:A.units<cLine) (ok:HOk P w H s.heap) (hq:H q=some (.tup (k.map V.str))): ∀{ys:List V} {l:List (List Str)} {its:List Value},TupL H ys l→Vals ys its→∀v∈its,SeqAt.EqAt A s v (.ref q) (eqK H k v)
 | _,_,_,.nil,r=>by cases r;exact fun v hv=>by cases hv
 | _,_,_,.cons ⟨p,e1,e2⟩ t,r=>by
  subst e1
  cases r with
  | cons r1 r2=>
   have e3:_=Value.ref p:=r1
   subst e3
   intro v hv
   rcases List.mem_cons.mp hv with rfl | hv
   ·rw[eqK_at e2]
    intro prog w' E Q h
    exact wpAny_eqBool_tuple (knd:=PySem.strKind prog w') hu (txt_key2 ok e2) (txt_key2 ok hq) h
   ·exact eqK_all hu ok hq t r2 v hv
end
theorem eqv_strs: ∀xs ys:List Str,PySem.Spec.sameAll (xs.map PyData.str) (ys.map PyData.str)=decide (xs=ys)
 | [],[]=>by simp[PySem.Spec.sameAll]
 | [],_::_=>by simp[PySem.Spec.sameAll]
 | _::_,[]=>by simp[PySem.Spec.sameAll]
 | a::r,b::t=>by
  simp only[List.map_cons,PySem.Spec.sameAll,PySem.Spec.same,eqv_strs r t]
  by_cases h:a=b<;>by_cases h':r=t<;>simp[h,h']
theorem lay_strs: ∀xs:List Str,xs.all PyData.strOk=true→PyData.canLayAll0 (xs.map PyData.str)=true
 | [],_=>rfl
 | x::r,h=>by
  rw[List.all_cons,Bool.and_eq_true] at h
  simp[PyData.canLayAll0,PyData.canLay0,lay_strs r h.2,h.1]
theorem depth_strs: ∀xs:List Str,PyData.depthAll (xs.map PyData.str)=0
 | []=>rfl
 | _::r=>by simp[PyData.depthAll,PyData.depth,depth_strs r]
theorem shaped_tS {xs:List Str} (h:xs.all PyData.strOk=true):SeqAt.shaped (.tuple (xs.map PyData.str))=true:=by
 simp[SeqAt.shaped,PyData.canLay0,PyData.depth,lay_strs xs h,depth_strs]
theorem shaped_lS {xs:List Str} (h:xs.all PyData.strOk=true):SeqAt.shaped (.list (xs.map PyData.str))=true:=by
 simp[SeqAt.shaped,PyData.canLay0,PyData.depth,lay_strs xs h,depth_strs]
theorem reads_strs {h:Heap}: ∀{xs:List Str} {its:List Value},Vals (xs.map V.str) its→ReadsAll h its (xs.map PyData.str) []
 | [],_,r=>by cases r;exact .nil
 | x::xs,_,r=>by
  cases r with
  | cons r1 r2=>
   obtain⟨t,rfl⟩:=r1
   exact readsAll_cons_val (.str _ _) (reads_strs r2)
section
variable {X:Cx} {B:Hp} {a b:Expr} {fa fb:Rho→M D} {pos:Pos}
noncomputable def rNeS (K:PySem.W.Frag):R2:=fun x y H Q=> ∃a b xs ys,x= .ref a∧y= .ref b∧((SqL K H a ((xs:List Str).map V.str)∧SqL K H b ((ys:List Str).map V.str))∨(SqT K H a (xs.map V.str)∧SqT K H b (ys.map V.str)))∧xs.all PyData.strOk=true∧ys.all PyData.strOk=true∧Q (.bl (!decide (xs=ys))) H
theorem op_neS {k:Nat} (hr:aCw k X.A):OpR X (compareOp .NotEq) (rNeS X.K):=by
 intro pins s σ H x y v u Q I rx ry h
 obtain⟨a,b,xs,ys,rfl,rfl,hh,o1,o2,q⟩:=h
 cases rx
 cases ry
 have hu:X.A.units+64<cLine:=by have:=hr.un;omega
 rcases hh with⟨ha,hb⟩ |⟨ha,hb⟩
 ·obtain⟨its,r1,⟨_,n1,g1,g2,_,g3⟩,_⟩:=I.list ha
  obtain⟨jts,r2,⟨_,n2,g4,g5,_,g6⟩,_⟩:=I.list hb
  refine ne_dataH_same (reads_list_at g1 g2 g3 (reads_strs r1)) (reads_list_at g4 g5 g6 (reads_strs r2)) (shaped_lS o1) (shaped_lS o2) hu (SeqAt.noMix_of_shape (.list .str) rfl _ _ (list_map_has fun _=>rfl) (list_map_has fun _=>rfl)) ⟨.bl _,H,I,rfl,?_⟩
  rw[show PySem.Spec.same (.list (xs.map PyData.str)) (.list (ys.map PyData.str))=decide (xs=ys) by simp only[PySem.Spec.same];exact eqv_strs xs ys]
  exact q
 ·obtain⟨its,r1,⟨_,g1,g2,n1,g3⟩,_⟩:=I.tuple ha
  obtain⟨jts,r2,⟨_,g4,g5,n2,g6⟩,_⟩:=I.tuple hb
  refine ne_dataH_same (reads_tuple_at g1 g2 g3 (reads_strs r1)) (reads_tuple_at g4 g5 g6 (reads_strs r2)) (shaped_tS o1) (shaped_tS o2) hu ?_ ⟨.bl _,H,I,rfl,?_⟩
  ·exact SeqAt.noMix_of_shape (.tuples .str) rfl _ _ (tuples_map_has fun _=>rfl) (tuples_map_has fun _=>rfl)
  ·rw[show PySem.Spec.same (.tuple (xs.map PyData.str)) (.tuple (ys.map PyData.str))=decide (xs=ys) by simp only[PySem.Spec.same];exact eqv_strs xs ys]
   exact q
noncomputable def gNeS:D→D→M D
 | .lst xs,.lst ys=>match strL xs,strL ys with | some x,some y=>if x.all PyData.strOk=true∧y.all PyData.strOk=true then ok (.bl (!decide (x=y))) else none | _,_=>none
 | .tup xs,.tup ys=>match strL xs,strL ys with | some x,some y=>if x.all PyData.strOk=true∧y.all PyData.strOk=true then ok (.bl (!decide (x=y))) else none | _,_=>none
 | _,_=>none
theorem n_neS:NoErr gNeS:=by
 intro x y c h
 unfold gNeS at h
 (repeat' split at h)<;>cases h
theorem r_neS:R2ok X (rNeS X.K) gNeS:=by
 intro H x y dx dy d Q ix iy e q
 unfold gNeS at e
 split at e
 ·split at e
  ·rename_i x' y' h1 h2
   split at e
   ·rename_i ho
    cases e
    cases ix with
    | lst g1 r1=>
     cases iy with
     | lst g2 r2=>
      have e1:=strL_eq _ h1
      have e2:=strL_eq _ h2
      subst e1 e2
      rw[isl_strs r1] at g1
      rw[isl_strs r2] at g2
      exact⟨_,_,x',y',rfl,rfl,.inl ⟨g1,g2⟩,ho.1,ho.2,q _ H (Same.refl H) (.bl _)⟩
   ·cases e
  ·cases e
 ·split at e
  ·rename_i x' y' h1 h2
   split at e
   ·rename_i ho
    cases e
    cases ix with
    | tup g1 r1=>
     cases iy with
     | tup g2 r2=>
      have e1:=strL_eq _ h1
      have e2:=strL_eq _ h2
      subst e1 e2
      rw[isl_strs r1] at g1
      rw[isl_strs r2] at g2
      exact⟨_,_,x',y',rfl,rfl,.inr ⟨TQ.sq g1,TQ.sq g2⟩,ho.1,ho.2,q _ H (Same.refl H) (.bl _)⟩
   ·cases e
  ·cases e
 ·cases e
theorem pdt_neS {k:Nat} (hr:aCw k X.A) (ha:PD X B a fa) (hb:PD X B b fb):PDT X B (.Compare a [.NotEq] [b] pos) (aAy (b2 gNeS fa fb)):=pdt_cmp (op_neS hr) r_neS n_neS ha hb (nomark _)
end
noncomputable def ownAt (ρ:Rho) (j:Nat):Bool:=match ρ[j]? with
 | some (some (.own _))=>true
 | some (some (.oin _ _ _ _))=>true
 | some (some (.ow _))=>true
 | _=>false
noncomputable def noNl (ρ:Rho):Bool:=ρ.all fun o=>match o with | some (.nl _ _)=>false | _=>true
theorem Rel.tight {K:PySem.W.Frag} {H₀ H:Hp} {ρ:Rho} {σ:St} (r:Rel K H₀ ρ σ H) (no:noNl ρ=true): ∃O:Nat→Option Addr,(∀i j a,O i=some a→O j=some a→i=j)∧OwnK H O∧Same H₀ (Off H O)∧ρ.length=σ.length∧(∀i sv,ρ[i]? =some (some sv)→Slot K H O σ i sv)∧∀j a,O j=some a→ownAt ρ j=true:=by
 obtain⟨O,h1,ho,h2,hl,h3⟩:=r
 obtain⟨O',hO'⟩: ∃O':Nat→Option Addr,O'=fun j=>if ownAt ρ j=true then O j else none:=⟨_,rfl⟩
 have oj: ∀j a,O' j=some a→ownAt ρ j=true∧O j=some a:=fun j a q=>by
  rw[hO'] at q
  dsimp only at q
  by_cases hj:ownAt ρ j=true
  ·rw[if_pos hj] at q;exact⟨hj,q⟩
  ·rw[if_neg hj] at q;cases q
 have sm:Same (Off H O) (Off H O'):=Off.less fun j a q=>⟨j,(oj j a q).2⟩
 have oi: ∀j,ownAt ρ j=true→O' j=O j:=fun j hj=>by rw[hO'];exact if_pos hj
 refine⟨O',fun i j a p q=>h1 i j a (oj i a p).2 (oj j a q).2,fun i a q=>ho i a (oj i a q).2,h2.trans sm,hl,fun i sv q=> ?_,fun j a q=>(oj j a q).1⟩
 have z:=h3 i sv q
 cases sv with
 | sh d=>obtain⟨v,e1,e2⟩:=z;exact⟨v,e1,e2.mono sm⟩
 | own ds=>obtain⟨a,vs,e1,e2,e3,e4⟩:=z;exact⟨a,vs,(oi i (by unfold ownAt;rw[q])).trans e1,e2,e3,e4.mono sm⟩
 | oin a C dx fs=>obtain⟨e1,e2,e3,vs,e4,e5⟩:=z;exact⟨(oi i (by unfold ownAt;rw[q])).trans e1,e2,e3,vs,e4,e5.mono sm⟩
 | ow o=>obtain⟨a,w,e1,e2,e3,e4⟩:=z;exact⟨a,w,(oi i (by unfold ownAt;rw[q])).trans e1,e2,e3,e4.mono sm⟩
 | tk ks=>obtain⟨a,e1,e2⟩:=z;exact⟨a,e1,sm _ _ e2⟩
 | nl kd ls=>
  exfalso
  have:=List.all_eq_true.mp no (some (.nl kd ls)) (List.mem_of_getElem? q)
  cases this
noncomputable def hdNe:List D→List D→Bool
 | .int _::_,.lst _::_=>true
 | _,_=>false
noncomputable def apL (ds:List D):Option SV→Bool
 | some (.own es)=>decide (ds.length≠es.length) || hdNe ds es
 | some (.oin _ _ _ _)=>false
 | some (.nl _ _)=>false
 | _=>true
noncomputable def ap:D→Rho→Bool
 | .lst ds,ρ=>immL ds&&ρ.all (apL ds)
 | _,_=>false
theorem Rel.apart {K:PySem.W.Frag} {H₀ H:Hp} {ρ:Rho} {σ:St} {d:D} {v:V} (r:Rel K H₀ ρ σ H) (iv:Is K H d v) (h:ap d ρ=true):
  ∃O:Nat→Option Addr,(∀i j a,O i=some a→O j=some a→i=j)∧OwnK H O∧Same H₀ (Off H O)∧ρ.length=σ.length∧(∀i sv,ρ[i]? =some (some sv)→Slot K H O σ i sv)∧Is K (Off H O) d v:=by
 have no:noNl ρ=true:=by
  cases d<;>first |(cases h;done) | skip
  rw[ap,Bool.and_eq_true,List.all_eq_true] at h
  refine List.all_eq_true.mpr fun o ho=> ?_
  have:=h.2 o ho
  cases o with
  | none=>rfl
  | some sv=>cases sv<;>first | rfl |(cases this;done)
 obtain⟨O,h1,ho,h2,hl,h3,h4⟩:=r.tight no
 refine⟨O,h1,ho,h2,hl,h3,?_⟩
 cases iv with
 | lst hh rr=>
  rename_i a ds vs
  rw[ap,Bool.and_eq_true,List.all_eq_true] at h
  have no: ∀u,H a=some u→((∃ws,u= .lst ws)∨∃ob ws,u= .frz ob ws)→(∀ws,u= .lst ws→ws=vs)→∀j,O j≠some a:=fun u hu hm hw j q=>by
   have hj:=h4 j a q
   unfold ownAt at hj
   split at hj
   ·rename_i es e
    obtain⟨b,ws,z1,z2,z3,z4⟩:=h3 j _ e
    rw[q] at z1
    cases z1
    rw[z3] at hu
    cases hu
    have:=hw _ rfl
    subst this
    have ha:=h.2 _ (List.mem_of_getElem? e)
    rw[apL,Bool.or_eq_true] at ha
    rcases ha with ha | ha
    ·have:=of_decide_eq_true ha
     rw[rr.length,z4.length] at this
     exact this rfl
    ·cases rr with
     | nil=>cases ha
     | cons i1 _=>
      cases z4 with
      | cons i2 _=>
       cases i1<;>first |(cases ha;done) | skip
       cases i2<;>cases ha
   ·rename_i e
    have ha:=h.2 _ (List.mem_of_getElem? e)
    cases ha
   ·rename_i o e
    obtain⟨b,w,z1,z2,z3,z4⟩:=h3 j _ e
    rw[q] at z1
    cases z1
    rw[z3] at hu
    cases hu
    rcases hm with⟨ws,e1⟩ |⟨ob,ws,e1⟩
    ·subst e1;cases o<;>exact z4
    ·subst e1;cases o<;>exact z4
   ·cases hj
  refine .lst ?_ (offL_imm ho h.1 rr)
  rcases hh with (hh |⟨ob,hh⟩) | hh
  ·exact .inl (.inl (Off.of hh (no _ hh (.inl ⟨_,rfl⟩) fun ws e=>by cases e;rfl)))
  ·exact .inl (.inr ⟨ob,Off.of hh (no _ hh (.inr ⟨_,_,rfl⟩) fun ws e=>by cases e)⟩)
  ·exact .inr hh
 | _=>cases h
noncomputable def sForX (f:Rho→M D) (G:D→Rho→Option Rho) (F:Rho→Option Out):Rho→Option Out:=fun ρ=>lft (f ρ) ρ fun d=>match itD d with
 | some (.ok ds)=>if ap d ρ=true then loop G F ds ρ else none
 | _=>none
section
variable {X:Cx} {B:Hp} {e:Expr} {fa:Rho→M D} {pos pos':Pos} {i:Nat} {x:Str}
variable {tg iter elt:Expr} {G:D→Rho→Option Rho} {F:Rho→Option Out} {body:List Stmt}
theorem pds_forX (hp:PassesOwn (model X.prog X.w) X.A X.env X.xe) (hc:X.calm=true) (he:PD X B iter fa) (hg: ∀B,PDG X B tg G) (hb: ∀B,PDB X B body F) (hs: ∀y,foldedSetIterable iter X.env y=pure y:=by intro _;rfl):PDS X B (.For tg iter body [] pos) (sForX fa G F):=by
 refine pds_forG hp hc (pi_D he) hg hb (fun E σ H R h k=> ?_) hs
 obtain⟨ρ,r,h⟩:=h
 refine⟨ρ,r,(aBa r h).imp fun d h1 v H1 e1 i1=> ?_⟩
 split at h1
 ·rename_i ds hds
  split at h1
  ·rename_i hq
   obtain⟨O,o1,o2,o3,o4,o5,o6⟩:=(r.mono e1).apart i1 hq
   obtain⟨a,vs,rfl,il,hz⟩:=iter_of o6 hds
   have k1:Rel X.K (Off H1 O) ρ σ H1:=⟨O,o1,o2,Same.refl _,o4,o5⟩
   rcases hz with k4 | k4
   ·exact .inl ⟨a,rfl,⟨_,k1.kept.seq k4⟩,k _ H1 ds _ ⟨_,itd_list k4 il,k1,o3⟩ h1⟩
   ·exact .inr ⟨a,rfl,⟨_,SqT.mono k1.kept k4⟩,k _ H1 ds _ ⟨_,itd_tup k4 il,k1,o3⟩ h1⟩
  ·exact False.elim h1
 ·exact False.elim h1
variable {scope:Scope} {cl:List (Str×Addr)} {N':List Str} {m:Nat} {ifs:List Expr} {ks:List Nat} {Gc:D→Option (List D)} {ft:Rho→M Bool} {fe:Rho→M D} {it:Rho→M (List D)}
end
section
variable {X:Cx} {B:Hp} {a b:Expr} {fa fb:Rho→M D} {pos apos cpos:Pos}
noncomputable def gShl:D→D→M D
 | .int i,.int j=>if 0≤j∧j≤1000000∧i.natAbs<2^64 then ok (.int (i*2^j.toNat)) else none
 | _,_=>none
noncomputable def gBOr:D→D→M D
 | .int i,.int j=>ok (.int (Builtin.bitOr i j))
 | _,_=>none
noncomputable def gBAnd:D→D→M D
 | .int i,.int j=>ok (.int (Builtin.bitAnd i j))
 | _,_=>none
theorem pd_shl (ha:PD X B a fa) (hb:PD X B b fb):PD X B (.BinOp a .LShift b pos) (b2 gShl fa fb):=
 pd_op op_shl (r_int fun dx dy d e=>by
  unfold gShl at e
  split at e<;>first |(cases e;done) | skip
  split at e<;>first |(cases e;done) | skip
  rename_i h
  exact⟨_,_,rfl,rfl,h,(aBo e).symm⟩) (by intro x y c h;unfold gShl at h;(repeat' split at h)<;>cases h) ha hb
theorem pd_bor (ha:PD X B a fa) (hb:PD X B b fb):PD X B (.BinOp a .BitOr b pos) (b2 gBOr fa fb):=
 pd_op op_or (r_int0 fun dx dy d e=>by
  unfold gBOr at e
  split at e<;>first |(cases e;done) | exact⟨_,_,rfl,rfl,(aBo e).symm⟩) (by intro x y c h;unfold gBOr at h;(repeat' split at h)<;>cases h) ha hb
theorem pd_band (ha:PD X B a fa) (hb:PD X B b fb):PD X B (.BinOp a .BitAnd b pos) (b2 gBAnd fa fb):=
 pd_op op_and (r_int0 fun dx dy d e=>by
  unfold gBAnd at e
  split at e<;>first |(cases e;done) | exact⟨_,_,rfl,rfl,(aBo e).symm⟩) (by intro x y c h;unfold gBAnd at h;(repeat' split at h)<;>cases h) ha hb
noncomputable def bitsD:D→M D
 | .int i=>ok (.int (Builtin.Int.intBits i:Nat))
 | _=>none
theorem mt_bits:MtR X "int.bit_length" (fun x xs H Q=> ∃i,x= .int i∧xs=[]∧Q (.int (Builtin.Int.intBits i:Nat)) H):=by
 intro pins s σ H x xs v us Q I r rs h
 obtain⟨i,rfl,rfl,q⟩:=h
 cases rs
 obtain⟨t,rfl⟩:=r
 exact wpAny_call_entry PySem.F.slot_int_bit_length (typeIs_int s i t) PySem.F.entry_int_bit_length (show wpAny _ _ (do ret (←mkInt (Builtin.Int.intBits i))) _ _ s from wpAny_ret_mkInt ⟨.int (Builtin.Int.intBits i:Nat),H,I.tok _,⟨_,rfl⟩,q⟩) (PySem.F.args_int_bit_length_1 _)
theorem pd_bits (ha:PD X B a fa) (hbase:attributeBase a "bit_length" X.env (eval a X.env)=eval a X.env:=by rfl) (hline:(apos.endLine==cpos.line)=true:=by rfl):PD X B (.Call (.Attribute a "bit_length" apos) [] [] cpos) (f1 bitsD fa):=by
 refine PE.of (pe_bm0 PySem.F.plainAttrs_int PySem.F.slot_int_bit_length PySem.F.type_int_bit_length mt_bits ha hbase hline) fun σ H Q h=> ?_
 obtain⟨ρ,r1,h⟩:=h
 refine⟨ρ,r1,(Res.bind h).imp fun d h1 v H1 e1 i1=> ?_⟩
 cases i1 with
 | int i=>exact⟨rfl,i,rfl,rfl,h1 _ H1 e1 (.int _)⟩
 | _=>exact False.elim h1
end
section
variable {X:Cx} {pins:List (Addr×Obj)} {σ:St} {H:Hp} {s:Shared} {a:Addr} {kvs:List (Key×V)} {k:Key} {A:Around} {E:Value→Shared→Prop}
theorem d_setdef {u du:Value} {dv:V} {Q:Value→Shared→Prop} (I:Inv X pins σ H s) (e:H a=some (.dK kvs)) (ry:RelV (kV k) u) (rd:RelV dv du) (hz:kvs.length<sizeLine)
  (h1: ∀v w' s',valV kvs k=some v→Inv X pins σ H s'→RelV v w'→Q w' s') (h2:valV kvs k=none→∀s',Inv X pins σ (upd H a (.dK (putK kvs k dv))) s'→Q du s'):
  wpAny (model X.prog X.w) A (call (.builtin "dict.setdefault") [.ref a,u,du]) Q E s:=by
 obtain⟨z,hd,vs,rel,dd⟩:=dk_of I.hok e
 refine call_meetsIn PySem.F.slot_dict_setdefault dd.typeIs PySem.F.entry_dict_setdefault (PySem.F.args_dict_setdefault_3 _ _ _) (kt_meets_setdefault (aBh X.prog X.w) a (kV_is ry) hd du)
  ⟨vs,dd,by rw[←rel.length];exact z,fun v hv=> ?_,fun hn h' dd' hs=>h2 ?_ _ ?_⟩
 ·cases l:valV kvs k with
  | none=>
   have hn:valueAt vs k=none:=RelO.none_of (by rw[←l];exact rel.val k)
   rw[hn] at hv
   cases hv
  | some v'=>
   obtain⟨w',hw,rw'⟩:=RelO.some_of (v:=v') (o:=valueAt vs k) (by rw[←l];exact rel.val k)
   rw[hw] at hv
   cases hv
   exact h1 v' _ _ l (I.tok _) rw'
 ·cases l:valV kvs k with
  | none=>rfl
  | some v'=>
   obtain⟨w',hw,rw'⟩:=RelO.some_of (v:=v') (o:=valueAt vs k) (by rw[←l];exact rel.val k)
   rw[hw] at hn
   cases hn
 ·have he: ∃q,h'.get? a=some q:=let ⟨q,_,_,hq,_⟩:=dd';⟨q,hq⟩
  exact d_write I (by rw[e];exact True.intro) hs he (dk_new (by have:=length_putK kvs k dv;omega) hd (rel.put k rd) dd')
end
section
variable {X:Cx} {B:Hp} {o e f b c:Expr} {td ty tx:TE} {fk fv:Rho→M D} {pos p apos cpos:Pos} {i:Nat} {x:Str}
noncomputable def tDSd (td ty tx:TE):TE:=fun σ H Q=>td σ H fun x H1=> ∃a,x= .ref a∧IsD H1 a∧ty σ H1 fun y H2=>tx σ H2 fun z H3=> ∃kvs k,H3 a=some (.dK kvs)∧y=kV k∧kvs.length<sizeLine∧(∀v,valV kvs k=some v→Q v H3)∧(valV kvs k=none→Q z (upd H3 a (.dK (putK kvs k z))))
theorem pe_dsd (ho:PE X o td) (he:PE X e ty) (hf:PE X f tx) (m:M2 X o "setdefault" apos e f cpos):PE X (.Call (.Attribute o "setdefault" apos) [e,f] [] cpos) (tDSd td ty tx):=by
 intro pins s σ H Q I h
 refine wpAny_Call_method m.base m.few m.line PySem.F.plainAttrs_dict PySem.F.slot_dict_setdefault PySem.F.type_dict_setdefault (thn (ho pins s σ H _ I h) fun u s1 ⟨x,H1,I1,rx,a,ex,d,q1⟩=> ?_)
 subst ex
 obtain rfl:u=Value.ref a:=rx
 obtain⟨t1,t2,_⟩:=isD_at I1 d
 refine⟨t1,t2,?_⟩
 rw[m.trees]
 refine Calls.callWith_builtin rfl (Calls.evalArgs_plain (Calls.spliced_cons (thn (he pins s1 σ H1 _ I1 q1) fun iv s2 ⟨y,H2,I2,ry,q2⟩=>
  Calls.spliced_cons (thn (hf pins s2 σ H2 _ I2 q2) fun fv s3 ⟨z,H3,I3,rz,kvs,k,ea,ey,hz,q3,q4⟩=>Calls.spliced_nil ?_))))
 subst ey
 exact d_setdef I3 ea ry rz hz (fun v w' s4 l I4 rw'=>⟨v,H3,I4,rw',q3 v l⟩) fun l s4 I4=>⟨z,_,I4,rz,q4 l⟩
noncomputable def sSdK (i:Nat) (fk fv:Rho→M D):Rho→Option Out:=fun ρ=>match ρ[i]? with
 | some (some (.ow (.k kvs)))=>lft (fk ρ) ρ fun kd=>lft (fv ρ) ρ fun d=>(match keyOf kd with
  | some key=>if d.imm=true∧kvs.length<100000 then (if (valD kvs key).isSome=true then some (.nx ρ) else some (.nx (ρ.set i (some (.ow (.k (putT kvs key d))))))) else none
  | none=>none)
 | _=>none
theorem pds_sdK (hN:X.N[i]? =some x) (hv:Vis X.env.scope x) (hk:PD X B b fk) (hc:PD X B c fv) (hs:aB4 b=true:=by rfl) (hs2:aB4 c=true:=by rfl) (hline:(apos.endLine==cpos.line)=true:=by rfl)
  (hsw:swapsWith (.Call (.Attribute (.Name x p) "setdefault" apos) [b,c] [] cpos) none pos.line X.env=pure false:=by rfl)
  (hd:(x==("__debug__":Str))=false:=by decide) (hcd:(x==("__classdict__":Str))=false:=by decide):
  PDS X B (.Expr (.Call (.Attribute (.Name x p) "setdefault" apos) [b,c] [] cpos) pos) (sSdK i fk fv):=by
 refine PS.of (ps_expr (pe_dsd (pe_var hN hv hd hcd) hk hc ⟨rfl,by rw[star2 hs hs2];rfl,hline,by rw[star2 hs hs2];rfl⟩) hsw) fun E σ H h=> ?_
 obtain⟨ρ,r,h⟩:=h
 unfold sSdK at h
 split at h
 ·rename_i kvs qi
  obtain⟨O,a,vs,g1,go,g2,gl,g3,z1,z2,z3,z4⟩:=r.oneK qi
  refine⟨.ref a,z2,a,rfl,.inl ⟨_,.inl z3⟩,ρ,r,(aBa r h).imp fun kd h1 u H1 s1 i1=> ?_⟩
  refine⟨ρ,r.mono s1,Res.mono (Same.refl _) (aBa (r.mono s1) h1) fun d h2 v H2 s2 i2=> ?_⟩
  split at h2
  ·rename_i key hkey
   split at h2
   ·rename_i hh
    clear g1 go g2 gl g3 z1 z3 z4
    have r2:=(r.mono s1).mono s2
    obtain⟨O2,a',vs2,g1,go,g2,gl,g3,z1,z2',z3,z4⟩:=r2.oneK qi
    have ea:a=a':=by rw[z2] at z2';cases z2';rfl
    rw[ea]
    have eu:=keyOf_V i1 hkey
    rw[eu]
    refine⟨vs2,key,z3,rfl,by rw[←isK_length z4];exact Nat.lt_trans hh.2 (by decide),fun w l=> ?_,fun l=> ?_⟩
    ·rcases isK_val (k:=key) z4 with⟨y1,y2⟩ |⟨d',v',y1,y2,i'⟩
     ·rw[y2] at l;cases l
     ·rw[y1,if_pos (by rfl)] at h2
      exact h2 _ _ r2
    ·rcases isK_val (k:=key) z4 with⟨y1,y2⟩ |⟨d',v',y1,y2,i'⟩
     ·rw[y1,if_neg (by simp)] at h2
      exact h2 _ _ (Rel.ow_put O2 g1 go g2 gl g3 qi z1 z2' (o':= .k (putT kvs key d)) (w':= .dK (putK vs2 key v)) (isK_put (off_imm go hh.1 i2) z4))
     ·rw[y2] at l;cases l
   ·exact False.elim h2
  ·exact False.elim h2
 ·exact False.elim h
end
section
variable {X:Cx} {B:Hp} {e:Expr} {fa:Rho→M D} {pos p:Pos}
theorem is_kV {P:Program} {w:World} {k:Key} {u:Value} (h:(aBh P w).is k u=true):RelV (kV k) u:=by
 cases k with
 | inl i=>obtain⟨t,rfl⟩:=Value.isInt_shape h;exact⟨t,rfl⟩
 | inr x=>obtain⟨t,rfl⟩:=Value.isStrOf_shape h;exact⟨t,rfl⟩
theorem keys_vals {P:Program} {w:World}: ∀{kvs:List (Key×V)} {vs:List (Key×Value)} {us:List Value},KV kvs vs→us.length=vs.length→(∀(j:Nat) v,us[j]? =some v→∃k x,vs[j]? =some (k,x)∧(aBh P w).is k v=true)→Vals (kvs.map fun kv=>kV kv.1) us
 | _,_,[],.nil,_,_=> .nil
 | _,_,u::us,.cons (a:=a) (b:=b) h t,hl,hv=>by
  obtain⟨k,x,e1,e2⟩:=hv 0 u rfl
  simp only[List.getElem?_cons_zero,Option.some.injEq] at e1
  have e3:a.1=k:=by rw[h.1,e1]
  refine .cons (by show RelV (kV a.1) u;rw[e3];exact is_kV e2) (keys_vals (P:=P) (w:=w) t (by simpa using hl) fun j v hj=> ?_)
  obtain⟨k',x',e4,e5⟩:=hv (j+1) v (by simpa using hj)
  exact⟨k',x',by simpa using e4,e5⟩
theorem call_listK (hc:X.calm=true):CallR X (.type "list") (fun xs H Q=> ∃p kvs,xs=[.ref p]∧Rd H p (.dK kvs)∧∀l,H l=none→Q (.ref l) (upd H l (.lst (kvs.map fun kv=>kV kv.1)))):=by
 intro pins s σ H xs us Q I r h
 obtain⟨p,kvs,rfl,hp,q⟩:=h
 obtain⟨u,rfl,rx⟩:=vals1 r
 cases rx
 obtain⟨z,hd,vs,rel,dd⟩:=dk_rd I.hok hp
 obtain⟨ep,hat⟩:=dd.dictAt
 refine PySem.W.kdl_call (PySem.W.kdl_dict (knd:=aBh X.prog X.w) (kvs:=vs) (ep:=ep) hd) (I.ok.hd hc) hat (by rw[←rel.length];exact z) fun h' tk acc' c' kp e items=> ?_
 have r':Vals (kvs.map fun kv=>kV kv.1) acc'.toList:=keys_vals (P:=X.prog) (w:=X.w) rel (by rw[Array.length_toList];exact items.1) fun j v hj=>items.2 j v (by rw[←Array.getElem?_toList];exact hj)
 exact⟨.ref s.heap.objs.size,_,I.laid (t':=tk) kp (Nat.le_refl _) (show aBw X.prog X.w _ h' _ (.lst (kvs.map fun kv=>kV kv.1)) from⟨by rw[List.length_map];exact z,acc'.toList,c',r',by rw[Array.toArray_toList];exact e⟩),rfl,q _ (I.hok.fresh (Nat.le_refl _))⟩
noncomputable def keysD:D→M D
 | .dk kvs=>ok (.lst (kvs.map fun kv=>kD kv.1))
 | _=>none
theorem isK_keys {K:PySem.W.Frag} {H H':Hp}: ∀{kvs:List (Key×D)} {vs:List (Key×V)},IsK K H kvs vs→IsL K H' (kvs.map fun kv=>kD kv.1) (vs.map fun kv=>kV kv.1)
 | _,_,.nil=> .nil
 | _,_,.cons i r=> .cons (is_kD _) (isK_keys r)
theorem pd_listK (hc:X.calm=true) (hg:Gl X "list") (hm:X.mg "list"=none) (ha:PD X B e fa) (hs:aB4 e=true:=by rfl):PD X B (.Call (.Name "list" p) [e] [] pos) (f1 keysD fa):=by
 refine PE.of (pe_callTy (call_listK hc) hg hm boot_list (aA4 ha aBx (aAx hs)) (he:=aAx hs) (hpl:=by rfl)) fun σ H Q h=> ?_
 obtain⟨ρ,r1,h⟩:=h
 refine⟨ρ,r1,(Res.bind h).imp fun d q1 v H1 e1 i1=> ?_⟩
 cases i1 with
 | dk hh rr=>exact⟨_,_,rfl,hh,fun l hl=>q1 _ _ (e1.trans (aAn hl _)) (.lst (SqL.of aAi) (isK_keys rr))⟩
 | _=>exact False.elim q1
end
theorem nx_inj {n i j i' j':Nat} (hi:i<n) (hi':i'<n) (h:nx n i j=nx n i' j'):i=i'∧j=j':=by
 unfold nx at h
 have e:i=i':=by
  have:=congrArg (· %n) h
  simpa[Nat.mul_add_mod,Nat.mod_eq_of_lt hi,Nat.mod_eq_of_lt hi'] using this
 subst e
 refine⟨rfl,?_⟩
 have h2:n*(j+1)=n*(j'+1):=Nat.add_right_cancel h
 have h3:=Nat.eq_of_mul_eq_mul_left (by omega) h2
 omega
section
variable {K:PySem.W.Frag} {H₀ H H':Hp} {ρ:Rho} {σ:St} {O O':Nat→Option Addr}
theorem InL.move2 {n i:Nat} (hO: ∀j b w,O (nx n i j)=some b→H b=some w→O' (nx n i j)=some b∧H' b=some w) (sm:Same (Off H O) (Off H' O')): ∀{bs:List Addr} {ls:List (List D)} {j:Nat},InL K H O n i j bs ls→InL K H' O' n i j bs ls
 | [],[],_,_=>True.intro
 | b::bs,ds::ls,j,⟨⟨h1,vs,h2,h3⟩,h4⟩=>by
  obtain⟨e1,e2⟩:=hO _ b _ h1 h2
  exact⟨⟨e1,vs,e2,h3.mono sm⟩,InL.move2 hO sm h4⟩
 | [],_::_,_,h=>False.elim h
 | _::_,[],_,h=>False.elim h
theorem InL.move3 {n i:Nat} (sm:Same (Off H O) (Off H' O')): ∀{bs:List Addr} {ls:List (List D)} {j0:Nat},(∀j b w,j0≤j→O (nx n i j)=some b→H b=some w→O' (nx n i j)=some b∧H' b=some w)→InL K H O n i j0 bs ls→InL K H' O' n i j0 bs ls
 | [],[],_,_,_=>True.intro
 | b::bs,ds::ls,j,hO,⟨⟨h1,vs,h2,h3⟩,h4⟩=>by
  obtain⟨e1,e2⟩:=hO _ b _ (Nat.le_refl _) h1 h2
  exact⟨⟨e1,vs,e2,h3.mono sm⟩,InL.move3 sm (fun j' b w hj=>hO j' b w (by omega)) h4⟩
 | [],_::_,_,_,h=>False.elim h
 | _::_,[],_,_,h=>False.elim h
theorem InL.move4 {n i:Nat} (sm:Same (Off H O) (Off H' O')): ∀{bs:List Addr} {ls:List (List D)} {j0:Nat},(∀j b w,j<j0+ls.length→O (nx n i j)=some b→H b=some w→O' (nx n i j)=some b∧H' b=some w)→InL K H O n i j0 bs ls→InL K H' O' n i j0 bs ls
 | [],[],_,_,_=>True.intro
 | b::bs,ds::ls,j,hO,⟨⟨h1,vs,h2,h3⟩,h4⟩=>by
  obtain⟨e1,e2⟩:=hO _ b _ (by rw[List.length_cons];omega) h1 h2
  exact⟨⟨e1,vs,e2,h3.mono sm⟩,InL.move4 sm (fun j' b w hj=>hO j' b w (by rw[List.length_cons];omega)) h4⟩
 | [],_::_,_,_,h=>False.elim h
 | _::_,[],_,_,h=>False.elim h
theorem NL.move2 {σ':St} {i:Nat} {kd:NK} {ls:List (List D)} (hl:σ'.length=σ.length) (hs:σ'[i]? =σ[i]?) (hO: ∀m b w,(m=i∨∃j,m=nx σ.length i j)→O m=some b→H b=some w→O' m=some b∧H' b=some w) (sm:Same (Off H O) (Off H' O'))
  (h:NL K H O σ i kd ls):NL K H' O' σ' i kd ls:=by
 obtain⟨a,w,bs,h1,h2,h3,h4,h5⟩:=h
 obtain⟨e1,e2⟩:=hO i a w (.inl rfl) h1 h3
 refine⟨a,w,bs,e1,hs.trans h2,e2,h4,?_⟩
 rw[hl]
 exact InL.move2 (fun j b w=>hO _ b w (.inr ⟨j,rfl⟩)) sm h5
theorem InL.length {n i:Nat}: ∀{bs:List Addr} {ls:List (List D)} {j:Nat},InL K H O n i j bs ls→bs.length=ls.length
 | [],[],_,_=>rfl
 | _::bs,_::ls,_,⟨_,h⟩=>by rw[List.length_cons,List.length_cons,InL.length h]
 | [],_::_,_,h=>False.elim h
 | _::_,[],_,h=>False.elim h
theorem InL.at {n i:Nat} {ds:List D}: ∀{bs:List Addr} {ls:List (List D)} {j0 j:Nat},InL K H O n i j0 bs ls→ls[j]? =some ds→∃b vs,bs[j]? =some b∧O (nx n i (j0+j))=some b∧H b=some (.lst vs)∧IsL K (Off H O) ds vs
 | b::bs,ds'::ls,j0,0,⟨⟨h1,vs,h2,h3⟩,_⟩,e=>by
  cases e
  exact⟨b,vs,rfl,h1,h2,h3⟩
 | b::bs,ds'::ls,j0,j+1,⟨_,h⟩,e=>by
  obtain⟨b',vs,e1,e2,e3,e4⟩:=InL.at (j0:=j0+1) (j:=j) h (by simpa using e)
  exact⟨b',vs,by simpa using e1,by rw[show j0+(j+1)=j0+1+j by omega];exact e2,e3,e4⟩
 | [],[],_,_,_,e=>by simp at e
 | [],_::_,_,_,h,_=>False.elim h
 | _::_,[],_,_,h,_=>False.elim h
theorem InL.put {n i:Nat} {b:Addr} {ds':List D} {vs':List V} (hi:i<n) (h1: ∀i j a,O i=some a→O j=some a→i=j) (iv:IsL K (Off H O) ds' vs'): ∀{bs:List Addr} {ls:List (List D)} {j0 j:Nat},InL K H O n i j0 bs ls→O (nx n i (j0+j))=some b→InL K (upd H b (.lst vs')) O n i j0 bs (ls.set j ds')
 | [],[],_,_,_,_=>True.intro
 | c::bs,ds::ls,j0,0,⟨⟨g1,vs,g2,g3⟩,g4⟩,e=>by
  have eo:Off (upd H b (.lst vs')) O=Off H O:=Off.upd e
  have ec:b=c:=by rw[show j0+0=j0 from rfl,g1] at e;cases e;rfl
  subst ec
  refine⟨⟨g1,vs',aAi,by rw[eo];exact iv⟩,?_⟩
  refine InL.move3 (H:=H) (O:=O) (by rw[eo];exact Same.refl _) (fun j b' w hj e1 e2=> ?_) g4
  refine⟨e1,?_⟩
  rw[aAk (fun z=> ?_)]
  ·exact e2
  ·subst z
   have:=(nx_inj hi hi (h1 _ _ _ e1 g1)).2
   omega
 | c::bs,ds::ls,j0,j+1,⟨⟨g1,vs,g2,g3⟩,g4⟩,e=>by
  have eo:Off (upd H b (.lst vs')) O=Off H O:=Off.upd e
  have nb:c≠b:=fun z=>by
   subst z
   have:=(nx_inj hi hi (h1 _ _ _ g1 e)).2
   omega
  exact⟨⟨g1,vs,by rw[aAk nb];exact g2,by rw[eo];exact g3⟩,InL.put hi h1 iv g4 (by rw[show j0+1+j=j0+(j+1) by omega];exact e)⟩
 | [],_::_,_,_,h,_=>False.elim h
 | _::_,[],_,_,h,_=>False.elim h
theorem Slot.other {i i':Nat} {sv:SV} (h3:Slot K H O σ i' sv) (hi':i'<σ.length) (hm: ∀m b w,(m=i'∨∃j,m=nx σ.length i' j)→O m=some b→H b=some w→O' m=some b∧H' b=some w) (sm:Same (Off H O) (Off H' O')):Slot K H' O' σ i' sv:=by
 cases sv with
 | sh d=>obtain⟨v,e1,e2⟩:=h3;exact⟨v,e1,e2.mono sm⟩
 | own ds=>obtain⟨a,vs,e1,e2,e3,e4⟩:=h3;obtain⟨f1,f2⟩:=hm _ _ _ (.inl rfl) e1 e3;exact⟨a,vs,f1,e2,f2,e4.mono sm⟩
 | oin a C dx fs=>obtain⟨e1,e2,e3,vs,e4,e5⟩:=h3;obtain⟨f1,f2⟩:=hm _ _ _ (.inl rfl) e1 e4;exact⟨f1,e2,e3,vs,f2,e5.mono sm⟩
 | ow o=>obtain⟨a,w,e1,e2,e3,e4⟩:=h3;obtain⟨f1,f2⟩:=hm _ _ _ (.inl rfl) e1 e3;exact⟨a,w,f1,e2,f2,e4.mono sm⟩
 | tk ks=>obtain⟨a,e1,e2⟩:=h3;exact⟨a,e1,sm _ _ e2⟩
 | nl kd ls=>exact NL.move2 rfl rfl hm sm h3
theorem Rel.nl_put {i j:Nat} {b:Addr} {kd:NK} {ls:List (List D)} {ds':List D} {vs':List V} (h1: ∀i j a,O i=some a→O j=some a→i=j) (ho:OwnK H O) (h2:Same H₀ (Off H O)) (hl:ρ.length=σ.length)
  (h3: ∀i sv,ρ[i]? =some (some sv)→Slot K H O σ i sv) (q:ρ[i]? =some (some (.nl kd ls))) (hb:O (nx σ.length i j)=some b) (iv:IsL K (Off H O) ds' vs'):Rel K H₀ (ρ.set i (some (.nl kd (ls.set j ds')))) σ (upd H b (.lst vs')):=by
 have eo:Off (upd H b (.lst vs')) O=Off H O:=Off.upd hb
 have hi:i<σ.length:=by have:=(List.getElem?_eq_some_iff.mp q).1;omega
 refine⟨O,h1,fun m c qm=> ?_,by rw[eo];exact h2,by rw[List.length_set,hl],fun i' sv q'=> ?_⟩
 ·by_cases e:c=b
  ·subst e;exact⟨_,aAi,rfl⟩
  ·obtain⟨u,w,m⟩:=ho m c qm
   exact⟨u,by rw[aAk e];exact w,m⟩
 ·have hi':i'<σ.length:=by have:=(List.getElem?_eq_some_iff.mp q').1;rw[List.length_set] at this;omega
  by_cases e:i'=i
  ·subst e
   rw[List.getElem?_set_self (by omega)] at q'
   have q'':=Option.some.inj (Option.some.inj q')
   subst q''
   obtain⟨a,w,bs,g1,g2,g3,g4,g5⟩:=(show NL K H O σ i' kd ls from h3 i' _ q)
   have na:a≠b:=fun z=>by
    subst z
    have:=h1 _ _ _ g1 hb
    have:=nx_le (n:=σ.length) (i:=i') j
    omega
   exact⟨a,w,bs,g1,g2,by rw[aAk na];exact g3,g4,InL.put (j0:=0) hi' h1 iv g5 (by rw[Nat.zero_add];exact hb)⟩
  ·rw[List.getElem?_set_ne (Ne.symm e)] at q'
   refine (h3 i' sv q').other (i:=i) hi' (fun m c w hm e1 e2=>⟨e1,?_⟩) (by rw[eo];exact Same.refl _)
   rw[aAk (fun z=> ?_)]
   ·exact e2
   ·subst z
    have em:=h1 _ _ _ e1 hb
    rcases hm with h |⟨j',h⟩
    ·have:=nx_le (n:=σ.length) (i:=i) j
     omega
    ·rw[em] at h
     exact e (nx_inj hi hi' h).1.symm
theorem Rel.ow_nl {i:Nat} (r:Rel K H₀ ρ σ H) (q:ρ[i]? =some (some (.ow (.k [])))):Rel K H₀ (ρ.set i (some (.nl (.k []) []))) σ H:=by
 obtain⟨O,h1,ho,h2,hl,h3⟩:=r
 refine⟨O,h1,ho,h2,by rw[List.length_set,hl],fun i' sv q'=> ?_⟩
 by_cases e:i'=i
 ·subst e
  rw[List.getElem?_set_self (List.getElem?_eq_some_iff.mp q).1] at q'
  have q'':=Option.some.inj (Option.some.inj q')
  subst q''
  obtain⟨a,w,g1,g2,g3,g4⟩:=h3 i' _ q
  refine⟨a,w,[],g1,g2,g3,?_,True.intro⟩
  cases w<;>first | exact False.elim g4 | skip
  cases (show IsK K (Off H O) [] _ from g4)
  exact⟨rfl,rfl⟩
 ·rw[List.getElem?_set_ne (Ne.symm e)] at q'
  exact h3 i' sv q'
theorem InL.snoc {n i:Nat} {c:Addr}: ∀{bs:List Addr} {ls:List (List D)} {j0:Nat},InL K H O n i j0 bs ls→O (nx n i (j0+ls.length))=some c→H c=some (.lst [])→InL K H O n i j0 (bs++ [c]) (ls++ [[]])
 | [],[],j0,_,e,hc=>⟨⟨e,[],hc,.nil⟩,True.intro⟩
 | b::bs,ds::ls,j0,⟨h1,h2⟩,e,hc=>⟨h1,InL.snoc h2 (by rw[show j0+1+ls.length=j0+(ds::ls).length by rw[List.length_cons];omega];exact e) hc⟩
 | [],_::_,_,h,_,_=>False.elim h
 | _::_,[],_,h,_,_=>False.elim h
theorem Rel.nl_new {i:Nat} {a c:Addr} {ks:List Key} {k:Key} {ls:List (List D)} {bs:List Addr} (h1: ∀i j a,O i=some a→O j=some a→i=j) (ho:OwnK H O) (h2:Same H₀ (Off H O)) (hl:ρ.length=σ.length)
  (h3: ∀i sv,ρ[i]? =some (some sv)→Slot K H O σ i sv) (q:ρ[i]? =some (some (.nl (.k ks) ls))) (g1:O i=some a) (g2:σ[i]? =some (some (.ref a))) (g3:H a=some (.dK (ks.zip (bs.map V.ref)))) (g4:ks.length=bs.length) (g5:InL K H O σ.length i 0 bs ls) (hc:H c=none):
  Rel K H₀ (ρ.set i (some (.nl (.k (ks++ [k])) (ls++ [[]])))) σ (upd (upd H c (.lst [])) a (.dK (ks.zip (bs.map V.ref)++ [(k,.ref c)]))):=by
 have hi:i<σ.length:=by have:=(List.getElem?_eq_some_iff.mp q).1;omega
 have nc: ∀m b,O m=some b→b≠c:=fun m b e z=>by
  subst z
  obtain⟨u,w,_⟩:=ho m b e
  rw[w] at hc
  cases hc
 have ac:a≠c:=nc _ _ g1
 obtain⟨H2,hH2⟩: ∃H2,H2=upd (upd H c (.lst [])) a (.dK (ks.zip (bs.map V.ref)++ [(k,.ref c)])):=⟨_,rfl⟩
 obtain⟨M,hM⟩: ∃M,M=nx σ.length i ls.length:=⟨_,rfl⟩
 have iM:i≠M:=by have:=nx_le (n:=σ.length) (i:=i) ls.length;omega
 rw[←hH2]
 have Ha:H2 a=some (.dK (ks.zip (bs.map V.ref)++ [(k,.ref c)])):=by rw[hH2];exact aAi
 have Hc:H2 c=some (.lst []):=by rw[hH2,aAk (Ne.symm ac)];exact aAi
 have Hb: ∀b,b≠a→b≠c→H2 b=H b:=fun b z1 z2=>by rw[hH2,aAk z1,aAk z2]
 let O2:Nat→Option Addr:=fun m=>if m=M then some c else O m
 have OM:O2 M=some c:=if_pos rfl
 have On: ∀m,m≠M→O2 m=O m:=fun m e=>if_neg e
 have sm:Same (Off H O) (Off H2 O2):=fun b o qb=>by
  have qh:=Off.same H O b o qb
  have nb1:b≠a:=fun z=>Off.not qb i (by rw[z];exact g1)
  have nb2:b≠c:=fun z=>by subst z;rw[hc] at qh;cases qh
  refine Off.of (by rw[Hb b nb1 nb2];exact qh) fun m z=> ?_
  by_cases e:m=M
  ·subst e;rw[OM] at z;cases z;exact nb2 rfl
  ·rw[On m e] at z;exact Off.not qb m z
 refine⟨O2,fun m m' b q1 q2=> ?_,fun m b qm=> ?_,h2.trans sm,by rw[List.length_set,hl],fun i' sv q'=> ?_⟩
 ·by_cases e1:m=M
  ·by_cases e2:m'=M
   ·rw[e1,e2]
   ·subst e1
    rw[OM] at q1
    cases q1
    rw[On m' e2] at q2
    exact absurd rfl (nc _ _ q2)
  ·by_cases e2:m'=M
   ·subst e2
    rw[OM] at q2
    cases q2
    rw[On m e1] at q1
    exact absurd rfl (nc _ _ q1)
   ·rw[On m e1] at q1
    rw[On m' e2] at q2
    exact h1 m m' b q1 q2
 ·by_cases e:m=M
  ·subst e
   rw[OM] at qm
   cases qm
   exact⟨_,Hc,rfl⟩
  ·rw[On m e] at qm
   by_cases ea:b=a
   ·subst ea;exact⟨_,Ha,rfl⟩
   ·obtain⟨u,w,z⟩:=ho m b qm
    exact⟨u,by rw[Hb b ea (nc _ _ qm)];exact w,z⟩
 ·have hi':i'<σ.length:=by have:=(List.getElem?_eq_some_iff.mp q').1;rw[List.length_set] at this;omega
  by_cases e:i'=i
  ·subst e
   rw[List.getElem?_set_self (by omega)] at q'
   have q'':=Option.some.inj (Option.some.inj q')
   subst q''
   refine⟨a,_,bs++ [c],by rw[On _ iM];exact g1,g2,Ha,⟨by rw[List.length_append,List.length_append,g4];rfl,?_⟩,?_⟩
   ·rw[List.map_append,List.zip_append (by rw[List.length_map];exact g4)]
    rfl
   ·refine InL.snoc (j0:=0) (InL.move4 sm (j0:=0) (bs:=bs) (ls:=ls) (fun j b w hj e1 e2=> ?_) g5) (by rw[Nat.zero_add,←hM];exact OM) Hc
    have mM:nx σ.length i' j≠M:=fun z=>by
     rw[hM] at z
     have:=(nx_inj hi hi z).2
     omega
    have ba:b≠a:=fun z=>by
     subst z
     have em:=h1 _ _ _ e1 g1
     have:=nx_le (n:=σ.length) (i:=i') j
     omega
    exact⟨by rw[On _ mM];exact e1,by rw[Hb b ba (nc _ _ e1)];exact e2⟩
  ·rw[List.getElem?_set_ne (Ne.symm e)] at q'
   refine (h3 i' sv q').other (i:=i) hi' (fun m b w hm e1 e2=> ?_) sm
   have mM:m≠M:=fun z=>by
    rcases hm with h |⟨j',h⟩
    ·have:=nx_le (n:=σ.length) (i:=i) ls.length
     omega
    ·rw[z,hM] at h
     exact e (nx_inj hi hi' h).1.symm
   have ba:b≠a:=fun z=>by
    subst z
    have em:=h1 _ _ _ e1 g1
    rcases hm with h |⟨j',h⟩
    ·omega
    ·have:=nx_le (n:=σ.length) (i:=i') j'
     omega
   exact⟨by rw[On m mM];exact e1,by rw[Hb b ba (nc _ _ e1)];exact e2⟩
end
theorem valV_zip {key:Key}: ∀{ks:List Key} {bs:List Addr},ks.length=bs.length→valV (ks.zip (bs.map V.ref)) key=(ks.findIdx? fun k=>decide (k=key)).bind fun j=>(bs[j]?).map V.ref
 | [],[],_=>rfl
 | k::ks,b::bs,h=>by
  have ih:=valV_zip (key:=key) (ks:=ks) (bs:=bs) (by simpa using h)
  rw[List.findIdx?_cons]
  by_cases e:k=key
  ·subst e
   simp[valV,List.find?]
  ·have e1:valV ((k::ks).zip ((b::bs).map V.ref)) key=valV (ks.zip (bs.map V.ref)) key:=by simp[valV,List.find?,e]
   rw[e1,ih,decide_eq_false e]
   cases ks.findIdx? fun k=>decide (k=key)<;>simp
theorem putK_none {kvs:List (Key×V)} {k:Key} {v:V} (h:valV kvs k=none):putK kvs k v=kvs++ [(k,v)]:=by
 unfold putK
 rw[if_neg]
 intro q
 rw[List.any_eq_true] at q
 obtain⟨kv,h1,h2⟩:=q
 unfold valV at h
 rw[Option.map_eq_none_iff,List.find?_eq_none] at h
 exact h kv h1 h2
section
variable {X:Cx} {B:Hp} {b c:Expr} {fk fv:Rho→M D} {pos pos' p p2 p3 apos cpos apos2 cpos2:Pos} {i:Nat} {x:Str}
noncomputable def sNewN (i:Nat):Rho→Option Out:=fun ρ=>some (.nx (ρ.set i (some (.nl (.k []) []))))
theorem pds_newN (hN:X.N.Nodup) (hi:X.N[i]? =some x) (hx:Loc X.env.scope x) (hs:swapsWith (.Dict [] [] p) (some (.Name x pos')) pos.line X.env=pure false:=by rfl) (hf:X.fn x=true∨X.env.scope.names.lookup x=some .local:=by first | exact .inl rfl | exact .inr rfl | assumption):
  PDS X B (.Assign [.Name x pos'] (.Dict [] [] p) pos) (sNewN i):=by
 refine PS.of (ps_set hN hi hx pe_dnewK hs hf) fun E σ H h=> ?_
 obtain⟨ρ,r,h⟩:=h
 intro l hl
 have r1:=r.ow_new (i:=i) (o:= .k []) (w:= .dK []) hl (fun _ _=>IsK.nil) (fun _ _=>IsK.nil)
 by_cases hj:i<ρ.length
 ·have r2:=r1.ow_nl (i:=i) (List.getElem?_set_self hj)
  rw[List.set_set] at r2
  exact h _ _ r2
 ·have e: ∀y:Option SV,ρ.set i y=ρ:=fun y=>List.set_eq_of_length_le (by omega)
  rw[e] at r1
  unfold sNewN at h
  rw[e] at h
  exact h _ _ r1
noncomputable def sSdA (i:Nat) (fk:Rho→M D) (ga:Rho→M (List D)):Rho→Option Out:=fun ρ=>match ρ[i]? with
 | some (some (.nl (.k ks) ls))=>lft (fk ρ) ρ fun kd=>(match keyOf kd with
  | some key=>if ls.length<100000 then (match ks.findIdx? fun k=>decide (k=key) with
   | some j=>lft (ga ρ) ρ fun as=>(match as,ls[j]? with
    | [d],some ds=>if d.imm=true∧ds.length<100000 then some (.nx (ρ.set i (some (.nl (.k ks) (ls.set j (ds++ [d])))))) else none
    | _,_=>none)
   | none=>lft (ga (ρ.set i (some (.nl (.k (ks++ [key])) (ls++ [[]]))))) (ρ.set i (some (.nl (.k (ks++ [key])) (ls++ [[]])))) fun as=>(match as with
    | [d]=>if d.imm=true then some (.nx (ρ.set i (some (.nl (.k (ks++ [key])) ((ls++ [[]]).set ls.length ([]++ [d])))))) else none
    | _=>none)) else none
  | none=>none)
 | _=>none
theorem zip_inj: ∀{ks:List Key} {bs bs':List Addr},ks.length=bs.length→ks.length=bs'.length→ks.zip (bs.map V.ref)=ks.zip (bs'.map V.ref)→bs=bs'
 | [],[],[],_,_,_=>rfl
 | k::ks,b::bs,b'::bs',h1,h2,h=>by
  rw[List.map_cons,List.map_cons,List.zip_cons_cons,List.zip_cons_cons] at h
  injection h with e1 e2
  injection e1 with _ e3
  injection e3 with e4
  rw[e4,zip_inj (by simpa using h1) (by simpa using h2) e2]
theorem Rel.nl_at {K:PySem.W.Frag} {H₀ H:Hp} {ρ:Rho} {σ:St} {ks:List Key} {ls:List (List D)} (r:Rel K H₀ ρ σ H) (q:ρ[i]? =some (some (.nl (.k ks) ls))):
  ∃(O:Nat→Option Addr) (a:Addr) (bs:List Addr),(∀i j a,O i=some a→O j=some a→i=j)∧OwnK H O∧Same H₀ (Off H O)∧ρ.length=σ.length∧(∀i sv,ρ[i]? =some (some sv)→Slot K H O σ i sv)∧
   O i=some a∧σ[i]? =some (some (.ref a))∧H a=some (.dK (ks.zip (bs.map V.ref)))∧ks.length=bs.length∧InL K H O σ.length i 0 bs ls:=by
 obtain⟨O,h1,ho,h2,hl,h3⟩:=r
 obtain⟨a,w,bs,g1,g2,g3,g4,g5⟩:=(show NL K H O σ i (.k ks) ls from h3 i _ q)
 cases w<;>first | exact False.elim g4 | skip
 obtain⟨e1,e2⟩:=g4
 subst e2
 exact⟨O,a,bs,h1,ho,h2,hl,h3,g1,g2,g3,e1,g5⟩
theorem pds_sdA (hN:X.N[i]? =some x) (hv:Vis X.env.scope x) (hk:PD X B b fk) (hc:PD X B c fv) (hs:aB4 b=true:=by rfl) (hs2:aB4 c=true:=by rfl) (hline:(apos.endLine==cpos.line)=true:=by rfl) (hline2:(apos2.endLine==cpos2.line)=true:=by rfl)
  (hbase:attributeBase (.Call (.Attribute (.Name x p) "setdefault" apos) [b,.List [] p2] [] cpos) "append" X.env (eval (.Call (.Attribute (.Name x p) "setdefault" apos) [b,.List [] p2] [] cpos) X.env)=eval (.Call (.Attribute (.Name x p) "setdefault" apos) [b,.List [] p2] [] cpos) X.env:=by rfl)
  (hsw:swapsWith (.Call (.Attribute (.Call (.Attribute (.Name x p) "setdefault" apos) [b,.List [] p2] [] cpos) "append" apos2) [c] [] cpos2) none pos.line X.env=pure false:=by rfl)
  (hd:(x==("__debug__":Str))=false:=by decide) (hcd:(x==("__classdict__":Str))=false:=by decide):
  PDS X B (.Expr (.Call (.Attribute (.Call (.Attribute (.Name x p) "setdefault" apos) [b,.List [] p2] [] cpos) "append" apos2) [c] [] cpos2) pos) (sSdA i fk (aAc fv aAv)):=by
 refine PS.of (ps_expr (pe_bm PySem.F.plainAttrs_list PySem.F.slot_list_append PySem.F.type_list_append mt_append (pe_dsd (pe_var hN hv hd hcd) hk (pe_lst aBx) ⟨rfl,by rw[star2 hs rfl];rfl,hline,by rw[star2 hs rfl];rfl⟩) (aAd hc aAl (aAx hs2)) (hbase:=hbase) (hfew:=by rw[star1 hs2];rfl) (hline:=hline2) (hs:=aAx hs2) (hplain:=rfl)) hsw) fun E σ H h=> ?_
 obtain⟨ρ,r,h⟩:=h
 unfold sSdA at h
 split at h
 ·rename_i ks ls qi
  obtain⟨O,a,bs,_,_,_,_,_,_,z2,z3,_,_⟩:=r.nl_at qi
  refine⟨.ref a,z2,a,rfl,.inl ⟨_,.inl z3⟩,ρ,r,(aBa r h).imp fun kd k1 u H1 s1 i1=>⟨Nat.zero_le _,fun l hl=> ?_⟩⟩
  clear z3
  split at k1
  ·rename_i key hkey
   split at k1
   ·rename_i hz
    have eu:=keyOf_V i1 hkey
    subst eu
    have r1:=r.mono s1
    obtain⟨O1,a1,bs1,h1,ho,h2,hle,h3,g1,g2,g3,g4,g5⟩:=r1.nl_at qi
    have ea:a=a1:=by rw[z2] at g2;cases g2;rfl
    subst ea
    have al:a≠l:=fun z=>by subst z;rw[hl] at g3;cases g3
    have lb:bs1.length=ls.length:=g5.length
    refine⟨ks.zip (bs1.map V.ref),key,by rw[aAk al];exact g3,rfl,?_,fun v l1=> ?_,fun l1=> ?_⟩
    ·rw[List.length_zip,List.length_map,lb]
     have:=sizeLine_eq
     omega
    ·rw[valV_zip g4] at l1
     split at k1
     ·rename_i j hj
      rw[hj] at l1
      cases hb:bs1[j]? with
      | none=>rw[show (some j:Option Nat).bind (fun j=>(bs1[j]?).map V.ref)=(bs1[j]?).map V.ref from rfl,hb] at l1;cases l1
      | some b0=>
       rw[show (some j:Option Nat).bind (fun j=>(bs1[j]?).map V.ref)=(bs1[j]?).map V.ref from rfl,hb] at l1
       cases l1
       have hjl:j<ls.length:=by rw[←lb];exact (List.getElem?_eq_some_iff.mp hb).1
       have hds:ls[j]? =some ls[j]:=List.getElem?_eq_getElem hjl
       obtain⟨b',vs1,f1,f2,f3,f4⟩:=g5.at (j0:=0) hds
       rw[hb] at f1
       cases f1
       have bl:b0≠l:=fun z=>by subst z;rw[hl] at f3;cases f3
       have r3:=r1.mono (aAn hl (.lst []))
       refine⟨.inl ⟨rfl,_,SqL.of (show upd H1 l (.lst []) b0=some (.lst vs1) by rw[aAk bl];exact f3)⟩,ρ,r3,(aBa r3 k1).imp fun as k2 us H4 s4 i4=> ?_⟩
       rw[hds] at k2
       split at k2
       ·rename_i d ds e1 e2
        cases e2
        cases i4 with
        | cons id1 rest=>
         cases rest
         split at k2
         ·rename_i hh
          have r4:=r3.mono s4
          obtain⟨O4,a4,bs4,y1,yo,y2,yl,y3,x1,x2,x3,x4,x5⟩:=r4.nl_at qi
          have ea4:a=a4:=by rw[z2] at x2;cases x2;rfl
          subst ea4
          have eb:bs1=bs4:=by
           have w3:=s4 a _ (show upd H1 l (.lst []) a=some _ by rw[aAk al];exact g3)
           rw[w3] at x3
           have:=Option.some.inj x3
           injection this with this
           exact zip_inj g4 x4 this
          subst eb
          obtain⟨b',vs4,c1,c2,c3,c4⟩:=x5.at (j0:=0) hds
          rw[hb] at c1
          cases c1
          rw[Nat.zero_add] at c2
          exact⟨b0,vs4,_,rfl,rfl,c3,by rw[←c4.length];exact Nat.lt_of_lt_of_le hh.2 (by decide),k2 _ _ (Rel.nl_put y1 yo y2 yl y3 qi c2 (c4.append (.cons (off_imm yo hh.1 id1) .nil)))⟩
         ·exact False.elim k2
       ·exact False.elim k2
     ·rename_i hj
      rw[hj] at l1
      cases l1
    ·have l1':=l1
     rw[valV_zip g4] at l1
     split at k1
     ·rename_i j hj
      exfalso
      rw[hj,show (some j:Option Nat).bind (fun j=>(bs1[j]?).map V.ref)=(bs1[j]?).map V.ref from rfl] at l1
      have hjk:j<bs1.length:=by rw[←g4];exact (List.findIdx?_eq_some_iff_getElem.mp hj).1
      rw[List.getElem?_eq_getElem hjk] at l1
      cases l1
     ·rename_i hj
      rw[putK_none l1']
      have r5:=Rel.nl_new (k:=key) h1 ho h2 hle h3 qi g1 g2 g3 g4 g5 hl
      have hi:i<ρ.length:=(List.getElem?_eq_some_iff.mp qi).1
      refine⟨.inl ⟨rfl,_,SqL.of (show upd (upd H1 l (.lst [])) a _ l=some (.lst []) by rw[aAk (Ne.symm al)];exact aAi)⟩,_,r5,(aBa r5 k1).imp fun as k2 us H4 s4 i4=> ?_⟩
      split at k2
      ·rename_i d e1
       cases i4 with
       | cons id1 rest=>
        cases rest
        split at k2
        ·rename_i hh
         have r4:=r5.mono s4
         have qi4:(ρ.set i (some (.nl (.k (ks++ [key])) (ls++ [[]]))))[i]? =some (some (.nl (.k (ks++ [key])) (ls++ [[]]))):=List.getElem?_set_self hi
         obtain⟨O4,a4,bs4,y1,yo,y2,yl,y3,x1,x2,x3,x4,x5⟩:=r4.nl_at qi4
         have ea4:a=a4:=by rw[z2] at x2;cases x2;rfl
         subst ea4
         have ez:ks.zip (bs1.map V.ref)++ [(key,.ref l)]=(ks++ [key]).zip ((bs1++ [l]).map V.ref):=by
          rw[List.map_append,List.zip_append (by rw[List.length_map];exact g4)]
          rfl
         have eb:bs1++ [l]=bs4:=by
          have w3:=s4 a _ aAi
          rw[w3] at x3
          have:=Option.some.inj x3
          injection this with this
          rw[ez] at this
          exact zip_inj (by rw[List.length_append,List.length_append,g4];rfl) x4 this
         subst eb
         obtain⟨b',vs4,c1,c2,c3,c4⟩:=x5.at (j0:=0) (j:=ls.length) (ds:=[]) (by simp)
         rw[←lb,List.getElem?_append_right (Nat.le_refl _),Nat.sub_self] at c1
         cases c1
         rw[Nat.zero_add] at c2
         have r6:=Rel.nl_put y1 yo y2 yl y3 qi4 c2 (c4.append (.cons (off_imm yo hh id1) .nil))
         rw[List.set_set] at r6
         exact⟨l,vs4,_,rfl,rfl,c3,by rw[←c4.length];exact Nat.lt_of_lt_of_le (Nat.zero_lt_one) (by decide),k2 _ _ r6⟩
        ·exact False.elim k2
      ·exact False.elim k2
   ·exact False.elim k1
  ·exact False.elim k1
 ·exact False.elim h
end
section
variable {X:Cx} {B:Hp} {a b:Expr} {fa fb:Rho→M D} {pos p2 apos cpos:Pos}
noncomputable def gGetL:D→D→M D:=fun d k=>match d,keyOf k with
 | .dk kvs,some key=>(match valD kvs key with | some v=>ok v | none=>ok (.lst []))
 | _,_=>none
noncomputable def getL (fa fb:Rho→M D):Rho→M D:=fun ρ=>bnd (fa ρ) fun x=>match x with
 | .dk kvs=>bnd (fb ρ) fun y=>gGetL (.dk kvs) y
 | _=>none
theorem pd_getL {k:Nat} (hr:aCw k X.A) (ha:PD X B a fa) (hb:PD X B b fb) (hs:aB4 b=true:=by rfl) (hline:(apos.endLine==cpos.line)=true:=by rfl) (hbase:attributeBase a "get" X.env (eval a X.env)=eval a X.env:=by rfl):
  PD X B (.Call (.Attribute a "get" apos) [b,.List [] p2] [] cpos) (getL fa fb):=by
 refine PE.of (pe_dget2 (hu_of hr) ha hb (pe_lst aBx) ⟨hbase,by rw[star2 hs rfl];rfl,hline,by rw[star2 hs rfl];rfl⟩) fun σ H Q h=> ?_
 obtain⟨ρ,r1,h⟩:=h
 refine⟨ρ,r1,(Res.bind h).imp fun dx h1 v H1 e1 i1=> ?_⟩
 cases i1 with
 | dk hh rr=>
  rename_i a0 kvs vs
  refine⟨a0,rfl,.inl ⟨_,hh⟩,ρ,r1.mono e1,(Res.bind h1).mono e1 fun dy h2 u H2 e2 i2=>⟨Nat.zero_le _,fun l hl=> ?_⟩⟩
  unfold gGetL at h2
  split at h2
  ·rename_i kvs' key e3 hk
   cases e3
   have eu:=keyOf_V i2 hk
   subst eu
   have sm:Same H2 (upd H2 l (.lst [])):=aAn hl _
   refine⟨_,.inl ⟨_,_,rd_mono (e2.trans sm) hh,rfl,rfl⟩,?_⟩
   rcases isK_val (k:=key) (IsK.mono (e2.trans sm) rr) with⟨z1,z2⟩ |⟨d',v',z1,z2,i'⟩
   ·rw[z1] at h2
    rw[z2]
    exact h2 _ _ ((e1.trans e2).trans sm) (.lst (SqL.of aAi) .nil)
   ·rw[z1] at h2
    rw[z2]
    exact h2 _ _ ((e1.trans e2).trans sm) i'
  ·exact False.elim h2
 | _=>exact False.elim h1
theorem refs_inj: ∀{bs bs':List Addr},bs.map V.ref=bs'.map V.ref→bs=bs'
 | [],[],_=>rfl
 | b::bs,b'::bs',h=>by
  rw[List.map_cons,List.map_cons] at h
  injection h with e1 e2
  injection e1 with e3
  rw[e3,refs_inj e2]
theorem Rel.nl_at0 {K:PySem.W.Frag} {H₀ H:Hp} {ρ:Rho} {σ:St} {i:Nat} {ls:List (List D)} (r:Rel K H₀ ρ σ H) (q:ρ[i]? =some (some (.nl .l ls))):
  ∃(O:Nat→Option Addr) (a:Addr) (bs:List Addr),(∀i j a,O i=some a→O j=some a→i=j)∧OwnK H O∧Same H₀ (Off H O)∧ρ.length=σ.length∧(∀i sv,ρ[i]? =some (some sv)→Slot K H O σ i sv)∧
   O i=some a∧σ[i]? =some (some (.ref a))∧H a=some (.lst (bs.map V.ref))∧InL K H O σ.length i 0 bs ls:=by
 obtain⟨O,h1,ho,h2,hl,h3⟩:=r
 obtain⟨a,w,bs,g1,g2,g3,g4,g5⟩:=(show NL K H O σ i .l ls from h3 i _ q)
 cases w<;>first | exact False.elim g4 | skip
 cases g4
 exact⟨O,a,bs,h1,ho,h2,hl,h3,g1,g2,g3,g5⟩
variable {c:Expr} {fk fv:Rho→M D} {p cpos2 apos2:Pos} {i:Nat} {x:Str}
noncomputable def sIxA (i:Nat) (fk:Rho→M D) (ga:Rho→M (List D)):Rho→Option Out:=fun ρ=>match ρ[i]? with
 | some (some (.nl .l ls))=>lft (fk ρ) ρ fun kd=>(match kd with
  | .int n=>(match ixN ls.length n with
   | some j=>lft (ga ρ) ρ fun as=>(match as,ls[j]? with
    | [d],some ds=>if d.imm=true∧ds.length<100000 then some (.nx (ρ.set i (some (.nl .l (ls.set j (ds++ [d])))))) else none
    | _,_=>none)
   | none=>none)
  | _=>none)
 | _=>none
theorem pds_ixA (hN:X.N[i]? =some x) (hv:Vis X.env.scope x) (hk:PD X B b fk) (hc:PD X B c fv) (hp:PlainIx b) (hs2:aB4 c=true:=by rfl) (hline2:(apos2.endLine==cpos2.line)=true:=by rfl)
  (hbase:attributeBase (.Subscript (.Name x p) b p2) "append" X.env (eval (.Subscript (.Name x p) b p2) X.env)=eval (.Subscript (.Name x p) b p2) X.env:=by rfl)
  (hsw:swapsWith (.Call (.Attribute (.Subscript (.Name x p) b p2) "append" apos2) [c] [] cpos2) none pos.line X.env=pure false:=by rfl)
  (hd:(x==("__debug__":Str))=false:=by decide) (hcd:(x==("__classdict__":Str))=false:=by decide):
  PDS X B (.Expr (.Call (.Attribute (.Subscript (.Name x p) b p2) "append" apos2) [c] [] cpos2) pos) (sIxA i fk (aAc fv aAv)):=by
 refine PS.of (ps_expr (pe_bm PySem.F.plainAttrs_list PySem.F.slot_list_append PySem.F.type_list_append mt_append (pe_ix ix_seq (pe_var hN hv hd hcd) hk hp) (aAd hc aAl (aAx hs2)) (hbase:=hbase) (hfew:=by rw[star1 hs2];rfl) (hline:=hline2) (hs:=aAx hs2) (hplain:=rfl)) hsw) fun E σ H h=> ?_
 obtain⟨ρ,r,h⟩:=h
 unfold sIxA at h
 split at h
 ·rename_i ls qi
  obtain⟨O,a,bs,_,_,_,_,_,_,z2,_,_⟩:=r.nl_at0 qi
  refine⟨.ref a,z2,ρ,r,(aBa r h).imp fun kd k1 u H1 s1 i1=> ?_⟩
  split at k1
  ·rename_i n
   cases i1
   split at k1
   ·rename_i j hj
    have r1:=r.mono s1
    obtain⟨O1,a1,bs1,h1,ho,h2,hle,h3,g1,g2,g3,g5⟩:=r1.nl_at0 qi
    have ea:a=a1:=by rw[z2] at g2;cases g2;rfl
    subst ea
    have lb:bs1.length=ls.length:=g5.length
    have hjl:j<ls.length:=(ixN_seq hj).2.1
    have hds:ls[j]? =some ls[j]:=List.getElem?_eq_getElem hjl
    obtain⟨b0,vs1,f1,f2,f3,f4⟩:=g5.at (j0:=0) hds
    refine .inl ⟨a,bs1.map V.ref,n,.ref b0,rfl,rfl,SqL.of g3,?_,.inl ⟨rfl,_,SqL.of f3⟩,ρ,r1,(aBa r1 k1).imp fun as k2 us H4 s4 i4=> ?_⟩
    ·unfold atI
     rw[List.length_map,lb,hj]
     show (bs1.map V.ref)[j]? =_
     rw[List.getElem?_map,f1]
     rfl
    rw[hds] at k2
    split at k2
    ·rename_i d ds e1 e2
     cases e2
     cases i4 with
     | cons id1 rest=>
      cases rest
      split at k2
      ·rename_i hh
       have r4:=r1.mono s4
       obtain⟨O4,a4,bs4,y1,yo,y2,yl,y3,x1,x2,x3,x5⟩:=r4.nl_at0 qi
       have ea4:a=a4:=by rw[z2] at x2;cases x2;rfl
       subst ea4
       have eb:bs1=bs4:=by
        have w3:=s4 a _ g3
        rw[w3] at x3
        have:=Option.some.inj x3
        injection this with this
        exact refs_inj this
       subst eb
       obtain⟨b',vs4,c1,c2,c3,c4⟩:=x5.at (j0:=0) hds
       rw[f1] at c1
       cases c1
       rw[Nat.zero_add] at c2
       exact⟨b0,vs4,_,rfl,rfl,c3,by rw[←c4.length];exact Nat.lt_of_lt_of_le hh.2 (by decide),k2 _ _ (Rel.nl_put y1 yo y2 yl y3 qi c2 (c4.append (.cons (off_imm yo hh.1 id1) .nil)))⟩
      ·exact False.elim k2
    ·exact False.elim k2
   ·exact False.elim k1
  ·exact False.elim k1
 ·exact False.elim h
end
section
variable {K:PySem.W.Frag} {H₀ H H':Hp} {ρ:Rho} {σ:St} {O O':Nat→Option Addr}
theorem Slot.setσ {i i':Nat} {sv:SV} {v:Option V} (h:Slot K H O σ i' sv) (e:i'≠i):Slot K H O (σ.set i v) i' sv:=by
 have es:(σ.set i v)[i']? =σ[i']? :=List.getElem?_set_ne (Ne.symm e)
 cases sv with
 | sh d=>obtain⟨v,e1,e2⟩:=h;exact⟨v,by rw[es];exact e1,e2⟩
 | own ds=>obtain⟨a,vs,e1,e2,e3,e4⟩:=h;exact⟨a,vs,e1,by rw[es];exact e2,e3,e4⟩
 | oin a C dx fs=>obtain⟨e1,e2,e3,vs,e4,e5⟩:=h;exact⟨e1,by rw[es];exact e2,e3,vs,e4,e5⟩
 | ow o=>obtain⟨a,w,e1,e2,e3,e4⟩:=h;exact⟨a,w,e1,by rw[es];exact e2,e3,e4⟩
 | tk ks=>obtain⟨a,e1,e2⟩:=h;exact⟨a,by rw[es];exact e1,e2⟩
 | nl kd ls=>exact NL.move2 (by rw[List.length_set]) es (fun m b w _ e1 e2=>⟨e1,e2⟩) (Same.refl _) h
theorem Rel.nl_two {i:Nat} {p c0 c1:Addr} (r:Rel K H₀ ρ σ H) (hs:Same H H') (p0:H p=none) (n0:H c0=none) (n1:H c1=none) (d1:p≠c0) (d2:p≠c1) (d3:c0≠c1) (hp:H' p=some (.lst [.ref c0,.ref c1])) (h0:H' c0=some (.lst [])) (h1':H' c1=some (.lst [])):
  Rel K H₀ (ρ.set i (some (.nl .l [[],[]]))) (σ.set i (some (.ref p))) H':=by
 obtain⟨O,h1,ho,h2,hl,h3⟩:=id r
 by_cases hi:i<σ.length
 case neg=>
  have s1: ∀x:Option SV,ρ.set i x=ρ:=fun x=>List.set_eq_of_length_le (by omega)
  have s2: ∀x:Option V,σ.set i x=σ:=fun x=>List.set_eq_of_length_le (by omega)
  rw[s1,s2]
  exact r.mono hs
 obtain⟨M0,hM0⟩: ∃M,M=nx σ.length i 0:=⟨_,rfl⟩
 obtain⟨M1,hM1⟩: ∃M,M=nx σ.length i 1:=⟨_,rfl⟩
 have i0:i≠M0:=by have:=nx_le (n:=σ.length) (i:=i) 0;omega
 have i1:i≠M1:=by have:=nx_le (n:=σ.length) (i:=i) 1;omega
 have i01:M0≠M1:=fun z=>by
  rw[hM0,hM1] at z
  have:=(nx_inj hi hi z).2
  omega
 have no: ∀m b,O m=some b→H b≠none:=fun m b e z=>by
  obtain⟨u,w,_⟩:=ho m b e
  rw[w] at z
  cases z
 obtain⟨O2,hO2⟩: ∃O2:Nat→Option Addr,O2=fun m=>if m=i then some p else if m=M0 then some c0 else if m=M1 then some c1 else O m:=⟨_,rfl⟩
 have Oi:O2 i=some p:=by rw[hO2];exact if_pos rfl
 have O0:O2 M0=some c0:=by rw[hO2];show (if M0=i then some p else if M0=M0 then some c0 else if M0=M1 then some c1 else O M0)=_;rw[if_neg (Ne.symm i0),if_pos rfl]
 have O1:O2 M1=some c1:=by rw[hO2];show (if M1=i then some p else if M1=M0 then some c0 else if M1=M1 then some c1 else O M1)=_;rw[if_neg (Ne.symm i1),if_neg (Ne.symm i01),if_pos rfl]
 have On: ∀m,m≠i→m≠M0→m≠M1→O2 m=O m:=fun m e1 e2 e3=>by rw[hO2];show (if m=i then some p else if m=M0 then some c0 else if m=M1 then some c1 else O m)=_;rw[if_neg e1,if_neg e2,if_neg e3]
 have oc: ∀m b,O2 m=some b→(m=i∧b=p)∨(m=M0∧b=c0)∨(m=M1∧b=c1)∨(O m=some b∧b≠p∧b≠c0∧b≠c1):=fun m b e=>by
  by_cases e1:m=i
  ·subst e1;rw[Oi] at e;cases e;exact .inl ⟨rfl,rfl⟩
  by_cases e2:m=M0
  ·subst e2;rw[O0] at e;cases e;exact .inr (.inl ⟨rfl,rfl⟩)
  by_cases e3:m=M1
  ·subst e3;rw[O1] at e;cases e;exact .inr (.inr (.inl ⟨rfl,rfl⟩))
  rw[On m e1 e2 e3] at e
  have nb:=no m b e
  exact .inr (.inr (.inr ⟨e,fun z=>nb (by rw[z];exact p0),fun z=>nb (by rw[z];exact n0),fun z=>nb (by rw[z];exact n1)⟩))
 have sm:Same (Off H O) (Off H' O2):=fun b o qb=>by
  have qh:=Off.same H O b o qb
  refine Off.of (hs _ _ qh) fun m z=> ?_
  rcases oc m b z with⟨_,e⟩ |⟨_,e⟩ |⟨_,e⟩ |⟨e,_⟩
  ·subst e;rw[p0] at qh;cases qh
  ·subst e;rw[n0] at qh;cases qh
  ·subst e;rw[n1] at qh;cases qh
  ·exact Off.not qb m e
 refine⟨O2,fun m m' b q1 q2=> ?_,fun m b qm=> ?_,h2.trans sm,by rw[List.length_set,List.length_set,hl],fun i' sv q'=> ?_⟩
 ·rcases oc m b q1 with⟨e1,f1⟩ |⟨e1,f1⟩ |⟨e1,f1⟩ |⟨e1,f1,f2,f3⟩<;>rcases oc m' b q2 with⟨e2,g1⟩ |⟨e2,g1⟩ |⟨e2,g1⟩ |⟨e2,g1,g2,g3⟩<;>
   first |(rw[e1,e2];done) | exact absurd (f1.symm.trans g1) (by assumption) | exact absurd (g1.symm.trans f1) (by assumption) | exact absurd f1 g1 | exact absurd f1 g2 | exact absurd f1 g3 | exact absurd g1 f1 | exact absurd g1 f2 | exact absurd g1 f3 | exact h1 m m' b e1 e2
 ·rcases oc m b qm with⟨_,e⟩ |⟨_,e⟩ |⟨_,e⟩ |⟨e,_⟩
  ·subst e;exact⟨_,hp,rfl⟩
  ·subst e;exact⟨_,h0,rfl⟩
  ·subst e;exact⟨_,h1',rfl⟩
  ·obtain⟨u,w,z⟩:=ho m b e
   exact⟨u,hs _ _ w,z⟩
 ·have hi':i'<σ.length:=by have:=(List.getElem?_eq_some_iff.mp q').1;rw[List.length_set] at this;omega
  by_cases e:i'=i
  ·subst e
   rw[List.getElem?_set_self (by omega)] at q'
   have q'':=Option.some.inj (Option.some.inj q')
   subst q''
   refine⟨p,_,[c0,c1],Oi,List.getElem?_set_self hi,hp,rfl,?_⟩
   rw[List.length_set]
   exact⟨⟨by rw[←hM0];exact O0,[],h0,.nil⟩,⟨by rw[←hM1];exact O1,[],h1',.nil⟩,True.intro⟩
  ·rw[List.getElem?_set_ne (Ne.symm e)] at q'
   refine Slot.setσ ((h3 i' sv q').other (i:=i) hi' (fun m b w hm e1 e2=>⟨?_,hs _ _ e2⟩) sm) e
   rw[On m ?_ ?_ ?_]
   ·exact e1
   ·intro z
    rcases hm with h |⟨j',h⟩
    ·omega
    ·have:=nx_le (n:=σ.length) (i:=i') j'
     omega
   ·intro z
    rcases hm with h |⟨j',h⟩
    ·have:=nx_le (n:=σ.length) (i:=i) 0
     omega
    ·rw[z,hM0] at h
     exact e (nx_inj hi hi' h).1.symm
   ·intro z
    rcases hm with h |⟨j',h⟩
    ·have:=nx_le (n:=σ.length) (i:=i) 1
     omega
    ·rw[z,hM1] at h
     exact e (nx_inj hi hi' h).1.symm
end
section
variable {X:Cx} {B:Hp} {pos pos' p p1 p2:Pos} {i:Nat} {x:Str}
noncomputable def sNew2 (i:Nat):Rho→Option Out:=fun ρ=>some (.nx (ρ.set i (some (.nl .l [[],[]]))))
theorem pds_new2 (hN:X.N.Nodup) (hi:X.N[i]? =some x) (hx:Loc X.env.scope x) (hs:swapsWith (.List [.List [] p1,.List [] p2] p) (some (.Name x pos')) pos.line X.env=pure false:=by rfl) (hf:X.fn x=true∨X.env.scope.names.lookup x=some .local:=by first | exact .inl rfl | exact .inr rfl | assumption):
  PDS X B (.Assign [.Name x pos'] (.List [.List [] p1,.List [] p2] p) pos) (sNew2 i):=by
 refine PS.of (ps_set hN hi hx (pe_lst (aA4 (pe_lst aBx) (aA4 (pe_lst aBx) aBx))) hs hf) fun E σ H h=> ?_
 obtain⟨ρ,r,h⟩:=h
 refine⟨Nat.zero_le _,fun c0 n0=>⟨Nat.zero_le _,fun c1 n1=>⟨by show 2≤sizeLine;decide,fun q n2=> ?_⟩⟩⟩
 have d3:c0≠c1:=fun z=>by subst z;rw[aAi] at n1;cases n1
 have n1':H c1=none:=by rw[aAk (Ne.symm d3)] at n1;exact n1
 have d2:q≠c1:=fun z=>by subst z;rw[aAi] at n2;cases n2
 have d1:q≠c0:=fun z=>by subst z;rw[aAk d3,aAi] at n2;cases n2
 have p0:H q=none:=by rw[aAk d2,aAk d1] at n2;exact n2
 exact h _ _ (r.nl_two (i:=i) ((aAn n0 _).trans ((aAn n1 _).trans (aAn n2 _))) p0 n0 n1' d1 d2 d3 aAi (by rw[aAk (Ne.symm d1),aAk d3];exact aAi) (by rw[aAk (Ne.symm d2)];exact aAi))
end
section
variable {X:Cx} {B:Hp} {tg a b:Expr} {fa fb:Rho→M D} {pos p:Pos}
noncomputable def itRB (f g:Rho→M D):Rho→M (List D):=fun ρ=>bnd (f ρ) fun d=>bnd (g ρ) fun d2=>match d,d2 with
 | .int i,.int j=>if (-(2^62)≤i∧i<2^62∧ -(2^62)≤j∧j<2^62) then ok (rng i (j-i).toNat) else none
 | _,_=>none
theorem pit_rb (hg:Gl X "range") (hm:X.mg "range"=none) (ha:PD X B a fa) (hb:PD X B b fb) (hs:aB4 a=true:=by rfl) (hs2:aB4 b=true:=by rfl):PIt X B tg (.Call (.Name "range" p) [a,b] [] pos) (itRB fa fb):=by
 intro pins s σ H R ρ I r q
 refine pi_range2 (tg:=tg) hg hm (aA4 ha (aA4 hb aBx (aAx hs2)) (aAx hs)) (star2 hs hs2) (star1 hs2) pins s σ H R I ⟨ρ,r,(Res.bind q).imp fun d q1 v H1 e1 i1=>⟨ρ,r.mono e1,(Res.bind q1).mono e1 fun d2 q2 v2 H2 e2 i2=> ?_⟩⟩
 cases i1<;>first | exact False.elim q2 | skip
 cases i2<;>first | exact False.elim q2 | skip
 rename_i i j
 dsimp only at q2
 split at q2
 ·rename_i hj
  exact⟨i,j,rfl,hj,q2 _ H2 (e1.trans e2) (itd_rng i (j-i).toNat H2)⟩
 ·exact False.elim q2
end
end L2.PU
namespace L2.PU
open PySem PySem.Spec PyProof.Rows PySem.W
section
variable {prog:Program} {w:World} {A:Around} {E:Value→Shared→Prop} {s:Shared}
theorem paired_zip {R:Value→List Str→Prop}: ∀{vs:List Value} {ts:List (List Str)},Paired R vs ts→(vs.zip ts).map Prod.fst=vs∧(vs.zip ts).map Prod.snd=ts∧∀q∈vs.zip ts,R q.1 q.2
 | _,_,.nil=>⟨rfl,rfl,fun _ h=>by cases h⟩
 | _,_,.cons (a:=a) (b:=b) h r=>by
  obtain⟨e1,e2,e3⟩:=paired_zip r
  refine⟨by rw[List.zip_cons_cons,List.map_cons,e1],by rw[List.zip_cons_cons,List.map_cons,e2],fun q hq=> ?_⟩
  rw[List.zip_cons_cons,List.mem_cons] at hq
  rcases hq with rfl | hq
  ·exact h
  ·exact e3 q hq
theorem sorted_listT {P:Value→Prop} {a:Addr} {T:String} {o:Obj} {nn:Nat} {vals:List Value} {ts:List (List Str)} {Q:Value→Shared→Prop} (hT:T="list"∨T="tuple") (ho:s.heap.get? a=some o) (hcl:o.cls= .type T) (hd:o.data= .seq vals.toArray nn)
  (pr:Paired (fun v ks=>P v∧TKey (PySem.strKind prog w) s.heap v ks) vals ts) (hne:2≤ts.length→∀k∈ts,k≠[]) (hl:ts.length<64)
  (h: ∀out l h' tk d m,Paired (fun v ks=>P v∧TKey (PySem.strKind prog w) s.heap v ks) out (srtT ts)→s.heap.objs.size≤l→h'.get? l=some {cls:= .type "list",data:= .seq out.toArray m}→Kps s.heap h'→Q (.ref l) {s with heap:=h',toks:=tk,drawn:=d}):
  wpAny (model prog w) A (call (.builtin "sorted") [.ref a]) Q E s:=by
 have hs:sizeLine=16777216:=sizeLine_eq
 obtain⟨pe,kv,hpr⟩:=paired_zip pr
 obtain⟨pl',hpl⟩: ∃pl',pl'=vals.zip ts:=⟨_,rfl⟩
 rw[←hpl] at pe kv hpr
 have pll:pl'.length=ts.length:=by rw[←kv,List.length_map]
 have vl:vals.length=ts.length:=by rw[←pe,List.length_map];omega
 refine Calls.call_function_entry kind_sorted plain_sorted entry_sorted (args_sorted1 _) ?_
 unfold Builtin.«sorted»
 refine wpAny_bind (m:=checkCount "sorted" 1 1 _) (wpAny_pure ?_)
 refine wpAny_bind (collect_seq (A:=A.in1) hT ho hcl hd (by omega) ?_)
 obtain⟨h1,hh1⟩: ∃h1:Heap,h1=(s.heap.push (seqObj "list" #[] 0)).update s.heap.objs.size (Obj.mapSeq (· ++vals.toArray)):=⟨_,rfl⟩
 have le:s.heap.objs.size≤h1.objs.size:=by
  rw[hh1,Heap.size_update,Heap.size_push]
  exact Nat.le_succ _
 have hk: ∀b ob,s.heap.get? b=some ob→h1.get? b=some ob:=fun b ob eb=>by
  rw[hh1,Heap.get?_update_other _ _ (Nat.ne_of_gt (Heap.lt_size eb))]
  exact Heap.get?_push_of_some _ eb
 obtain⟨tk,htk⟩: ∃tk,tk=s.toks:=⟨_,rfl⟩
 obtain⟨d,hdd⟩: ∃d,d=s.drawn:=⟨_,rfl⟩
 rw[←hh1]
 show wpAny _ _ _ _ _ {s with heap:=h1,toks:=s.toks,drawn:=s.drawn}
 rw[←htk,←hdd]
 refine wpAny_bind (wpAny_newList ?_ (by omega))
 have hoL:(h1.push (seqObj "list" vals.toArray 0)).get? h1.objs.size=some (seqObj "list" vals.toArray 0):=Heap.get?_push_size _ rfl
 show wpAny _ _ _ _ _ {s with heap:=h1.push (seqObj "list" vals.toArray 0),toks:=tk,drawn:=d}
 have gv: ∀i (hi:i<pl'.length),vals.getD i Value.none=pl'[i].1∧(pl'.map Prod.snd).getD i []=pl'[i].2:=fun i hi=>by
  rw[←pe]
  constructor
  ·rw[List.getD_eq_getElem?_getD,List.getElem?_map,List.getElem?_eq_getElem hi];rfl
  ·rw[List.getD_eq_getElem?_getD,List.getElem?_map,List.getElem?_eq_getElem hi];rfl
 refine wpAny_bind (wpAny_holding (wpAny_call_entry slot_list_sort ⟨_,hoL,rfl⟩ entry_list_sort (sort_T (lt:=fun i j=>lexS ((pl'.map Prod.snd).getD i []) ((pl'.map Prod.snd).getD j [])) hoL (by omega) (fun h2 s' kp=> ?_) ⟨_,rfl,?_⟩) (args_list_sort _)))
 ·have tk': ∀q∈pl',TKey (PySem.strKind prog w) s'.heap q.1 q.2:=fun q hq=>(hpr q hq).2.moved fun p o _ e=>by
   have e2:=hk p o e
   exact kp p o (Nat.ne_of_lt (Heap.lt_size e2)) (Heap.get?_push_of_some _ e2)
  obtain⟨fs,t1,t2,t3⟩:=firsts_txt (prog:=prog) (w:=w) (h:=s'.heap) vals (fun v hv=>by
   rw[←pe] at hv
   obtain⟨q,hq,rfl⟩:=List.mem_map.mp hv
   exact⟨q.2,tk' q hq,hne (by omega) _ (by rw[←kv];exact List.mem_map.mpr ⟨q,hq,rfl⟩)⟩)
  refine kat_kind (M:=model prog w) (T:= .type "str") t1 (by omega) (fun v hv=> ?_) rfl ⟨rfl,fun i j C hi hj hC=> ?_⟩
  ·obtain⟨x,u,rfl⟩:=t3 v hv
   exact .now
  ·have hi':i<pl'.length:=by omega
   have hj':j<pl'.length:=by omega
   unfold kas_ask
   rw[(gv i hi').1,(gv j hj').1]
   obtain⟨pa,ea,ka⟩:=tk' pl'[i] (List.getElem_mem _)
   obtain⟨pb,eb,kb⟩:=tk' pl'[j] (List.getElem_mem _)
   rw[ea,eb]
   refine ask_txts ka kb ?_
   rw[←(gv i hi').2,←(gv j hj').2]
   exact hC
 ·refine wpAny_pure ⟨_,rfl,?_⟩
  have k1:=get?_update_seq hoL (fun _=> #[])
  have k2:=get?_update_seq (Heap.get?_push_of_some (seqObj "list" #[] 0) (Heap.get?_push_of_some (seqObj "tuple" vals.toArray 0) k1)) (fun _=>((outT (fun i j=>lexS ((pl'.map Prod.snd).getD i []) ((pl'.map Prod.snd).getD j [])) vals.length).map fun i=>vals.getD i Value.none).toArray)
  refine h _ h1.objs.size _ tk d _ ?_ le k2 fun b o e=> ?_
  ·have es1:srtT ts=(outT (fun i j=>lexS ((pl'.map Prod.snd).getD i []) ((pl'.map Prod.snd).getD j [])) vals.length).map fun i=>(pl'.map Prod.snd).getD i []:=by
    have e0:vals.length=(pl'.map Prod.snd).length:=by rw[List.length_map];omega
    rw[e0]
    show srtT ts=srtT (pl'.map Prod.snd)
    rw[kv]
   rw[es1]
   have hin: ∀i∈outT (fun i j=>lexS ((pl'.map Prod.snd).getD i []) ((pl'.map Prod.snd).getD j [])) vals.length,i<pl'.length:=fun i hi=>by
    have:=List.mem_range.mp ((outT_perm _ _).mem_iff.mp hi)
    omega
   generalize outT (fun i j=>lexS ((pl'.map Prod.snd).getD i []) ((pl'.map Prod.snd).getD j [])) vals.length=ol at hin
   induction ol with
   | nil=>exact .nil
   | cons i ol ih=>
    rw[List.map_cons,List.map_cons]
    refine .cons ?_ (ih fun j hj=>hin j (List.mem_cons_of_mem _ hj))
    have hi:=hin i List.mem_cons_self
    rw[(gv i hi).1,(gv i hi).2]
    exact hpr _ (List.getElem_mem _)
  ·have lt:=Heap.lt_size (hk b o e)
   have ne:h1.objs.size≠b:=Nat.ne_of_gt lt
   show (sortedHeap _ _ _ _).get? b=some o
   unfold sortedHeap
   rw[Heap.get?_update_other _ _ ne]
   refine Heap.get?_push_of_some _ (Heap.get?_push_of_some _ ?_)
   rw[Heap.get?_update_other _ _ ne]
   exact Heap.get?_push_of_some _ (hk b o e)
end
section
variable {X:Cx} {B:Hp} {e:Expr} {fa:Rho→M D} {pos p:Pos}
theorem in_vals {P:Program} {w:World} {H:Hp} {h:Heap} (ok:HOk P w H h): ∀{vs:List V} {its:List Value} {ts:List (List Str)},TupL H vs ts→Vals vs its→Paired (fun v ks=>TupV H v∧TKey (PySem.strKind P w) h v ks) its ts
 | _,_,_,.nil,r=>by cases r;exact .nil
 | _,_,_,.cons ⟨q,e1,e2⟩ t,r=>by
  subst e1
  cases r with
  | cons r1 r2=>
   cases r1
   exact .cons ⟨⟨q,_,rfl,e2⟩,q,rfl,txt_key ok e2⟩ (in_vals ok t r2)
theorem call_sortedLT (hc:X.calm=true):CallR X (.builtin "sorted") (fun xs H Q=> ∃p ys ts,xs=[.ref p]∧(SqL X.K H p ys∨SqT X.K H p ys)∧TupL H ys ts∧(2≤ts.length→∀k∈ts,k≠[])∧ts.length<64∧∀r vs,H r=none→TupL H vs (srtT ts)→Q (.ref r) (upd H r (.lst vs))):=by
 intro pins s σ H xs us Q I r h
 obtain⟨p,ys,ts,rfl,hp,hi,hne,h64,q⟩:=h
 obtain⟨u,rfl,rx⟩:=vals1 r
 cases rx
 have hs:sizeLine=16777216:=sizeLine_eq
 have key: ∃(its:List Value) (T:String) (o:Obj) (nn:Nat),Vals ys its∧(T="list"∨T="tuple")∧s.heap.get? p=some o∧o.cls= .type T∧o.data= .seq its.toArray nn:=by
  rcases hp with hp | hp
  ·obtain⟨its,r1,⟨o,nn,e1,e2,_,e3⟩,_⟩:=I.list hp
   exact⟨its,"list",o,nn,r1,.inl rfl,e1,e2,e3⟩
  ·obtain⟨its,r1,⟨o,e1,e2,nn,e3⟩,_⟩:=I.tuple hp
   exact⟨its,"tuple",o,nn,r1,.inr rfl,e1,e2,e3⟩
 obtain⟨its,T,o,nn,r1,hT,ho,hcl,hd⟩:=key
 refine sorted_listT (P:=TupV H) hT ho hcl hd (in_vals I.hok hi r1) hne h64 fun out r h' tk d m hp' hr ho' kp=> ?_
 obtain⟨vs,v1,v2⟩:=out_vals I.hok hp'
 have hvl:vs.length=ts.length:=by rw[Paired.len v2,(srtT_perm ts).length_eq]
 exact⟨.ref r,_,(inv_drew I d).laid (t':=tk) kp hr (show aBw X.prog X.w _ h' _ (.lst _) from⟨by omega,out,m,v1,ho'⟩),rfl,q _ vs (I.hok.fresh hr) v2⟩
noncomputable def srtLT:D→M D
 | .lst ds=>match tupsL ds with | some l=>if l.length<64∧(2≤l.length→∀k∈l,k≠[]) then ok (.lst ((srtT l).map fun x=>D.tup (x.map D.str))) else none | none=>none
 | .tup ds=>match tupsL ds with | some l=>if l.length<64∧(2≤l.length→∀k∈l,k≠[]) then ok (.lst ((srtT l).map fun x=>D.tup (x.map D.str))) else none | none=>none
 | _=>none
theorem pd_sortedLT (hc:X.calm=true) (hg:Gl X "sorted") (hm:X.mg "sorted"=none) (ha:PD X B e fa) (hs:aB4 e=true:=by rfl):PD X B (.Call (.Name "sorted" p) [e] [] pos) (f1 srtLT fa):=by
 refine PE.of (aC4 (call_sortedLT hc) hg hm boot_sorted (aA4 ha aBx (aAx hs)) (he:=aAx hs) (hpl:=by rfl)) fun σ H Q h=> ?_
 obtain⟨ρ,r1,h⟩:=h
 refine⟨ρ,r1,(Res.bind h).imp fun d q1 v H1 e1 i1=> ?_⟩
 cases i1 with
 | lst hh rr=>
  dsimp only[srtLT] at q1
  split at q1
  ·rename_i l hx
   have ed:=tupsL_eq _ hx
   subst ed
   split at q1
   ·rename_i hz
    refine⟨_,_,l,rfl,.inl hh,isl_tups rr,hz.2,hz.1,fun r vs hr' tv=>q1 _ _ (e1.trans (aAn hr' _)) (.lst (SqL.of aAi) ?_)⟩
    exact tups_isl (Paired.mapP tv fun v ks ⟨p,a1,a2⟩=>⟨p,a1,aAn hr' (.lst vs) _ _ a2⟩)
   ·exact False.elim q1
  ·exact False.elim q1
 | tup hh rr=>
  dsimp only[srtLT] at q1
  split at q1
  ·rename_i l hx
   have ed:=tupsL_eq _ hx
   subst ed
   split at q1
   ·rename_i hz
    refine⟨_,_,l,rfl,.inr hh.sq,isl_tups rr,hz.2,hz.1,fun r vs hr' tv=>q1 _ _ (e1.trans (aAn hr' _)) (.lst (SqL.of aAi) ?_)⟩
    exact tups_isl (Paired.mapP tv fun v ks ⟨p,a1,a2⟩=>⟨p,a1,aAn hr' (.lst vs) _ _ a2⟩)
   ·exact False.elim q1
  ·exact False.elim q1
 | _=>exact False.elim q1
end
section
variable {X:Cx} {B:Hp} {a b:Expr} {fa fb:Rho→M D} {pos:Pos}
theorem all_rangeT {xs ys:List (List Str)} (h:xs.length=ys.length):(List.range xs.length).all (fun j=>decide (xs.getD j []=ys.getD j []))=decide (xs=ys):=by
 rw[Bool.eq_iff_iff,List.all_eq_true,decide_eq_true_eq]
 constructor
 ·intro q
  apply List.ext_getElem h
  intro i h1 h2
  have:=q i (List.mem_range.mpr h1)
  simpa[h1,h2] using this
 ·rintro rfl i _
  simp
theorem tups_get {H:Hp} {xs:List (List Str)} {vs:List V} {its:List Value} (t:TupL H vs xs) (r:Vals vs its) {j:Nat} (h1:j<its.length): ∃p,its[j]=Value.ref p∧H p=some (.tup ((xs.getD j []).map V.str)):=by
 have l1:=Paired.len r
 have hv:vs[j]? =some vs[j]:=List.getElem?_eq_getElem (by omega)
 obtain⟨x,g1,p,g2,g3⟩:=Paired.at t hv
 obtain⟨u,f1,f2⟩:=Paired.at r hv
 rw[List.getElem?_eq_getElem h1] at f1
 cases f1
 rw[g2] at f2
 refine⟨p,f2,?_⟩
 rw[List.getD_eq_getElem?_getD,g1]
 exact g3
noncomputable def rEqTT (K:PySem.W.Frag):R2:=fun x y H Q=> ∃a b vs us xs ys,x= .ref a∧y= .ref b∧SqT K H a vs∧TupL H vs xs∧SqT K H b us∧TupL H us ys∧Q (.bl (decide (xs=ys))) H
theorem op_eqTT {k:Nat} (hr:aCw k X.A):OpR X (compareOp .Eq) (rEqTT X.K):=by
 intro pins s σ H x y v u Q I rx ry h
 obtain⟨a,b,vs,us,xs,ys,rfl,rfl,ha,t1,hb,t2,q⟩:=h
 cases rx
 cases ry
 have hu:X.A.in1.units<cLine:=by
  show X.A.units+1<cLine
  have:=hr.un
  omega
 obtain⟨its,r1,p1,_⟩:=I.tuple ha
 obtain⟨jts,r2,p2,_⟩:=I.tuple hb
 have l1:its.length=xs.length:=by rw[←Paired.len r1,Paired.len t1]
 have l2:jts.length=ys.length:=by rw[←Paired.len r2,Paired.len t2]
 refine PySem.SeqAt.eq_tupleAt (e:=fun j=>decide (xs.getD j []=ys.getD j [])) p1 p2 hr.units0 (fun j h1 h2=> ?_) ⟨.bl (decide (xs=ys)),H,I,?_,q⟩
 ·have h1':j<its.length:=by simpa using h1
  have h2':j<jts.length:=by simpa using h2
  obtain⟨p,e1,e2⟩:=tups_get t1 r1 h1'
  obtain⟨p',e3,e4⟩:=tups_get t2 r2 h2'
  have z:=eqK_all hu I.hok e4 t1 r1 its[j] (List.getElem_mem _)
  rw[e1,eqK_at e2,←e1,←e3] at z
  simpa using z
 ·show Value.bool _=Value.bool _
  congr 1
  rw[List.size_toArray,List.size_toArray,l1,l2]
  by_cases hl:xs.length=ys.length
  ·rw[←hl,Nat.min_self,all_rangeT hl];simp
  ·have:(xs.length==ys.length)=false:=by simpa using hl
   rw[this,Bool.and_false,decide_eq_false (fun e=>hl (by rw[e]))]
noncomputable def gEqTT:D→D→M D
 | .tup xs,.tup ys=>match tupsL xs,tupsL ys with | some x,some y=>ok (.bl (decide (x=y))) | _,_=>none
 | _,_=>none
theorem n_eqTT:NoErr gEqTT:=by
 intro x y c h
 unfold gEqTT at h
 (repeat' split at h)<;>cases h
theorem r_eqTT:R2ok X (rEqTT X.K) gEqTT:=by
 intro H x y dx dy d Q ix iy e q
 unfold gEqTT at e
 split at e
 ·split at e
  ·rename_i x' y' h1 h2
   cases e
   cases ix with
   | tup g1 r1=>
    cases iy with
    | tup g2 r2=>
     have e1:=tupsL_eq _ h1
     have e2:=tupsL_eq _ h2
     subst e1 e2
     exact⟨_,_,_,_,x',y',rfl,rfl,TQ.sq g1,isl_tups r1,TQ.sq g2,isl_tups r2,q _ H (Same.refl H) (.bl _)⟩
  ·cases e
 ·cases e
theorem pd_eqTT {k:Nat} (hr:aCw k X.A) (ha:PD X B a fa) (hb:PD X B b fb):PD X B (.Compare a [.Eq] [b] pos) (b2 gEqTT fa fb):=pd_cmp (op_eqTT hr) r_eqTT n_eqTT ha hb (nomark _)
end
end L2.PU
namespace L2.PU
open PySem PySem.Spec PyProof.Rows
noncomputable def Itk (d:Addr) (o:Obj) (kvs:List (Key×V)):It where
 go:=fun i H=>i<kvs.length∧H d=some (.frz o (.dK kvs))
 yld:=fun i H x H'=>H'=H∧∃kv,kvs[i]? =some kv∧x=kV kv.1
 stop:=fun i H=>kvs.length≤i∧H d=some (.frz o (.dK kvs))
theorem dictAt_of {P:Program} {w:World} {H:Hp} {h:Heap} {d:Addr} {o:Obj} {kvs:List (Key×V)} {es:Array DictEntry} {ep:Nat} (x:aBw P w H h d (.frz o (.dK kvs))) (hd:o.data= .dict es ep): ∃vs,KV kvs vs∧h.DictAt (aBh P w) d vs ep:=by
 obtain⟨ho,z,_,vs,rel,dd⟩:=x
 obtain⟨o',es',ep',h1,h2,h3,h4⟩:=dd
 rw[ho] at h1
 cases h1
 rw[hd] at h3
 cases h3
 exact⟨vs,rel,o,es,ho,h2,hd,h4⟩
theorem turn_keys {P:Program} {w:World} {K:PySem.W.Frag} {tg:Expr} (d it:Addr) {o:Obj} {kvs:List (Key×V)} {es:Array DictEntry} {ep:Nat} (hd:o.data= .dict es ep):Turn P w K tg (Itk d o kvs) [it] it (fun i h=>h.IsKeyIter it d i kvs.length ep) where
 mem:=by simp
 obj:=fun i h st b hb=>by
  have e:b=it:=by simpa using hb
  subst e
  obtain⟨o,e,c,d⟩:=st
  exact⟨o,e,fun v z=>by rw[d] at z;cases z⟩
 keep:=fun i h h' st k=>st.at fun o e=>k it (by simp) o e
 item:=by
  intro X hP hw hK hc i pins s σ H E I hf st hg
  subst hP hw hK
  obtain⟨hi,hq⟩:=hg
  obtain⟨vs,rel,hat⟩:=dictAt_of (I.hok d _ hq) hd
  obtain⟨f0,f1,f2,f3,f4,f5⟩:=hf it (by simp)
  have hl:kvs.length=vs.length:=rel.length
  rw[hl] at st
  obtain⟨⟨k,v⟩,hx⟩: ∃q,vs[i]? =some q:=⟨vs[i],List.getElem?_eq_getElem (by omega)⟩
  refine wpAny_pyNext_dict_item st hat hx fun key h' hk st' sb=> ?_
  have I1:Inv X pins σ H {s with heap:=h'}:=I.turned (t':=s.toks) (fun b o hb e=>(sb.2 b hb).trans e) f0 f1 f3 f4 f5
  obtain⟨o1,e,c,d1⟩:=id st'
  obtain⟨kv,g1,g2⟩: ∃kv,kvs[i]? =some kv∧kv.1=k:=by
   have h1:kvs[i]? =some kvs[i]:=List.getElem?_eq_getElem hi
   obtain⟨q,e1,e2⟩:=Paired.at rel h1
   rw[hx] at e1
   cases e1
   exact⟨_,h1,e2.1⟩
  exact⟨key,rfl,go_of (s:={s with heap:=h'}) e c d1 (by decide) ⟨kV k,H,I1,is_kV hk,⟨rfl,kv,g1,by rw[g2]⟩,by rw[hl];exact st',fun b hb=>(hf b hb).1⟩⟩
 done:=by
  intro X hP hw hK hc i pins s σ H E I hf st hg
  subst hP hw hK
  obtain⟨hi,hq⟩:=hg
  obtain⟨vs,rel,hat⟩:=dictAt_of (I.hok d _ hq) hd
  obtain⟨f0,f1,f2,f3,f4,f5⟩:=hf it (by simp)
  have hl:kvs.length=vs.length:=rel.length
  rw[hl] at st
  exact wpAny_pyNext_dict_end (I.ok.hd hc) st hat (List.getElem?_eq_none (by omega)) fun h' eb=>⟨rfl,I.turned (t':=s.toks) (fun b o hb e=>eb b o hb e) f0 f1 f3 f4 f5⟩
 self:=fun _ _ _ _ _ st h=>wpAny_pyIter_keyiter st h
section
variable {X:Cx} {tg:Expr}
noncomputable def iKeys (tl:TE):TI:=fun σ H R=>tl σ H fun x H1=> ∃d kvs,x= .ref d∧H1 d=some (.dK kvs)∧∀o,R (Itk d o kvs) (upd H1 d (.frz o (.dK kvs)))
theorem pi_keys {l:Expr} {tl:TE} (hl:PE X l tl):PI X tg l (iKeys tl):=by
 intro pins s σ H R I h
 refine thn (hl pins s σ H _ I h) fun v s1 ⟨x,H1,I1,r1,q1⟩=> ?_
 obtain⟨d,kvs,e,hq,q⟩:=q1
 subst e
 cases r1
 obtain⟨z,hd,vs,rel,dd⟩:=dk_of I1.hok hq
 obtain⟨o,es,ep,ho,hcl,hdat,rest⟩:=id dd
 have hat:s1.heap.DictAt (aBh X.prog X.w) d vs ep:=⟨o,es,ho,hcl,hdat,rest⟩
 refine wpAny_pyIter_dict hd hat ?_
 have I2:=I1.kept (t':=s1.toks) (h':=s1.heap.push {cls:= .type "dict_keyiterator",data:= .fields #[.ref d,.int 0 0,.int vs.length 0,.int ep 0]}) fun b o e=>Heap.get?_push_of_some _ e
 have ho2:=Heap.get?_push_of_some {cls:= .type "dict_keyiterator",data:= .fields #[.ref d,.int 0 0,.int vs.length 0,.int ep 0]} ho
 have I3:=I2.write (x:=d) (e:=d) (o:= .frz o (.dK kvs)) (t':=s1.toks) (by rw[hq];exact True.intro) (.inl rfl) (fun b u _ e=>e) ⟨o,ho2⟩ ⟨ho2,z,hd,vs,rel,⟨o,es,ep,ho2,hcl,hdat,rest⟩⟩
 refine⟨s1.heap.objs.size,[s1.heap.objs.size],_,Itk d o kvs,upd H1 d (.frz o (.dK kvs)),rfl,I3,turn_keys d _ hdat,?_,fun b hb=> ?_,q o⟩
 ·rw[show kvs.length=vs.length from rel.length]
  exact⟨_,Heap.get?_push_size _ rfl,rfl,rfl⟩
 ·have e:b=s1.heap.objs.size:=by simpa using hb
  subst e
  have nd:s1.heap.objs.size≠d:=fun z=>by
   have:=I1.hok.fresh (Nat.le_refl s1.heap.objs.size)
   rw[z,hq] at this
   cases this
  exact I1.fpOk (Nat.le_refl _) (by rw[aAk nd];exact I1.hok.fresh (Nat.le_refl _))
end
section
variable {K:PySem.W.Frag} {H₀ H:Hp} {ρ:Rho} {σ:St} {O:Nat→Option Addr}
theorem inL_out {H1:Hp} {O1:Nat→Option Addr} {n i:Nat} (sm:Same (Off H O) (Off H1 O1)) (hv: ∀j b w,O (nx n i j)=some b→H b=some w→Off H1 O1 b=some w): ∀{bs:List Addr} {ls:List (List D)} {j:Nat},InL K H O n i j bs ls→IsL K (Off H1 O1) (ls.map D.lst) (bs.map V.ref)
 | [],[],_,_=> .nil
 | b::bs,ds::ls,j,⟨⟨e1,vs,h2,h3⟩,h4⟩=> .cons (.lst (SqL.of (hv j b _ e1 h2)) (h3.mono sm)) (inL_out sm hv h4)
 | [],_::_,_,h=>False.elim h
 | _::_,[],_,h=>False.elim h
open Classical in
theorem Rel.nl_walk {i:Nat} {ks:List Key} {ls:List (List D)} (r:Rel K H₀ ρ σ H) (q:ρ[i]? =some (some (.nl (.k ks) ls))): ∃(d:Addr) (kvs:List (Key×V)),σ[i]? =some (some (.ref d))∧H d=some (.dK kvs)∧kvs.map (·.1)=ks∧∀o:Obj,∃B',Rel K B' (ρ.set i (some (.sh (.dk (ks.zip (ls.map D.lst)))))) σ (upd H d (.frz o (.dK kvs)))∧Same H₀ B'∧B' d=some (.frz o (.dK kvs)):=by
 obtain⟨O,d,bs,h1,ho,h2,hl,h3,g1,g2,g3,g4,g5⟩:=r.nl_at q
 have hi:i<σ.length:=by have:=(List.getElem?_eq_some_iff.mp q).1;omega
 refine⟨d,_,g2,g3,?_,fun o=> ?_⟩
 ·exact List.map_fst_zip (l₁:=ks) (l₂:=bs.map V.ref) (by rw[List.length_map];omega)
 obtain⟨O1,hO1⟩: ∃O1:Nat→Option Addr,O1=fun m=>if m=i∨∃j,m=nx σ.length i j then none else O m:=⟨_,rfl⟩
 have oc: ∀m b,O1 m=some b→O m=some b∧m≠i∧∀j,m≠nx σ.length i j:=fun m b e=>by
  rw[hO1] at e
  dsimp only at e
  split at e
  ·cases e
  ·rename_i hn
   exact⟨e,fun z=>hn (.inl z),fun j z=>hn (.inr ⟨j,z⟩)⟩
 have On: ∀m,m≠i→(∀j,m≠nx σ.length i j)→O1 m=O m:=fun m e1 e2=>by
  rw[hO1]
  exact if_neg (fun z=>z.elim e1 fun⟨j,z⟩=>e2 j z)
 have H1b: ∀b,b≠d→upd H d (.frz o (.dK (ks.zip (bs.map V.ref)))) b=H b:=fun b e=>aAk e
 have H1d:upd H d (.frz o (.dK (ks.zip (bs.map V.ref)))) d=some (.frz o (.dK (ks.zip (bs.map V.ref)))):=aAi
 generalize upd H d (.frz o (.dK (ks.zip (bs.map V.ref))))=H1 at H1b H1d
 have nd: ∀m b,O1 m=some b→b≠d:=fun m b e z=>by
  obtain⟨e1,e2,_⟩:=oc m b e
  rw[z] at e1
  exact e2 (h1 _ _ _ e1 g1)
 have sm:Same (Off H O) (Off H1 O1):=fun b u qb=>by
  have qh:=Off.same H O b u qb
  have nb:b≠d:=fun z=>Off.not qb i (by rw[z];exact g1)
  exact Off.of (by rw[H1b b nb];exact qh) fun m z=>Off.not qb m (oc m b z).1
 have vd:Off H1 O1 d=some (.frz o (.dK (ks.zip (bs.map V.ref)))):=Off.of H1d fun m z=>nd m d z rfl
 have vb: ∀j b w,O (nx σ.length i j)=some b→H b=some w→Off H1 O1 b=some w:=fun j b w e1 e2=>by
  have nb:b≠d:=fun z=>by
   rw[z] at e1
   have:=h1 _ _ _ e1 g1
   have:=nx_le (n:=σ.length) (i:=i) j
   omega
  refine Off.of (by rw[H1b b nb];exact e2) fun m z=> ?_
  obtain⟨f1,_,f3⟩:=oc m b z
  exact f3 j (h1 _ _ _ f1 e1)
 refine⟨Off H1 O1,⟨O1,fun m m' b q1 q2=>h1 _ _ _ (oc m b q1).1 (oc m' b q2).1,fun m b qm=> ?_,Same.refl _,by rw[List.length_set,hl],fun i' sv q'=> ?_⟩,h2.trans sm,vd⟩
 ·obtain⟨u,w,z⟩:=ho m b (oc m b qm).1
  exact⟨u,by rw[H1b b (nd m b qm)];exact w,z⟩
 ·have hi':i'<σ.length:=by have:=(List.getElem?_eq_some_iff.mp q').1;rw[List.length_set] at this;omega
  by_cases e:i'=i
  ·subst e
   rw[List.getElem?_set_self (by omega)] at q'
   have q'':=Option.some.inj (Option.some.inj q')
   subst q''
   exact⟨.ref d,g2,.dk (.inr ⟨o,vd⟩) (isK_zip (inL_out sm vb g5))⟩
  ·rw[List.getElem?_set_ne (Ne.symm e)] at q'
   refine (h3 i' sv q').other (i:=i) hi' (fun m b w hm e1 e2=> ?_) sm
   have m1:m≠i:=fun z=>by
    rcases hm with h |⟨j',h⟩
    ·omega
    ·have:=nx_le (n:=σ.length) (i:=i') j'
     omega
   have m2: ∀j,m≠nx σ.length i j:=fun j z=>by
    rcases hm with h |⟨j',h⟩
    ·have:=nx_le (n:=σ.length) (i:=i) j
     omega
    ·rw[z] at h
     exact e (nx_inj hi hi' h).1.symm
   have f1:O1 m=some b:=by rw[On m m1 m2];exact e1
   exact⟨f1,by rw[H1b b (nd m b f1)];exact e2⟩
theorem itd_keys {d:Addr} {o:Obj} {kvs:List (Key×V)} {ks:List Key} {B:Hp} (h:B d=some (.frz o (.dK kvs))) (hk:kvs.map (·.1)=ks):ItD K (Itk d o kvs) (ks.map kD) B where
 go:=fun j H e q=>⟨by rw[←hk,List.length_map,List.length_map] at q;exact q,e _ _ h⟩
 yld:=fun j H x H' e y q=>by
  obtain⟨y1,kv,y2,y3⟩:=y
  subst y1 y3
  exact⟨Same.refl _,kD kv.1,by rw[←hk,List.getElem?_map,List.getElem?_map,y2];rfl,is_kD _⟩
 stop:=fun j H e q=>⟨by rw[←hk,List.length_map,List.length_map] at q;exact q,e _ _ h⟩
end
section
variable {X:Cx} {B:Hp} {tg:Expr} {body:List Stmt} {pos:Pos} {G:D→Rho→Option Rho} {F:Rho→Option Out}
noncomputable def sForK (i:Nat) (G:D→Rho→Option Rho) (F:Rho→Option Out):Rho→Option Out:=fun ρ=>match ρ[i]? with
 | some (some (.nl (.k ks) ls))=>loop G F (ks.map kD) (ρ.set i (some (.sh (.dk (ks.zip (ls.map D.lst))))))
 | _=>none
theorem pds_forK (i:Nat) {x:Str} {p:Pos} (hN:X.N[i]? =some x) (hv:Vis X.env.scope x) (hp:PassesOwn (model X.prog X.w) X.A X.env X.xe) (hc:X.calm=true) (hg: ∀B,PDG X B tg G) (hb: ∀B,PDB X B body F)
  (hd:(x==("__debug__":Str))=false:=by decide) (hcd:(x==("__classdict__":Str))=false:=by decide) (hs: ∀y,foldedSetIterable (.Name x p) X.env y=pure y:=by intro _;rfl):PDS X B (.For tg (.Name x p) body [] pos) (sForK i G F):=by
 refine pds_forG hp hc (pi_keys (pe_var hN hv hd hcd)) hg hb (fun E σ H R h k=> ?_) hs
 obtain⟨ρ,r,h⟩:=h
 unfold sForK at h
 split at h
 ·rename_i ks ls q
  obtain⟨d,kvs,e1,e2,e3,e4⟩:=r.nl_walk q
  refine⟨.ref d,e1,d,kvs,rfl,e2,fun o=> ?_⟩
  obtain⟨B',b1,b2,b3⟩:=e4 o
  exact k _ _ _ _ ⟨B',itd_keys b3 e3,b1,b2⟩ h
 ·exact False.elim h
end
section
variable {X:Cx} {B:Hp} {tg e:Expr} {fa:Rho→M D} {body:List Stmt} {pos p p1:Pos} {G:D→Rho→Option Rho} {F:Rho→Option Out}
theorem Rel.fresh_walk {K:PySem.W.Frag} {H₀ H:Hp} {ρ:Rho} {σ:St} {l:Addr} {ds:List D} {vs:List V} (r:Rel K H₀ ρ σ H) (hl:H l=none) (i: ∀H',IsL K H' ds vs): ∃B',ItD K (Itl K l) ds B'∧Rel K B' ρ σ (upd H l (.lst vs))∧Same H₀ B':=by
 obtain⟨O,h1,ho,h2,hle,h3⟩:=r
 have sm:=aAn hl (.lst vs)
 have nl: ∀m,O m≠some l:=fun m z=>by
  obtain⟨u,w,_⟩:=ho m l z
  rw[hl] at w
  cases w
 refine⟨Off (upd H l (.lst vs)) O,itd_list (SqL.of (Off.of aAi nl)) (i _),⟨O,h1,ho.mono sm,Same.refl _,hle,fun j sv q=>(h3 j sv q).mono sm⟩,h2.trans (Off.mono sm)⟩
end
section
variable {prog:Program} {w:World} {A:Around} {E:Value→Shared→Prop} {s:Shared}
theorem sorted_of6 {x:Value} {ns:List Int} {Q:Value→Shared→Prop} (hh:A.handled=none) (hz:ns.length<64)
  (hc: ∀(B:Around) (Q':List Value→Shared→Prop),B.handled=none→(∀vals h' tk d,IntsAre vals ns→s.heap.objs.size≤h'.objs.size→(∀b o,s.heap.get? b=some o→h'.get? b=some o)→Q' vals {s with heap:=h',toks:=tk,drawn:=d})→wpAny (model prog w) B (collect x) Q' E s)
  (h: ∀out l h' tk d m,IntsAre out (srtN ns)→s.heap.objs.size≤l→h'.get? l=some {cls:= .type "list",data:= .seq out.toArray m}→(∀b o,s.heap.get? b=some o→h'.get? b=some o)→Q (.ref l) {s with heap:=h',toks:=tk,drawn:=d}):
  wpAny (model prog w) A (call (.builtin "sorted") [x]) Q E s:=by
 have hs:sizeLine=16777216:=sizeLine_eq
 refine Calls.call_function_entry kind_sorted plain_sorted entry_sorted (args_sorted1 _) ?_
 unfold Builtin.«sorted»
 refine wpAny_bind (m:=checkCount "sorted" 1 1 _) (wpAny_pure ?_)
 refine wpAny_bind (hc A.in1 _ (by simp[hh]) fun vals h1 tk d hS le hk=> ?_)
 have hvl:vals.length<64:=by rw[←hS.nums,List.length_map] at hz;exact hz
 refine wpAny_bind (wpAny_newList ?_ (by omega))
 have hoL:(h1.push (seqObj "list" vals.toArray 0)).get? h1.objs.size=some (seqObj "list" vals.toArray 0):=Heap.get?_push_size _ rfl
 show wpAny _ _ _ _ _ {s with heap:=h1.push (seqObj "list" vals.toArray 0),toks:=tk,drawn:=d}
 refine wpAny_bind (wpAny_holding (wpAny_call_entry slot_list_sort ⟨_,hoL,rfl⟩ entry_list_sort (list_sort_tree hoL hS hvl fun out ns' b0 a2 a3=>⟨_,rfl,?_⟩) (args_list_sort _)))
 refine wpAny_pure ⟨_,rfl,?_⟩
 have b1:=b0
 rw[srtN_of a3 a2] at b1
 obtain⟨ol⟩:=out
 have k1:=get?_update_seq hoL (fun _=> #[])
 have k2:=get?_update_seq (Heap.get?_push_of_some (seqObj "list" #[] 0) (Heap.get?_push_of_some (seqObj "tuple" vals.toArray 0) k1)) (fun _=>ol.toArray)
 refine h ol h1.objs.size _ tk d _ b1 le k2 fun b o e=> ?_
 have lt:=Heap.lt_size (hk b o e)
 have ne:h1.objs.size≠b:=Nat.ne_of_gt lt
 show (sortedHeap _ _ _ _).get? b=some o
 unfold sortedHeap
 rw[Heap.get?_update_other _ _ ne]
 refine Heap.get?_push_of_some _ (Heap.get?_push_of_some _ ?_)
 rw[Heap.get?_update_other _ _ ne]
 exact Heap.get?_push_of_some _ (hk b o e)
end
section
variable {X:Cx} {B:Hp} {tg e:Expr} {fa:Rho→M D} {body:List Stmt} {pos p p1:Pos} {G:D→Rho→Option Rho} {F:Rho→Option Out}
theorem call_sorted6 (hc:X.calm=true):CallR X (.builtin "sorted") (fun xs H Q=> ∃p ys ss,xs=[.ref p]∧(SqL X.K H p ys∨SqT X.K H p ys)∧IsL X.K H ((ss:List Int).map D.int) ys∧ss.length<64∧∀l,H l=none→Q (.ref l) (upd H l (.lst ((srtN ss).map V.int)))):=by
 intro pins s σ H xs us Q I r h
 obtain⟨p,ys,ss,rfl,hp,hi,h64,q⟩:=h
 obtain⟨u,rfl,rx⟩:=vals1 r
 cases rx
 have hs:sizeLine=16777216:=sizeLine_eq
 have key: ∃(its:List Value) (T:String) (o:Obj) (nn:Nat),Vals ys its∧(T="list"∨T="tuple")∧s.heap.get? p=some o∧o.cls= .type T∧o.data= .seq its.toArray nn:=by
  rcases hp with hp | hp
  ·obtain⟨its,r1,⟨o,nn,e1,e2,_,e3⟩,_⟩:=I.list hp
   exact⟨its,"list",o,nn,r1,.inl rfl,e1,e2,e3⟩
  ·obtain⟨its,r1,⟨o,e1,e2,nn,e3⟩,_⟩:=I.tuple hp
   exact⟨its,"tuple",o,nn,r1,.inr rfl,e1,e2,e3⟩
 obtain⟨its,T,o,nn,r1,hT,ho,hcl,hd⟩:=key
 have hS:=nums_are hi r1
 have hlen:its.length=ss.length:=by rw[←hS.nums,List.length_map]
 refine sorted_of6 (ns:=ss) (I.ok.hd hc) (by omega) (fun B' Q' hB q'=>collect_seq hT ho hcl hd (by omega) (q' its _ s.toks s.drawn hS ?_ fun b ob eb=> ?_)) fun out l h' tk d m hS' hl ho' kp=> ?_
 ·rw[Heap.size_update,Heap.size_push]
  exact Nat.le_succ _
 ·rw[Heap.get?_update_other _ _ (Nat.ne_of_gt (Heap.lt_size eb))]
  exact Heap.get?_push_of_some _ eb
 ·have hl2:(srtN ss).length=ss.length:=srtN_len ss
  exact⟨.ref l,_,(inv_drew I d).laid (t':=tk) kp hl (show aBw X.prog X.w _ h' _ (.lst _) from⟨by rw[List.length_map];omega,out,m,nums_vals hS',ho'⟩),rfl,q _ (I.hok.fresh hl)⟩
noncomputable def sForS6 (f:Rho→M D) (G:D→Rho→Option Rho) (F:Rho→Option Out):Rho→Option Out:=fun ρ=>lft (f ρ) ρ fun d=>match d with
 | .lst ds=>(match numL ds with | some xs=>if xs.length<64 then loop G F ((srtN xs).map .int) ρ else none | none=>none)
 | _=>none
theorem pds_forS6 (hgl:Gl X "sorted") (hm:X.mg "sorted"=none) (hp:PassesOwn (model X.prog X.w) X.A X.env X.xe) (hc:X.calm=true) (ha:PD X B e fa) (hg: ∀B,PDG X B tg G) (hb: ∀B,PDB X B body F) (hst:aB4 e=true:=by rfl)
  (hs: ∀y,foldedSetIterable (.Call (.Name "sorted" p) [e] [] p1) X.env y=pure y:=by intro _;rfl):PDS X B (.For tg (.Call (.Name "sorted" p) [e] [] p1) body [] pos) (sForS6 fa G F):=by
 refine pds_forG hp hc (pi_list (aC4 (call_sorted6 hc) hgl hm boot_sorted (aA4 ha aBx (aAx hst)) (he:=aAx hst) (hpl:=by rfl))) hg hb (fun E σ H R h k=> ?_) hs
 obtain⟨ρ,r,h⟩:=h
 refine⟨ρ,r,(aBa r h).imp fun d h1 v H1 e1 i1=> ?_⟩
 cases i1 with
 | lst hh rr=>
  dsimp only at h1
  split at h1
  ·rename_i xs hx
   split at h1
   ·rename_i hz
    have ex:=numL_eq _ hx
    subst ex
    refine⟨_,_,xs,rfl,.inl hh,rr,hz,fun l hl=>⟨l,rfl,⟨_,SqL.of aAi⟩,?_⟩⟩
    exact k _ _ _ ρ ((r.mono e1).fresh_walk hl fun H'=>isl_num _) h1
   ·exact False.elim h1
  ·exact False.elim h1
 | _=>exact False.elim h1
end
noncomputable abbrev nI (xs:List Nat):List D:=xs.map fun (x:Nat)=>D.int (x:Int)
noncomputable abbrev aCx (x:Nat):Nat:=Builtin.Int.intBits (x:Int)
theorem blen_zero:aCx 0=0:=rfl
theorem blen_pos {x:Nat} (h:x≠0):aCx x=x.log2+1:=by
 show Builtin.Int.intBits (x:Int)=_
 unfold Builtin.Int.intBits
 rw[if_neg (by simpa using h)]
 rfl
theorem bitOr_nat (a b:Nat):Builtin.bitOr (a:Int) (b:Int)=((a ||| b:Nat):Int):=by
 have ha:¬(0≤ -(a:Int)-1):=by omega
 have hb:¬(0≤ -(b:Int)-1):=by omega
 have ea:(-(-(a:Int)-1)-1).toNat=a:=by omega
 have eb:(-(-(b:Int)-1)-1).toNat=b:=by omega
 unfold Builtin.bitOr Builtin.bitAnd Builtin.bitNot
 rw[decide_eq_false ha,decide_eq_false hb]
 dsimp only
 rw[ea,eb]
 omega
theorem bitAnd_nat (a b:Nat):Builtin.bitAnd (a:Int) (b:Int)=((a&&&b:Nat):Int):=by
 have ha:(0:Int)≤(a:Int):=by omega
 have hb:(0:Int)≤(b:Int):=by omega
 unfold Builtin.bitAnd
 rw[decide_eq_true ha,decide_eq_true hb]
 rfl
theorem sub_bits {a b:Nat}:a&&&b=a↔∀i,a.testBit i=true→b.testBit i=true:=by
 constructor
 ·intro h i hi
  have:=congrArg (fun z=>Nat.testBit z i) h
  simp only[Nat.testBit_and] at this
  rw[hi] at this
  simpa using this
 ·intro h
  refine Nat.eq_of_testBit_eq fun i=> ?_
  rw[Nat.testBit_and]
  cases e:a.testBit i with
  | false=>rfl
  | true=>rw[h i e];rfl
theorem sub_le {a b:Nat} (h:a&&&b=a):a≤b:=by rw[←h];exact Nat.and_le_right
noncomputable abbrev Kept:=List (Nat×List Nat)
noncomputable def keD (kp:Kept):List (Key×D):=kp.map fun p=>(Sum.inl (p.1:Int),D.lst (nI p.2))
noncomputable def flat (kp:Kept):List Nat:=kp.flatMap (·.2)
structure KpOk (kp:Kept):Prop where
 nd:(kp.map (·.1)).Nodup
 ne: ∀p∈kp,p.2≠[]
 bl: ∀p∈kp,∀x∈p.2,aCx x=p.1
noncomputable def getK (kp:Kept) (n:Nat):List Nat:=((kp.find? fun p=>decide (p.1=n)).map (·.2)).getD []
theorem key_int (a b:Nat):decide ((Sum.inl (a:Int):Key)=Sum.inl (b:Int))=decide (a=b):=by
 apply decide_eq_decide.mpr
 constructor
 ·intro h
  have:=Sum.inl.inj h
  omega
 ·intro h;rw[h]
theorem val_keD (kp:Kept) (n:Nat):valD (keD kp) (Sum.inl (n:Int))=(kp.find? fun p=>decide (p.1=n)).map fun p=>D.lst (nI p.2):=by
 unfold valD keD
 rw[List.find?_map]
 have:((fun kv:Key×D=>decide (kv.1=Sum.inl (n:Int)))∘fun p:Nat×List Nat=>(Sum.inl (p.1:Int),D.lst (nI p.2)))=fun p=>decide (p.1=n):=by
  funext p
  exact key_int p.1 n
 rw[this,Option.map_map]
 rfl
theorem find_of {kp:Kept} (nd:(kp.map (·.1)).Nodup) {p:Nat×List Nat} (hp:p∈kp):(kp.find? fun q=>decide (q.1=p.1))=some p:=by
 induction kp with
 | nil=>cases hp
 | cons q kp ih=>
  rw[List.map_cons,List.nodup_cons] at nd
  rw[List.find?_cons]
  rcases List.mem_cons.mp hp with e | hp'
  ·rw[←e,decide_eq_true rfl]
  ·have:q.1≠p.1:=fun e=>nd.1 (by rw[e];exact List.mem_map.mpr ⟨p,hp',rfl⟩)
   rw[decide_eq_false this]
   exact ih nd.2 hp'
theorem mem_flat {kp:Kept} {y:Nat}:y∈flat kp↔∃p∈kp,y∈p.2:=List.mem_flatMap
theorem get_mem {kp:Kept} {n y:Nat} (h:y∈getK kp n):y∈flat kp∧∃p∈kp,p.1=n∧y∈p.2:=by
 unfold getK at h
 cases e:(kp.find? fun p=>decide (p.1=n)) with
 | none=>rw[e] at h;simp at h
 | some p=>
  rw[e] at h
  have h':y∈p.2:=by simpa using h
  have h1:=List.mem_of_find?_eq_some e
  have h2:=List.find?_some e
  exact⟨mem_flat.mpr ⟨p,h1,h'⟩,p,h1,by simpa using h2,h'⟩
theorem mem_get {kp:Kept} (hk:KpOk kp) {y:Nat} (h:y∈flat kp):y∈getK kp (aCx y):=by
 obtain⟨p,hp,hy⟩:=mem_flat.mp h
 unfold getK
 rw[hk.bl p hp y hy,find_of hk.nd hp]
 exact hy
noncomputable def inB:Rho→Option Out:=(aAh (sIf (aAy (b2 gEq (b2 gBAnd (look 4) (look 1)) (look 4))) (aAh (aBy (con (.bl true)))
  aAp) aAp)
  aAp)
noncomputable def whB:Rho→Option Out:=(aAh (aC3 3 (f1 bitsD (look 2)))
  (aAh (sForE (getL (look 0) (look 3)) (gN 4) inB)
  (aAh (aC3 2 (b2 gSub (look 2) (b2 gShl (con (.int 1)) (b2 gSub (look 3) (con (.int 1))))))
  aAp)))
noncomputable def denHas:Rho→Option Out:=
  (aAh (sIf (aAy (b2 (gDin false) (con (.int 0)) (look 0))) (aAh (aBy (con (.bl true)))
  aAp) aAp)
  (aAh (aC3 2 (look 1))
  (aAh (sWhile (aAy (b2 gGt (look 2) (con (.int 0)))) whB)
  (aAh (aBy (con (.bl false)))
  aAp))))
theorem in_loop {one:Nat} {s0 s2 s3:Option SV}: ∀(xs:List Nat) (s4:Option SV),
  (xs.any (fun y=>decide (y&&&one=y))=true→loop (gN 4) inB (nI xs) [s0,some (.sh (.int (one:Int))),s2,s3,s4]=some (.rt (.bl true)))∧
  (xs.any (fun y=>decide (y&&&one=y))=false→∃s4',loop (gN 4) inB (nI xs) [s0,some (.sh (.int (one:Int))),s2,s3,s4]=some (.nx [s0,some (.sh (.int (one:Int))),s2,s3,s4'])):=by
 intro xs
 induction xs with
 | nil=>intro s4;exact⟨fun h=>by simp at h,fun _=>⟨s4,rfl⟩⟩
 | cons y xs ih=>
  intro s4
  have ht:aAy (b2 gEq (b2 gBAnd (look 4) (look 1)) (look 4)) [s0,some (.sh (.int (one:Int))),s2,s3,some (.sh (.int (y:Int)))]=ok (decide (y&&&one=y)):=by
   have e:b2 gEq (b2 gBAnd (look 4) (look 1)) (look 4) [s0,some (.sh (.int (one:Int))),s2,s3,some (.sh (.int (y:Int)))]=ok (.bl (decide (Builtin.bitAnd (y:Int) (one:Int)=(y:Int)))):=rfl
   rw[bitAnd_nat] at e
   have e2:decide (((y&&&one:Nat):Int)=(y:Int))=decide (y&&&one=y):=decide_eq_decide.mpr (by omega)
   rw[e2] at e
   unfold aAy
   rw[e]
   rfl
  have hg:gN 4 (.int (y:Int)) [s0,some (.sh (.int (one:Int))),s2,s3,s4]=some [s0,some (.sh (.int (one:Int))),s2,s3,some (.sh (.int (y:Int)))]:=rfl
  cases hy:decide (y&&&one=y) with
  | true=>
   rw[hy] at ht
   refine⟨fun _=> ?_,fun h=>by rw[List.any_cons,hy] at h;cases h⟩
   have hb:inB [s0,some (.sh (.int (one:Int))),s2,s3,some (.sh (.int (y:Int)))]=some (.rt (.bl true)):=by
    unfold inB
    unfold aAh
    rw[sIf_t ht]
    rfl
   show loop (gN 4) inB (D.int (y:Int)::nI xs) _=_
   unfold loop
   rw[hg]
   dsimp only
   rw[hb]
  | false=>
   rw[hy] at ht
   have hb:inB [s0,some (.sh (.int (one:Int))),s2,s3,some (.sh (.int (y:Int)))]=some (.nx [s0,some (.sh (.int (one:Int))),s2,s3,some (.sh (.int (y:Int)))]):=by
    unfold inB
    rw[aAf (sIf_f ht)]
    rfl
   rw[List.any_cons,hy,Bool.false_or]
   have e:=aDe (ds:=nI xs) hg hb
   have:=ih (some (.sh (.int (y:Int))))
   rw[←e] at this
   exact this
theorem any_c {kp:Kept} (hk:KpOk kp) (one rest:Nat) (hr:rest≠0):
  ((getK kp (aCx rest)).any (fun y=>decide (y&&&one=y))=true→(flat kp).any (fun y=>decide (y≠0∧y&&&one=y∧rest.testBit (aCx y-1)=true))=true)∧
  ((getK kp (aCx rest)).any (fun y=>decide (y&&&one=y))=false→(flat kp).any (fun y=>decide (y≠0∧y&&&one=y∧rest.testBit (aCx y-1)=true))=(flat kp).any (fun y=>decide (y≠0∧y&&&one=y∧(rest-2^(aCx rest-1)).testBit (aCx y-1)=true))):=by
 have hb:=blen_pos hr
 have hle:=Nat.log2_self_le hr
 have hlt:=Nat.lt_log2_self (n:=rest)
 have hr':rest-2^rest.log2<2^rest.log2:=by rw[Nat.pow_succ] at hlt;omega
 constructor
 ·intro h
  rw[List.any_eq_true] at h⊢
  obtain⟨y,hy,e⟩:=h
  obtain⟨h1,p,h2,h3,h4⟩:=get_mem hy
  have h5:=hk.bl p h2 y h4
  have hy0:y≠0:=fun e=>by rw[e,blen_zero] at h5;omega
  refine⟨y,h1,?_⟩
  rw[decide_eq_true_eq] at e⊢
  refine⟨hy0,e,?_⟩
  rw[h5,h3,hb,Nat.add_sub_cancel]
  exact Nat.testBit_log2 hr
 ·intro h
  rw[Bool.eq_iff_iff,List.any_eq_true,List.any_eq_true]
  rw[List.any_eq_false] at h
  refine exists_congr fun y=>and_congr_right fun hy=> ?_
  rw[decide_eq_true_eq,decide_eq_true_eq]
  refine and_congr_right fun h0=>and_congr_right fun h1=> ?_
  rw[hb,Nat.add_sub_cancel]
  have hne:aCx y-1≠rest.log2:=by
   intro e
   have hy':=mem_get hk hy
   have:aCx y=aCx rest:=by rw[blen_pos h0] at e⊢;rw[hb];omega
   rw[this] at hy'
   exact h y hy' (by simpa using h1)
  have key:rest.testBit (aCx y-1)=(2^rest.log2+(rest-2^rest.log2)).testBit (aCx y-1):=by
   congr 1;omega
  rw[key]
  rcases Nat.lt_or_gt_of_ne hne with g | g
  ·rw[Nat.testBit_two_pow_add_gt g]
  ·rw[Nat.testBit_lt_two_pow (i:=aCx y-1) (Nat.lt_of_lt_of_le (show 2^rest.log2+(rest-2^rest.log2)<2^(rest.log2+1) by rw[Nat.pow_succ];omega) (Nat.pow_le_pow_right (by decide) (by omega)))]
   rw[Nat.testBit_lt_two_pow (i:=aCx y-1) (Nat.lt_of_lt_of_le hr' (Nat.pow_le_pow_right (by decide) (by omega)))]
theorem has_loop {kp:Kept} (hk:KpOk kp) (one:Nat): ∀(n rest fuel:Nat) (s3 s4:Option SV),rest<2^n→n≤1000→n<fuel→
  ((flat kp).any (fun y=>decide (y≠0∧y&&&one=y∧rest.testBit (aCx y-1)=true))=true→sWh (aAy (b2 gGt (look 2) (con (.int 0)))) whB fuel [some (.sh (.dk (keD kp))),some (.sh (.int (one:Int))),some (.sh (.int (rest:Int))),s3,s4]=some (.rt (.bl true)))∧
  ((flat kp).any (fun y=>decide (y≠0∧y&&&one=y∧rest.testBit (aCx y-1)=true))=false→∃ρ',sWh (aAy (b2 gGt (look 2) (con (.int 0)))) whB fuel [some (.sh (.dk (keD kp))),some (.sh (.int (one:Int))),some (.sh (.int (rest:Int))),s3,s4]=some (.nx ρ')):=by
 intro n
 induction n with
 | zero=>
  intro rest fuel s3 s4 hr _ hf
  have h0:rest=0:=by simpa using hr
  subst h0
  obtain⟨f,rfl⟩: ∃f,fuel=f+1:=⟨fuel-1,by omega⟩
  refine⟨fun h=> ?_,fun _=>⟨_,sWh_stop rfl f⟩⟩
  exfalso
  rw[List.any_eq_true] at h
  obtain⟨y,_,e⟩:=h
  simp at e
 | succ n ih=>
  intro rest fuel s3 s4 hr hn hf
  obtain⟨f,rfl⟩: ∃f,fuel=f+1:=⟨fuel-1,by omega⟩
  by_cases h0:rest=0
  ·subst h0
   refine⟨fun h=> ?_,fun _=>⟨_,sWh_stop rfl f⟩⟩
   exfalso
   rw[List.any_eq_true] at h
   obtain⟨y,_,e⟩:=h
   simp at e
  have hb:=blen_pos h0
  have hle:=Nat.log2_self_le h0
  have hlt:=Nat.lt_log2_self (n:=rest)
  have hlog:rest.log2<n+1:=(Nat.log2_lt h0).mpr hr
  have hr':rest-2^rest.log2<2^n:=Nat.lt_of_lt_of_le (show rest-2^rest.log2<2^rest.log2 by rw[Nat.pow_succ] at hlt;omega) (Nat.pow_le_pow_right (by decide) (by omega))
  have ht:aAy (b2 gGt (look 2) (con (.int 0))) [some (.sh (.dk (keD kp))),some (.sh (.int (one:Int))),some (.sh (.int (rest:Int))),s3,s4]=ok true:=by
   have e:b2 gGt (look 2) (con (.int 0)) [some (.sh (.dk (keD kp))),some (.sh (.int (one:Int))),some (.sh (.int (rest:Int))),s3,s4]=ok (.bl (decide ((0:Int)<(rest:Int)))):=rfl
   unfold aAy
   rw[e,decide_eq_true (by omega)]
   rfl
  have e1:aC3 3 (f1 bitsD (look 2)) [some (.sh (.dk (keD kp))),some (.sh (.int (one:Int))),some (.sh (.int (rest:Int))),s3,s4]=some (.nx [some (.sh (.dk (keD kp))),some (.sh (.int (one:Int))),some (.sh (.int (rest:Int))),some (.sh (.int (aCx rest:Int))),s4]):=rfl
  have e2:getL (look 0) (look 3) [some (.sh (.dk (keD kp))),some (.sh (.int (one:Int))),some (.sh (.int (rest:Int))),some (.sh (.int (aCx rest:Int))),s4]=ok (.lst (nI (getK kp (aCx rest)))):=by
   show (match valD (keD kp) (Sum.inl (aCx rest:Int)) with | some v=>ok v | none=>ok (D.lst []))=_
   rw[val_keD]
   unfold getK
   cases (kp.find? fun p=>decide (p.1=aCx rest))<;>rfl
  have lp:=in_loop (one:=one) (s0:=some (.sh (.dk (keD kp)))) (s2:=some (.sh (.int (rest:Int)))) (s3:=some (.sh (.int (aCx rest:Int)))) (getK kp (aCx rest))
  have ac:=any_c hk one rest h0
  unfold sWh
  rw[ht]
  simp only[lft_ok,if_true]
  cases hc:(getK kp (aCx rest)).any (fun y=>decide (y&&&one=y)) with
  | true=>
   have e3:sForE (getL (look 0) (look 3)) (gN 4) inB [some (.sh (.dk (keD kp))),some (.sh (.int (one:Int))),some (.sh (.int (rest:Int))),some (.sh (.int (aCx rest:Int))),s4]=some (.rt (.bl true)):=by
    unfold sForE
    rw[e2]
    cases s4<;>exact (lp _).1 hc
   have ew:whB [some (.sh (.dk (keD kp))),some (.sh (.int (one:Int))),some (.sh (.int (rest:Int))),s3,s4]=some (.rt (.bl true)):=by
    unfold whB
    rw[aAf e1,aB2 e3]
   rw[ew]
   exact⟨fun _=>rfl,fun h=>by rw[ac.1 hc] at h;cases h⟩
  | false=>
   obtain⟨s4',e3⟩: ∃s4',sForE (getL (look 0) (look 3)) (gN 4) inB [some (.sh (.dk (keD kp))),some (.sh (.int (one:Int))),some (.sh (.int (rest:Int))),some (.sh (.int (aCx rest:Int))),s4]=some (.nx [some (.sh (.dk (keD kp))),some (.sh (.int (one:Int))),some (.sh (.int (rest:Int))),some (.sh (.int (aCx rest:Int))),s4']):=by
    unfold sForE
    rw[e2]
    cases s4<;>exact (lp _).2 hc
   have e4:b2 gSub (look 2) (b2 gShl (con (.int 1)) (b2 gSub (look 3) (con (.int 1)))) [some (.sh (.dk (keD kp))),some (.sh (.int (one:Int))),some (.sh (.int (rest:Int))),some (.sh (.int (aCx rest:Int))),s4']=ok (.int ((rest-2^rest.log2:Nat):Int)):=by
    have g1:b2 gSub (look 3) (con (.int 1)) [some (.sh (.dk (keD kp))),some (.sh (.int (one:Int))),some (.sh (.int (rest:Int))),some (.sh (.int (aCx rest:Int))),s4']=ok (.int (rest.log2:Int)):=by
     have:(aCx rest:Int)-1=(rest.log2:Int):=by rw[hb];omega
     rw[←this]
     rfl
    have g2:b2 gShl (con (.int 1)) (b2 gSub (look 3) (con (.int 1))) [some (.sh (.dk (keD kp))),some (.sh (.int (one:Int))),some (.sh (.int (rest:Int))),some (.sh (.int (aCx rest:Int))),s4']=ok (.int ((2^rest.log2:Nat):Int)):=by
     refine aCy (x:= .int 1) rfl g1 ?_
     show (if 0≤(rest.log2:Int)∧(rest.log2:Int)≤1000000∧(1:Int).natAbs<2^64 then ok (D.int (1*2^(rest.log2:Int).toNat)) else none)=_
     rw[if_pos ⟨by omega,by omega,by decide⟩,Int.one_mul,Int.toNat_natCast]
     congr 2
    refine aCy (x:= .int (rest:Int)) rfl g2 ?_
    show ok (D.int ((rest:Int)-((2^rest.log2:Nat):Int)))=_
    congr 2
    omega
   have e5:=aBp (i:=2) e4 rfl
   have ew:whB [some (.sh (.dk (keD kp))),some (.sh (.int (one:Int))),some (.sh (.int (rest:Int))),s3,s4]=some (.nx [some (.sh (.dk (keD kp))),some (.sh (.int (one:Int))),some (.sh (.int ((rest-2^rest.log2:Nat):Int))),some (.sh (.int (aCx rest:Int))),s4']):=by
    unfold whB
    rw[aAf e1,aAf e3,aAf e5]
    rfl
   rw[ew]
   have q:=ih (rest-2^rest.log2) f (some (.sh (.int (aCx rest:Int)))) s4' hr' (by omega) (by omega)
   have he:aCx rest-1=rest.log2:=by rw[hb,Nat.add_sub_cancel]
   rw[ac.2 hc,he]
   exact q
noncomputable def hasW (kp:Kept) (one:Nat):Bool:=(flat kp).any fun y=>decide (y&&&one=y)
theorem has_sp {kp:Kept} (hk:KpOk kp) {one:Nat} (ho:one<2^1000):aAz (denHas [some (.sh (.dk (keD kp))),some (.sh (.int (one:Int))),none,none,none])=ok (.bl (hasW kp one)):=by
 have g:b2 (gDin false) (con (.int 0)) (look 0) [some (.sh (.dk (keD kp))),some (.sh (.int (one:Int))),none,none,none]=ok (.bl (kp.find? fun p=>decide (p.1=0)).isSome):=by
  show ok (D.bl (valD (keD kp) (Sum.inl ((0:Nat):Int))).isSome)=_
  rw[val_keD,Option.isSome_map]
 unfold denHas
 cases hz:(kp.find? fun p=>decide (p.1=0)).isSome with
 | true=>
  rw[hz] at g
  have ht:aAy (b2 (gDin false) (con (.int 0)) (look 0)) [some (.sh (.dk (keD kp))),some (.sh (.int (one:Int))),none,none,none]=ok true:=by unfold aAy;rw[g];rfl
  obtain⟨p,hp⟩:=Option.isSome_iff_exists.mp hz
  have h1:=List.mem_of_find?_eq_some hp
  have h2:p.1=0:=by simpa using List.find?_some hp
  have:hasW kp one=true:=by
   unfold hasW
   rw[List.any_eq_true]
   obtain⟨x,hx⟩:=List.exists_mem_of_ne_nil _ (hk.ne p h1)
   have h3:=hk.bl p h1 x hx
   have hx0:x=0:=Classical.byContradiction fun q=>by rw[blen_pos q] at h3;omega
   subst hx0
   exact⟨0,mem_flat.mpr ⟨p,h1,hx⟩,by simp⟩
  rw[this]
  unfold aAh
  rw[sIf_t ht]
  rfl
 | false=>
  rw[hz] at g
  have ht:aAy (b2 (gDin false) (con (.int 0)) (look 0)) [some (.sh (.dk (keD kp))),some (.sh (.int (one:Int))),none,none,none]=ok false:=by unfold aAy;rw[g];rfl
  rw[aAf (sIf_f ht)]
  show aAz (aAh _ _ [some (.sh (.dk (keD kp))),some (.sh (.int (one:Int))),none,none,none])=_
  rw[aAf (aBp (f:=look 1) (d:= .int (one:Int)) rfl rfl)]
  have ec:(flat kp).any (fun y=>decide (y≠0∧y&&&one=y∧one.testBit (aCx y-1)=true))=hasW kp one:=by
   unfold hasW
   rw[Bool.eq_iff_iff,List.any_eq_true,List.any_eq_true]
   refine exists_congr fun y=>and_congr_right fun hy=> ?_
   rw[decide_eq_true_eq,decide_eq_true_eq]
   refine⟨fun h=>h.2.1,fun h=> ?_⟩
   have h0:y≠0:=by
    rintro rfl
    obtain⟨q,h1,h2⟩:=mem_flat.mp hy
    have h3:=hk.bl q h1 0 h2
    rw[Option.isSome_eq_false_iff,Option.isNone_iff_eq_none,List.find?_eq_none] at hz
    exact hz q h1 (by rw[decide_eq_true_eq,←h3];rfl)
   refine⟨h0,h,?_⟩
   rw[blen_pos h0,Nat.add_sub_cancel]
   exact sub_bits.mp h _ (Nat.testBit_log2 h0)
  have lp:=has_loop hk one 1000 one 100000 none none ho (Nat.le_refl _) (by decide)
  rw[ec] at lp
  show aAz (aAh (sWhile (aAy (b2 gGt (look 2) (con (.int 0)))) whB) _ [some (.sh (.dk (keD kp))),some (.sh (.int (one:Int))),some (.sh (.int (one:Int))),none,none])=_
  cases hh:hasW kp one with
  | true=>
   rw[aB2 ((show sWhile _ _ _=_ from lp.1 hh))]
   rfl
  | false=>
   obtain⟨ρ',e⟩:=lp.2 hh
   rw[aAf ((show sWhile _ _ _=_ from e))]
   rfl
structure Least (ns L:List Nat):Prop where
 nd:L.Nodup
 sub: ∀y∈L,y∈ns
 cov: ∀x∈ns,∃y∈L,y&&&x=y
 anti: ∀y∈L,∀y'∈L,y&&&y'=y→y=y'
theorem Least.perm {ns ns' L L':List Nat} (h:Least ns L) (hn: ∀x,x∈ns'↔x∈ns) (hl:L'.Perm L):Least ns' L' where
 nd:=hl.nodup_iff.mpr h.nd
 sub:=fun y hy=>(hn y).mpr (h.sub y (hl.mem_iff.mp hy))
 cov:=fun x hx=>by
  obtain⟨y,h1,h2⟩:=h.cov x ((hn x).mp hx)
  exact⟨y,hl.mem_iff.mpr h1,h2⟩
 anti:=fun y hy y' hy'=>h.anti y (hl.mem_iff.mp hy) y' (hl.mem_iff.mp hy')
noncomputable def keS (kp:Kept):SV:= .nl (.k (kp.map fun (p:Nat×List Nat)=>Sum.inl (p.1:Int))) (kp.map fun (p:Nat×List Nat)=>nI p.2)
theorem keS_cur (kp:Kept):(keS kp).cur= .dk (keD kp):=by
 show D.dk ((kp.map fun (p:Nat×List Nat)=>(Sum.inl (p.1:Int):Key)).zip ((kp.map fun (p:Nat×List Nat)=>nI p.2).map D.lst))=_
 rw[List.map_map,List.zip_map']
 rfl
theorem sdA_some {i j:Nat} {fk:Rho→M D} {ga:Rho→M (List D)} {ρ:Rho} {ks:List Key} {ls:List (List D)} {kd d:D} {key:Key} {ds:List D} (h1:ρ[i]? =some (some (.nl (.k ks) ls))) (h2:fk ρ=ok kd) (h3:keyOf kd=some key) (h4:ls.length<100000)
  (h5:(ks.findIdx? fun k=>decide (k=key))=some j) (h6:ga ρ=ok [d]) (h7:ls[j]? =some ds) (h8:d.imm=true) (h9:ds.length<100000):sSdA i fk ga ρ=some (.nx (ρ.set i (some (.nl (.k ks) (ls.set j (ds++ [d])))))):=by
 unfold sSdA
 simp only[h1,h2,lft_ok,h3,if_pos h4,h5,h6,h7,h8,h9,and_self,if_true]
theorem sdA_none {i:Nat} {fk:Rho→M D} {ga:Rho→M (List D)} {ρ:Rho} {ks:List Key} {ls:List (List D)} {kd d:D} {key:Key} (h1:ρ[i]? =some (some (.nl (.k ks) ls))) (h2:fk ρ=ok kd) (h3:keyOf kd=some key) (h4:ls.length<100000)
  (h5:(ks.findIdx? fun k=>decide (k=key))=none) (h6:ga (ρ.set i (some (.nl (.k (ks++ [key])) (ls++ [[]]))))=ok [d]) (h8:d.imm=true):sSdA i fk ga ρ=some (.nx (ρ.set i (some (.nl (.k (ks++ [key])) ((ls++ [[]]).set ls.length ([]++ [d])))))):=by
 unfold sSdA
 simp only[h1,h2,lft_ok,h3,if_pos h4,h5,h6,h8,if_true]
theorem kept_more {kp:Kept} (hk:KpOk kp) (one:Nat) {s0 s2 s3 s4:Option SV} (hs2:s2=some (.sh (.int (one:Int)))) (hn:kp.length<100000) (hm:(flat kp).length<100000): ∃kp',KpOk kp'∧(flat kp').Perm (one::flat kp)∧kp'.length≤kp.length+1∧
  sSdA 1 (f1 bitsD (look 2)) (aAc (look 2) aAv) [s0,some (keS kp),s2,s3,s4]=some (.nx [s0,some (keS kp'),s2,s3,s4]):=by
 subst hs2
 cases hf:(kp.map fun (p:Nat×List Nat)=>(Sum.inl (p.1:Int):Key)).findIdx? fun k=>decide (k=Sum.inl (aCx one:Int)) with
 | some j=>
  obtain⟨hj,h1,_⟩:=List.findIdx?_eq_some_iff_getElem.mp hf
  have hj':j<kp.length:=by rw[List.length_map] at hj;exact hj
  rw[List.getElem_map,key_int,decide_eq_true_eq] at h1
  have hg:(kp.map fun (p:Nat×List Nat)=>nI p.2)[j]? =some (nI (kp[j]'hj').2):=by rw[List.getElem?_map,List.getElem?_eq_getElem hj'];rfl
  have hp:kp[j]'hj'∈kp:=List.getElem_mem _
  have hlen:(kp[j]'hj').2.length≤(flat kp).length:=by
   have: ∀(l:Kept) (p:Nat×List Nat),p∈l→p.2.length≤(flat l).length:=by
    intro l
    induction l with
    | nil=>intro p h;cases h
    | cons q l ih=>
     intro p h
     have:flat (q::l)=q.2++flat l:=rfl
     rw[this,List.length_append]
     rcases List.mem_cons.mp h with rfl | h
     ·omega
     ·have:=ih p h;omega
   exact this kp _ hp
  have split:kp=kp.take j++kp[j]'hj'::kp.drop (j+1):=by rw[List.getElem_cons_drop,List.take_append_drop]
  refine⟨kp.set j (aCx one,(kp[j]'hj').2++ [one]),?_,?_,by rw[List.length_set];omega,?_⟩
  ·refine⟨?_,fun p hp=> ?_,fun p hp x hx=> ?_⟩
   ·have:(kp.set j (aCx one,(kp[j]'hj').2++ [one])).map (·.1)=kp.map (·.1):=by
     rw[List.map_set]
     show (kp.map (·.1)).set j (aCx one)=_
     rw[←h1]
     have:(kp[j]'hj').1=(kp.map (·.1))[j]'(by rw[List.length_map];exact hj'):=by rw[List.getElem_map]
     rw[this,List.set_getElem_self]
    rw[this]
    exact hk.nd
   ·rcases List.mem_or_eq_of_mem_set hp with h | h
    ·exact hk.ne p h
    ·rw[h];simp
   ·rcases List.mem_or_eq_of_mem_set hp with h | h
    ·exact hk.bl p h x hx
    ·rw[h] at hx⊢
     rcases List.mem_append.mp hx with hx | hx
     ·show aCx x=aCx one
      rw[hk.bl _ (List.getElem_mem hj') x hx,h1]
     ·rw[List.mem_singleton.mp hx]
  ·rw[List.set_eq_take_append_cons_drop,if_pos hj']
   conv=>rhs;rw[split]
   unfold flat
   rw[List.flatMap_append,List.flatMap_append,List.flatMap_cons,List.flatMap_cons]
   dsimp only
   generalize (kp.take j).flatMap (·.2)=A
   generalize (kp[j]'hj').2=B
   generalize (kp.drop (j+1)).flatMap (·.2)=C
   refine (List.Perm.trans ?_ List.perm_middle)
   refine List.Perm.append_left _ ?_
   rw[List.append_assoc]
   exact List.perm_middle
  ·refine (sdA_some (i:=1) (key:=Sum.inl (aCx one:Int)) rfl (kd:= .int (aCx one:Int)) rfl rfl (by rw[List.length_map];exact hn) hf (d:= .int (one:Int)) rfl hg rfl (by rw[List.length_map];omega)).trans ?_
   have eA:((kp.set j (aCx one,(kp[j]'hj').2++ [one])).map fun (p:Nat×List Nat)=>(Sum.inl (p.1:Int):Key))=kp.map fun (p:Nat×List Nat)=>(Sum.inl (p.1:Int):Key):=by
    rw[List.map_set]
    show (kp.map fun (p:Nat×List Nat)=>(Sum.inl (p.1:Int):Key)).set j (Sum.inl (aCx one:Int))=_
    have:(Sum.inl (aCx one:Int):Key)=(kp.map fun (p:Nat×List Nat)=>(Sum.inl (p.1:Int):Key))[j]'(by rw[List.length_map];exact hj'):=by rw[List.getElem_map,h1]
    rw[this,List.set_getElem_self]
   have eB:((kp.set j (aCx one,(kp[j]'hj').2++ [one])).map fun (p:Nat×List Nat)=>nI p.2)=(kp.map fun (p:Nat×List Nat)=>nI p.2).set j (nI (kp[j]'hj').2++ [D.int (one:Int)]):=by
    rw[List.map_set]
    congr 1
    show List.map _ _=_
    rw[List.map_append]
    rfl
   unfold keS
   rw[eA,eB]
   rfl
 | none=>
  have hno: ∀p∈kp,p.1≠aCx one:=fun p hp e=>by
   have:=List.findIdx?_eq_none_iff.mp hf (Sum.inl (p.1:Int)) (List.mem_map.mpr ⟨p,hp,rfl⟩)
   rw[key_int,e] at this
   simp at this
  refine⟨kp++ [(aCx one,[one])],⟨?_,fun p hp=> ?_,fun p hp x hx=> ?_⟩,?_,by simp,?_⟩
  ·rw[List.map_append]
   refine List.nodup_append.mpr ⟨hk.nd,by simp,fun a ha b hb=> ?_⟩
   obtain⟨p,hp,rfl⟩:=List.mem_map.mp ha
   simp at hb
   subst hb
   exact hno p hp
  ·rcases List.mem_append.mp hp with h | h
   ·exact hk.ne p h
   ·rw[List.mem_singleton.mp h];simp
  ·rcases List.mem_append.mp hp with h | h
   ·exact hk.bl p h x hx
   ·rw[List.mem_singleton.mp h] at hx⊢
    rw[List.mem_singleton.mp hx]
  ·unfold flat
   rw[List.flatMap_append]
   exact List.perm_append_comm
  ·refine (sdA_none (i:=1) (key:=Sum.inl (aCx one:Int)) rfl (kd:= .int (aCx one:Int)) rfl rfl (by rw[List.length_map];exact hn) hf (d:= .int (one:Int)) rfl rfl).trans ?_
   have eA:((kp++ [(aCx one,[one])]).map fun (p:Nat×List Nat)=>(Sum.inl (p.1:Int):Key))=(kp.map fun (p:Nat×List Nat)=>(Sum.inl (p.1:Int):Key))++ [Sum.inl (aCx one:Int)]:=by
    rw[List.map_append];rfl
   have eB:((kp++ [(aCx one,[one])]).map fun (p:Nat×List Nat)=>nI p.2)=((kp.map fun (p:Nat×List Nat)=>nI p.2)++ [[]]).set (kp.map fun (p:Nat×List Nat)=>nI p.2).length ([]++ [D.int (one:Int)]):=by
    rw[List.map_append,List.set_append_right _ _ (Nat.le_refl _),Nat.sub_self]
    rfl
   unfold keS
   rw[eA,eB]
   rfl
noncomputable def lbB (F:List D→M D):Rho→Option Out:=(aAh (sIf (notB (test (app F (aAc (look 1) (aAc (look 2) aAv))))) (aAh (sSdA 1 (f1 bitsD (look 2)) (aAc (look 2) aAv))
  aAp) aAp)
  aAp)
noncomputable def ltB:Rho→Option Out:=(aAh (sExt2 3 (aAc (b2 gDix (look 1) (look 4)) aAv))
  aAp)
noncomputable def denLB (F:List D→M D):Rho→Option Out:=
  (aAh (sNewN 1)
  (aAh (sForS6 (look 0) (gN 2) (lbB F))
  (aAh (sNew 3 aAv)
  (aAh (sForK 1 (gN 4) ltB)
  (aAh (aBy (look 3))
  aAp)))))
theorem flat_len {kp:Kept} (hk:KpOk kp):kp.length≤(flat kp).length:=by
 have: ∀(l:Kept),(∀p∈l,p.2≠[])→l.length≤(flat l).length:=by
  intro l
  induction l with
  | nil=>intro _;exact Nat.zero_le _
  | cons q l ih=>
   intro h
   have e:flat (q::l)=q.2++flat l:=rfl
   have h1:=ih fun p hp=>h p (List.mem_cons_of_mem _ hp)
   have h2:0<q.2.length:=List.length_pos_iff.mpr (h q List.mem_cons_self)
   rw[e,List.length_append,List.length_cons]
   omega
 exact this kp hk.ne
theorem lb_sp {F:List D→M D} (hF: ∀(kp:Kept) (one:Nat),KpOk kp→one<2^1000→F [.dk (keD kp),.int (one:Int)]=ok (.bl (hasW kp one))) {ns:List Nat} (hl:ns.length<64) (hb: ∀x∈ns,x<2^1000):
  ∃L,Least ns L∧aAz (denLB F [some (.sh (.lst (nI ns))),none,none,none,none])=ok (.lst (nI L)):=by
 obtain⟨ss,hss,hsp⟩: ∃ss:List Nat,srtN (ns.map fun (x:Nat)=>(x:Int))=ss.map (fun (x:Nat)=>(x:Int))∧ss.Perm ns:=by
  have hp:=srtN_perm (ns.map fun (x:Nat)=>(x:Int))
  refine⟨(srtN (ns.map fun (x:Nat)=>(x:Int))).map Int.toNat,?_,?_⟩
  ·rw[List.map_map]
   conv=>lhs;rw[←List.map_id (srtN (ns.map fun (x:Nat)=>(x:Int)))]
   refine List.map_congr_left fun x hx=> ?_
   obtain⟨y,_,rfl⟩:=List.mem_map.mp (hp.mem_iff.mp hx)
   simp
  ·have:=hp.map Int.toNat
   rw[List.map_map] at this
   have e:(Int.toNat∘fun (x:Nat)=>(x:Int))=id:=by funext x;simp
   rw[e,List.map_id] at this
   exact this
 have hso:ss.Pairwise (· ≤ ·):=by
  have h:=srtN_pair (ns.map fun (x:Nat)=>(x:Int))
  rw[hss,List.pairwise_map] at h
  exact h.imp fun h=>by omega
 have hsl:ss.length=ns.length:=hsp.length_eq
 have lp:=aCf (G:=gN 2) (F:=lbB F) (fun pr ρ=> ∃(P:List Nat) (kp:Kept) (o:Option SV),pr=nI P∧KpOk kp∧Least P (flat kp)∧ρ=[some (.sh (.lst (nI ns))),some (keS kp),o,none,none]) (nI ss) [some (.sh (.lst (nI ns))),some (keS []),none,none,none]
  ⟨[],[],none,rfl,⟨by simp,by simp,by simp⟩,⟨by simp[flat],by simp[flat],by simp,by simp[flat]⟩,rfl⟩ (by
   rintro p d q ρ e ⟨P,kp,o,rfl,hk,hL,rfl⟩
   have ess: ∃(x:Nat) (Q:List Nat),ss=P++x::Q∧d= .int (x:Int):=by
    obtain⟨A,B,h1,h2,h3⟩:=List.map_eq_append_iff.mp e
    have hA:A=P:=by
     have: ∀(u v:List Nat),nI u=nI v→u=v:=fun u v h=>(List.map_inj_right (f:=fun (x:Nat)=>D.int (x:Int)) (fun a b hab=>by injection hab with z;omega)).mp h
     exact this _ _ h2
    subst hA
    obtain⟨x,Q,rfl,h4,_⟩:=List.map_eq_cons_iff.mp h3
    exact⟨x,Q,h1,h4.symm⟩
   obtain⟨x,Q,hs,rfl⟩:=ess
   have hx:x∈ns:=hsp.mem_iff.mp (by rw[hs];exact List.mem_append_right _ List.mem_cons_self)
   have hPl:P.length<1000:=by
    have:=congrArg List.length hs
    rw[List.length_append,List.length_cons] at this
    omega
   have hfl:(flat kp).length≤P.length:=aDw hL.nd hL.sub
   have hkl:=flat_len hk
   have hpx: ∀y∈P,y≤x:=fun y hy=>by
    rw[hs] at hso
    exact (List.pairwise_append.mp hso).2.2 y hy x List.mem_cons_self
   have ht:test (app F (aAc (look 1) (aAc (look 2) aAv))) [some (.sh (.lst (nI ns))),some (keS kp),some (.sh (.int (x:Int))),none,none]=ok (hasW kp x):=by
    have l1:look 1 [some (.sh (.lst (nI ns))),some (keS kp),some (.sh (.int (x:Int))),none,none]=ok (.dk (keD kp)):=by
     show ok (keS kp).cur=_
     rw[keS_cur]
    have:=(aB5 (F:=F) (aAj l1 (aAj (f:=look 2) (d:= .int (x:Int)) rfl aA0))).trans (hF kp x hk (hb x hx))
    unfold test
    rw[this]
    rfl
   refine⟨[some (.sh (.lst (nI ns))),some (keS kp),some (.sh (.int (x:Int))),none,none],?_⟩
   cases hw:hasW kp x with
   | true=>
    refine⟨_,rfl,.inl (?_:_=some (Out.nx [some (.sh (.lst (nI ns))),some (keS kp),some (.sh (.int (x:Int))),none,none])),P++ [x],kp,some (.sh (.int (x:Int))),(by show _=List.map _ _;rw[List.map_append];rfl),hk,?_,rfl⟩
    ·unfold lbB
     show aAh _ _ [some (.sh (.lst (nI ns))),some (keS kp),some (.sh (.int (x:Int))),none,none]=_
     rw[hw] at ht
     have hn:notB (test (app F (aAc (look 1) (aAc (look 2) aAv)))) [some (.sh (.lst (nI ns))),some (keS kp),some (.sh (.int (x:Int))),none,none]=ok false:=by unfold notB;rw[ht];rfl
     rw[aAf (sIf_f hn)]
     rfl
    ·refine⟨hL.nd,fun y hy=>List.mem_append_left _ (hL.sub y hy),fun z hz=> ?_,hL.anti⟩
     rcases List.mem_append.mp hz with hz | hz
     ·exact hL.cov z hz
     ·rw[List.mem_singleton.mp hz]
      unfold hasW at hw
      rw[List.any_eq_true] at hw
      obtain⟨y,h1,h2⟩:=hw
      exact⟨y,h1,by simpa using h2⟩
   | false=>
    obtain⟨kp',hk',hpm,hkl',e'⟩:=kept_more hk x (s0:=some (.sh (.lst (nI ns)))) (s3:=none) (s4:=none) rfl (by omega) (by omega)
    have hno: ∀y∈flat kp,y&&&x≠y:=fun y hy e=>by
     unfold hasW at hw
     rw[List.any_eq_false] at hw
     exact hw y hy (by simpa using e)
    refine⟨_,rfl,.inl (?_:_=some (Out.nx [some (.sh (.lst (nI ns))),some (keS kp'),some (.sh (.int (x:Int))),none,none])),P++ [x],kp',some (.sh (.int (x:Int))),(by show _=List.map _ _;rw[List.map_append];rfl),hk',?_,rfl⟩
    ·unfold lbB
     show aAh _ _ [some (.sh (.lst (nI ns))),some (keS kp),some (.sh (.int (x:Int))),none,none]=_
     rw[hw] at ht
     have hn:notB (test (app F (aAc (look 1) (aAc (look 2) aAv)))) [some (.sh (.lst (nI ns))),some (keS kp),some (.sh (.int (x:Int))),none,none]=ok true:=by unfold notB;rw[ht];rfl
     have:sIf (notB (test (app F (aAc (look 1) (aAc (look 2) aAv))))) (aAh (sSdA 1 (f1 bitsD (look 2)) (aAc (look 2) aAv)) aAp) aAp [some (.sh (.lst (nI ns))),some (keS kp),some (.sh (.int (x:Int))),none,none]=some (.nx [some (.sh (.lst (nI ns))),some (keS kp'),some (.sh (.int (x:Int))),none,none]):=by
      rw[sIf_t hn,aAf e']
      rfl
     rw[aAf this]
     rfl
    ·refine Least.perm (ns:=P++ [x]) (L:=x::flat kp) ⟨?_,?_,?_,?_⟩ (fun _=>Iff.rfl) hpm
     ·refine List.nodup_cons.mpr ⟨fun h=>hno x h (Nat.and_self x),hL.nd⟩
     ·intro y hy
      rcases List.mem_cons.mp hy with rfl | hy
      ·exact List.mem_append_right _ List.mem_cons_self
      ·exact List.mem_append_left _ (hL.sub y hy)
     ·intro z hz
      rcases List.mem_append.mp hz with hz | hz
      ·obtain⟨y,h1,h2⟩:=hL.cov z hz
       exact⟨y,List.mem_cons_of_mem _ h1,h2⟩
      ·rw[List.mem_singleton.mp hz]
       exact⟨x,List.mem_cons_self,Nat.and_self x⟩
     ·intro y hy y' hy' h
      rcases List.mem_cons.mp hy with e1 | hy1
      ·rcases List.mem_cons.mp hy' with e2 | hy2
       ·rw[e1,e2]
       ·have h1:=sub_le h
        have h2:=hpx y' (hL.sub y' hy2)
        omega
      ·rcases List.mem_cons.mp hy' with e2 | hy2
       ·rw[e2] at h;exact absurd h (hno y hy1)
       ·exact hL.anti y hy1 y' hy2 h)
 obtain⟨ρ',lp,P,kp,o,hP,hk,hL,rfl⟩:=lp
 have hPs:P=ss:=by
  have: ∀(u v:List Nat),nI u=nI v→u=v:=fun u v h=>(List.map_inj_right (f:=fun (x:Nat)=>D.int (x:Int)) (fun a b hab=>by injection hab with z;omega)).mp h
  exact (this _ _ hP).symm
 subst hPs
 have hfl:(flat kp).length≤P.length:=aDw hL.nd hL.sub
 refine⟨flat kp,hL.perm (fun x=>hsp.symm.mem_iff) (List.Perm.refl _),?_⟩
 unfold denLB
 have s1:sNewN 1 [some (.sh (.lst (nI ns))),none,none,none,none]=some (.nx [some (.sh (.lst (nI ns))),some (keS []),none,none,none]):=rfl
 have s2:sForS6 (look 0) (gN 2) (lbB F) [some (.sh (.lst (nI ns))),some (keS []),none,none,none]=some (.nx [some (.sh (.lst (nI ns))),some (keS kp),o,none,none]):=by
  unfold sForS6
  show (match numL (nI ns) with | some xs=>if xs.length<64 then loop (gN 2) (lbB F) ((srtN xs).map .int) [some (.sh (.lst (nI ns))),some (keS []),none,none,none] else none | none=>none)=_
  have e:nI ns=(ns.map fun (x:Nat)=>(x:Int)).map D.int:=by rw[List.map_map];rfl
  rw[show numL (nI ns)=some (ns.map fun (x:Nat)=>(x:Int)) by rw[e,numL_map]]
  dsimp only
  rw[if_pos (by rw[List.length_map];exact hl),hss,List.map_map]
  exact lp
 have s3:sNew 3 aAv [some (.sh (.lst (nI ns))),some (keS kp),o,none,none]=some (.nx [some (.sh (.lst (nI ns))),some (keS kp),o,some (.own []),none]):=rfl
 rw[aAf s1,aAf s2,aAf s3]
 have lp2:=aCf (G:=gN 4) (F:=ltB) (fun pr ρ=> ∃(K:Kept) (o4:Option SV),(∃K2,kp=K++K2)∧pr=(K.map fun (p:Nat×List Nat)=>D.int (p.1:Int))∧ρ=[some (.sh (.lst (nI ns))),some (.sh (.dk (keD kp))),o,some (.own (nI (flat K))),o4]) (kp.map fun (p:Nat×List Nat)=>D.int (p.1:Int)) [some (.sh (.lst (nI ns))),some (.sh (.dk (keD kp))),o,some (.own []),none]
  ⟨[],none,⟨kp,rfl⟩,rfl,rfl⟩ (by
   rintro p d q ρ e ⟨K,o4,⟨K2,hK⟩,rfl,rfl⟩
   have ek: ∃x K3,K2=x::K3∧d= .int (x.1:Int):=by
    rw[hK,List.map_append] at e
    have e':=List.append_cancel_left e
    obtain⟨x,K3,h1,h2,_⟩:=List.map_eq_cons_iff.mp e'
    exact⟨x,K3,h1,h2.symm⟩
   obtain⟨x,K3,rfl,rfl⟩:=ek
   have hx:x∈kp:=by rw[hK];exact List.mem_append_right _ List.mem_cons_self
   have hfK:(flat K).length+x.2.length≤(flat kp).length:=by
    rw[hK]
    unfold flat
    rw[List.flatMap_append,List.flatMap_cons,List.length_append,List.length_append]
    omega
   refine⟨[some (.sh (.lst (nI ns))),some (.sh (.dk (keD kp))),o,some (.own (nI (flat K))),some (.sh (.int (x.1:Int)))],[some (.sh (.lst (nI ns))),some (.sh (.dk (keD kp))),o,some (.own (nI (flat (K++ [x])))),some (.sh (.int (x.1:Int)))],rfl,.inl ?_,K++ [x],some (.sh (.int (x.1:Int))),⟨K3,by rw[hK,List.append_assoc];rfl⟩,by rw[List.map_append];rfl,rfl⟩
   have g:b2 gDix (look 1) (look 4) [some (.sh (.lst (nI ns))),some (.sh (.dk (keD kp))),o,some (.own (nI (flat K))),some (.sh (.int (x.1:Int)))]=ok (.lst (nI x.2)):=by
    show (match valD (keD kp) (Sum.inl (x.1:Int)) with | some v=>ok v | none=>none)=_
    rw[val_keD,find_of hk.nd hx]
    rfl
   have im: ∀l:List Nat,immL (nI l)=true:=by
    intro l
    induction l with
    | nil=>rfl
    | cons y l ih=>show ((D.int (y:Int)).imm&&immL (nI l))=true;rw[ih];rfl
   have s:sExt2 3 (aAc (b2 gDix (look 1) (look 4)) aAv) [some (.sh (.lst (nI ns))),some (.sh (.dk (keD kp))),o,some (.own (nI (flat K))),some (.sh (.int (x.1:Int)))]=some (.nx [some (.sh (.lst (nI ns))),some (.sh (.dk (keD kp))),o,some (.own (nI (flat (K++ [x])))),some (.sh (.int (x.1:Int)))]):=by
    unfold sExt2
    show lft _ _ _=_
    rw[aAj g aA0]
    show (if immL (nI x.2)=true∧(nI (flat K)).length+(nI x.2).length≤100000 then _ else _)=_
    rw[if_pos ⟨im _,by rw[List.length_map,List.length_map];omega⟩]
    have:nI (flat (K++ [x]))=nI (flat K)++nI x.2:=by
     unfold flat
     rw[List.flatMap_append,List.flatMap_cons,List.flatMap_nil,List.append_nil]
     exact List.map_append
    rw[this]
    rfl
   unfold ltB
   rw[aAf s]
   rfl)
 obtain⟨ρ2,lp2,K,o4,⟨K2,hK⟩,hKe,rfl⟩:=lp2
 have hK2:K=kp:=by
  have:=congrArg List.length hKe
  rw[List.length_map,List.length_map,hK,List.length_append] at this
  have:K2=[]:=List.length_eq_zero_iff.mp (by omega)
  rw[hK,this,List.append_nil]
 subst hK2
 have s4:sForK 1 (gN 4) ltB [some (.sh (.lst (nI ns))),some (keS K),o,some (.own []),none]=some (.nx [some (.sh (.lst (nI ns))),some (.sh (.dk (keD K))),o,some (.own (nI (flat K))),o4]):=by
  rw[←lp2]
  unfold sForK keS
  show loop (gN 4) ltB ((K.map fun (p:Nat×List Nat)=>(Sum.inl (p.1:Int):Key)).map kD) [some (.sh (.lst (nI ns))),some (.sh (.dk ((K.map fun (p:Nat×List Nat)=>(Sum.inl (p.1:Int):Key)).zip ((K.map fun (p:Nat×List Nat)=>nI p.2).map D.lst)))),o,some (.own []),none]=_
  rw[List.map_map,List.map_map,List.zip_map']
  rfl
 rw[aAf s4]
 rfl
noncomputable def nmF:Nat→List Str→List (Key×D)
 | _,[]=> []
 | i,k::ks=>(Sum.inr k,D.int (i:Int))::nmF (i+1) ks
noncomputable abbrev nmD (ks:List Str):List (Key×D):=nmF 0 ks
theorem nmF_len: ∀(i:Nat) (ks:List Str),(nmF i ks).length=ks.length
 | _,[]=>rfl
 | i,k::ks=>congrArg (· +1) (nmF_len (i+1) ks)
theorem key_str (a b:Str):decide ((Sum.inr a:Key)=Sum.inr b)=decide (a=b):=by
 apply decide_eq_decide.mpr
 exact⟨fun h=>Sum.inr.inj h,fun h=>by rw[h]⟩
theorem nmF_val (x:Str): ∀(ks:List Str) (i:Nat),valD (nmF i ks) (Sum.inr x)=if x∈ks then some (D.int ((i+ks.idxOf x:Nat):Int)) else none:=by
 intro ks
 induction ks with
 | nil=>intro i;rfl
 | cons k ks ih=>
  intro i
  unfold nmF valD
  rw[List.find?_cons,key_str]
  by_cases e:k=x
  ·subst e
   rw[decide_eq_true rfl,if_pos List.mem_cons_self,List.idxOf_cons_self]
   rfl
  ·rw[decide_eq_false e]
   have:=ih (i+1)
   unfold valD at this
   show Option.map (fun x=>x.snd) (List.find? (fun kv=>decide (kv.1=Sum.inr x)) (nmF (i+1) ks))=_
   rw[this,List.idxOf_cons,show (k==x)=false by simpa using e,cond_false]
   by_cases hm:x∈ks
   ·rw[if_pos hm,if_pos (List.mem_cons_of_mem _ hm)]
    congr 3
    omega
   ·rw[if_neg hm,if_neg (fun h=>(List.mem_cons.mp h).elim (fun z=>e z.symm) hm)]
theorem nmF_snoc (x:Str): ∀(ks:List Str) (i:Nat),nmF i (ks++ [x])=nmF i ks++ [(Sum.inr x,D.int ((i+ks.length:Nat):Int))]
 | [],_=>rfl
 | k::ks,i=>by
  show _::nmF (i+1) (ks++ [x])=_::(nmF (i+1) ks++_)
  rw[nmF_snoc x ks (i+1),List.length_cons]
  congr 5
  omega
theorem nm_val {ks:List Str} {x:Str} (h:x∈ks):valD (nmD ks) (Sum.inr x)=some (D.int (ks.idxOf x:Int)):=by
 rw[nmF_val,if_pos h,Nat.zero_add]
noncomputable def nmI:Rho→Option Out:=(aAh (sSdK 1 (look 3) (f1 lenK (look 1)))
  aAp)
noncomputable def nmO:Rho→Option Out:=(aAh (aCb 2 (gN 3) nmI)
  aAp)
noncomputable def denNums:Rho→Option Out:=
  (aAh (sNewK 1)
  (aAh (aCb 0 (gN 2) nmO)
  (aAh (aBy (look 1))
  aAp)))
theorem nm_inner {s0 s2:Option SV}: ∀(xs ks:List Str) (s3:Option SV),ks.length+xs.length<100000→∃s3',loop (gN 3) nmI (xs.map D.str) [s0,some (.ow (.k (nmD ks))),s2,s3]=some (.nx [s0,some (.ow (.k (nmD (xs.foldl addS ks)))),s2,s3']):=by
 intro xs
 induction xs with
 | nil=>intro ks s3 _;exact⟨s3,rfl⟩
 | cons x xs ih=>
  intro ks s3 hl
  rw[List.length_cons] at hl
  have e:nmI [s0,some (.ow (.k (nmD ks))),s2,some (.sh (.str x))]=some (.nx [s0,some (.ow (.k (nmD (addS ks x)))),s2,some (.sh (.str x))]):=by
   have s:sSdK 1 (look 3) (f1 lenK (look 1)) [s0,some (.ow (.k (nmD ks))),s2,some (.sh (.str x))]=some (.nx [s0,some (.ow (.k (nmD (addS ks x)))),s2,some (.sh (.str x))]):=by
    show (if (D.int ((nmD ks).length:Int)).imm=true∧(nmD ks).length<100000 then (if (valD (nmD ks) (Sum.inr x)).isSome=true then some (Out.nx [s0,some (.ow (.k (nmD ks))),s2,some (.sh (.str x))]) else some (Out.nx [s0,some (.ow (.k (putT (nmD ks) (Sum.inr x) (.int ((nmD ks).length:Int))))),s2,some (.sh (.str x))])) else none)=_
    rw[if_pos ⟨rfl,by rw[nmF_len];omega⟩]
    unfold addS
    by_cases hm:x∈ks
    ·rw[nm_val hm,if_pos Option.isSome_some,if_pos (by simpa using hm)]
    ·rw[nmF_val,if_neg hm,if_neg (by simp),if_neg (by simpa using hm)]
     congr 7
     unfold putT
     have hn:(nmD ks).any (fun kv=>decide (kv.1=Sum.inr x))=false:=by
      rw[List.any_eq_false]
      intro kv hkv hc
      have h1:valD (nmD ks) (Sum.inr x)=none:=by rw[nmF_val,if_neg hm]
      unfold valD at h1
      rw[Option.map_eq_none_iff,List.find?_eq_none] at h1
      exact h1 kv hkv hc
     rw[hn]
     show nmD ks++ [(Sum.inr x,D.int ((nmD ks).length:Int))]=nmF 0 (ks++ [x])
     rw[nmF_snoc,nmF_len,Nat.zero_add]
   unfold nmI
   rw[aAf s]
   rfl
  obtain⟨s3',h⟩:=ih (addS ks x) (some (.sh (.str x))) (by rw[addS_len];split<;>omega)
  exact⟨s3',(aDe rfl e).trans h⟩
theorem nm_outer {s0:Option SV}: ∀(S:List (List Str)) (ks:List Str) (s2 s3:Option SV),ks.length+S.flatten.length<100000→∃s2' s3',loop (gN 2) nmO (S.map tS) [s0,some (.ow (.k (nmD ks))),s2,s3]=some (.nx [s0,some (.ow (.k (nmD (S.flatten.foldl addS ks)))),s2',s3']):=by
 intro S
 induction S with
 | nil=>intro ks s2 s3 _;exact⟨s2,s3,rfl⟩
 | cons xs S ih=>
  intro ks s2 s3 hl
  rw[List.flatten_cons,List.length_append] at hl
  obtain⟨s3',h⟩:=nm_inner (s0:=s0) (s2:=some (.sh (tS xs))) xs ks s3 (by omega)
  have e:nmO [s0,some (.ow (.k (nmD ks))),some (.sh (tS xs)),s3]=some (.nx [s0,some (.ow (.k (nmD (xs.foldl addS ks)))),some (.sh (tS xs)),s3']):=by
   unfold nmO
   rw[aAf (show aCb 2 (gN 3) nmI [s0,some (.ow (.k (nmD ks))),some (.sh (tS xs)),s3]=_ from h)]
   rfl
  have hl2:(xs.foldl addS ks).length≤ks.length+xs.length:=by
   have g: ∀(vs σ:List Str),(vs.foldl addS σ).length≤σ.length+vs.length:=by
    intro vs
    induction vs with
    | nil=>intro σ;exact Nat.le_refl _
    | cons v vs ih=>
     intro σ
     rw[List.foldl_cons]
     have h1:=ih (addS σ v)
     have h2:(addS σ v).length≤σ.length+1:=by rw[addS_len];split<;>omega
     rw[List.length_cons]
     omega
   exact g xs ks
  obtain⟨s2',s3'',h'⟩:=ih (xs.foldl addS ks) (some (.sh (tS xs))) s3' (by omega)
  refine⟨s2',s3'',?_⟩
  have hg:gN 2 (tS xs) [s0,some (.ow (.k (nmD ks))),s2,s3]=some [s0,some (.ow (.k (nmD ks))),some (.sh (tS xs)),s3]:=by
   show some (setV 2 (tS xs) _)=_
   rw[aEa (aEd xs)]
   rfl
  rw[List.map_cons]
  refine (aDe hg e).trans (h'.trans ?_)
  rw[List.flatten_cons,List.foldl_append]
noncomputable abbrev nmsS (S:List (List Str)):List Str:=aDp S.flatten
theorem nums_sp {d:D} {S:List (List Str)} (hd:itD d=ok (S.map tS)) (hl:S.flatten.length<100000):aAz (denNums [some (.sh d),none,none,none])=ok (.dk (nmD (nmsS S))):=by
 obtain⟨s2',s3',h⟩:=nm_outer (s0:=some (.sh d)) S [] none none (by simpa using hl)
 unfold denNums
 rw[aAf (show sNewK 1 [some (.sh d),none,none,none]=some (.nx [some (.sh d),some (.ow (.k (nmD []))),none,none]) from rfl)]
 have s:aCb 0 (gN 2) nmO [some (.sh d),some (.ow (.k (nmD []))),none,none]=some (.nx [some (.sh d),some (.ow (.k (nmD (S.flatten.foldl addS [])))),s2',s3']):=by
  unfold aCb
  show (match itD d with | some (.ok ds)=>loop (gN 2) nmO ds [some (.sh d),some (.ow (.k (nmD []))),none,none] | _=>none)=_
  rw[hd]
  exact h
 rw[aAf s]
 rfl
theorem mem_nmsS {S:List (List Str)} {xs:List Str} (h:xs∈S) {x:Str} (hx:x∈xs):x∈nmsS S:=by
 have:=metS_has S.flatten x
 rw[←List.contains_iff_mem,this,List.contains_iff_mem]
 exact List.mem_flatten.mpr ⟨xs,h,hx⟩
noncomputable def aA7 (ks:List Str) (xs:List Str):Nat:=xs.foldl (fun b x=>b ||| 2^ks.idxOf x) 0
theorem aCu (ks:List Str) (xs:List Str) (i:Nat):(aA7 ks xs).testBit i=xs.any fun x=>decide (ks.idxOf x=i):=by
 have g: ∀(xs:List Str) (b:Nat),(xs.foldl (fun b x=>b ||| 2^ks.idxOf x) b).testBit i=(b.testBit i || xs.any fun x=>decide (ks.idxOf x=i)):=by
  intro xs
  induction xs with
  | nil=>intro b;simp
  | cons x xs ih=>
   intro b
   rw[List.foldl_cons,ih,Nat.testBit_or,Nat.testBit_two_pow,List.any_cons,Bool.or_assoc]
 have:=g xs 0
 unfold aA7
 simpa using this
theorem idx_inj {ks:List Str} {x y:Str} (hx:x∈ks) (h:ks.idxOf x=ks.idxOf y):x=y:=by
 have h1:=List.idxOf_lt_length_iff.mpr hx
 have h2:ks.idxOf y<ks.length:=by omega
 have e1:=List.getElem_idxOf h1
 have e2:=List.getElem_idxOf h2
 rw[←e1,←e2]
 congr 1
theorem bits_sub {ks xs ys:List Str} (hx: ∀x∈xs,x∈ks):aA7 ks xs&&&aA7 ks ys=aA7 ks xs↔∀x∈xs,x∈ys:=by
 rw[sub_bits]
 constructor
 ·intro h x hxx
  have:=h (ks.idxOf x) (by rw[aCu,List.any_eq_true];exact⟨x,hxx,by simp⟩)
  rw[aCu,List.any_eq_true] at this
  obtain⟨y,hy,e⟩:=this
  rw[idx_inj (hx x hxx) (by simpa using e:ks.idxOf y=ks.idxOf x).symm]
  exact hy
 ·intro h i hi
  rw[aCu,List.any_eq_true] at hi⊢
  obtain⟨x,hx,e⟩:=hi
  exact⟨x,h x hx,e⟩
theorem bitsN_lt {ks xs:List Str} (hx: ∀x∈xs,x∈ks):aA7 ks xs<2^ks.length:=by
 refine Nat.lt_pow_two_of_testBit _ fun i hi=> ?_
 rw[aCu,List.any_eq_false]
 intro x hxx e
 have:=List.idxOf_lt_length_iff.mpr (hx x hxx)
 have e':ks.idxOf x=i:=by simpa using e
 omega
theorem bits_app (ks xs ys:List Str):aA7 ks (xs++ys)=aA7 ks xs ||| aA7 ks ys:=by
 refine Nat.eq_of_testBit_eq fun i=> ?_
 rw[Nat.testBit_or,aCu,aCu,aCu,List.any_append]
theorem bits_congr {ks xs ys:List Str} (h: ∀x,x∈xs↔x∈ys):aA7 ks xs=aA7 ks ys:=by
 refine Nat.eq_of_testBit_eq fun i=> ?_
 rw[aCu,aCu,Bool.eq_iff_iff,List.any_eq_true,List.any_eq_true]
 exact⟨fun⟨x,h1,h2⟩=>⟨x,(h x).mp h1,h2⟩,fun⟨x,h1,h2⟩=>⟨x,(h x).mpr h1,h2⟩⟩
noncomputable def biB:Rho→Option Out:=(aAh (aC3 2 (b2 gBOr (look 2) (b2 gShl (con (.int 1)) (b2 gDix (look 1) (look 3)))))
  aAp)
noncomputable def denBits:Rho→Option Out:=
  (aAh (aC3 2 (con (.int 0)))
  (aAh (aCb 0 (gN 3) biB)
  (aAh (aBy (look 2))
  aAp)))
theorem bits_loop {ks:List Str} {s0:Option SV} (hk:ks.length≤100000): ∀(xs:List Str) (b:Nat) (s3:Option SV),(∀x∈xs,x∈ks)→∃s3',loop (gN 3) biB (xs.map D.str) [s0,some (.sh (.dk (nmD ks))),some (.sh (.int (b:Int))),s3]=some (.nx [s0,some (.sh (.dk (nmD ks))),some (.sh (.int ((xs.foldl (fun b x=>b ||| 2^ks.idxOf x) b:Nat):Int))),s3']):=by
 intro xs
 induction xs with
 | nil=>intro b s3 _;exact⟨s3,rfl⟩
 | cons x xs ih=>
  intro b s3 hx
  have hxk:=hx x List.mem_cons_self
  have hlt:=List.idxOf_lt_length_iff.mpr hxk
  have g1:b2 gDix (look 1) (look 3) [s0,some (.sh (.dk (nmD ks))),some (.sh (.int (b:Int))),some (.sh (.str x))]=ok (.int (ks.idxOf x:Int)):=by
   show (match valD (nmD ks) (Sum.inr x) with | some v=>ok v | none=>none)=_
   rw[nm_val hxk]
  have g2:b2 gShl (con (.int 1)) (b2 gDix (look 1) (look 3)) [s0,some (.sh (.dk (nmD ks))),some (.sh (.int (b:Int))),some (.sh (.str x))]=ok (.int ((2^ks.idxOf x:Nat):Int)):=by
   refine aCy (x:= .int 1) rfl g1 ?_
   show (if 0≤(ks.idxOf x:Int)∧(ks.idxOf x:Int)≤1000000∧(1:Int).natAbs<2^64 then ok (D.int (1*2^(ks.idxOf x:Int).toNat)) else none)=_
   rw[if_pos ⟨by omega,by omega,by decide⟩,Int.one_mul,Int.toNat_natCast]
   congr 2
  have g3:b2 gBOr (look 2) (b2 gShl (con (.int 1)) (b2 gDix (look 1) (look 3))) [s0,some (.sh (.dk (nmD ks))),some (.sh (.int (b:Int))),some (.sh (.str x))]=ok (.int ((b ||| 2^ks.idxOf x:Nat):Int)):=by
   refine aCy (x:= .int (b:Int)) rfl g2 ?_
   show ok (D.int (Builtin.bitOr (b:Int) ((2^ks.idxOf x:Nat):Int)))=_
   rw[bitOr_nat]
  have e:biB [s0,some (.sh (.dk (nmD ks))),some (.sh (.int (b:Int))),some (.sh (.str x))]=some (.nx [s0,some (.sh (.dk (nmD ks))),some (.sh (.int ((b ||| 2^ks.idxOf x:Nat):Int))),some (.sh (.str x))]):=by
   unfold biB
   rw[aAf (aBp g3 rfl)]
   rfl
  obtain⟨s3',h⟩:=ih (b ||| 2^ks.idxOf x) (some (.sh (.str x))) fun y hy=>hx y (List.mem_cons_of_mem _ hy)
  exact⟨s3',(aDe rfl e).trans h⟩
theorem bits_sp {ks xs:List Str} (hk:ks.length≤100000) (hx: ∀x∈xs,x∈ks):aAz (denBits [some (.sh (tS xs)),some (.sh (.dk (nmD ks))),none,none])=ok (.int (aA7 ks xs:Int)):=by
 obtain⟨s3',h⟩:=bits_loop (s0:=some (.sh (tS xs))) hk xs 0 none hx
 unfold denBits
 rw[aAf (show aC3 2 (con (.int 0)) [some (.sh (tS xs)),some (.sh (.dk (nmD ks))),none,none]=some (.nx [some (.sh (tS xs)),some (.sh (.dk (nmD ks))),some (.sh (.int ((0:Nat):Int))),none]) from rfl)]
 rw[aAf (show aCb 0 (gN 3) biB [some (.sh (tS xs)),some (.sh (.dk (nmD ks))),some (.sh (.int ((0:Nat):Int))),none]=_ from h)]
 rfl
noncomputable abbrev Rise (r:List Str):Prop:=r.Pairwise fun a b=>decide (a.cps.toList<b.cps.toList)=true
structure aCd (P:List Str→Prop) (R:List (List Str)):Prop where
 frm: ∀r∈R,Rise r∧∃xs,P xs∧∀z,z∈r↔z∈xs
 cov: ∀xs,P xs→∃r∈R,∀z∈r,z∈xs
 anti: ∀r∈R,∀r'∈R,(∀z∈r,z∈r')→r=r'
 asc:R.Pairwise fun a b=>lexS a b=true
theorem srt_rise {xs:List Str} (h:xs.Nodup):Rise (srtS xs):=by
 have h1:=srtS_pair xs
 have h2:(srtS xs).Nodup:=(srtS_perm xs).nodup_iff.mpr h
 refine (h1.and h2).imp fun⟨h,hn⟩=> ?_
 exact ltc_to (fun e=>hn e.symm) (by rw[ltc_iff,h];rfl)
theorem rise_nodup {r:List Str} (h:Rise r):r.Nodup:=h.imp fun h e=>by rw[e,ltc_ir] at h;cases h
theorem rise_ext {r r':List Str} (h:Rise r) (h':Rise r') (e: ∀z,z∈r↔z∈r'):r=r':=by
 have p:r.Perm r':=(List.perm_ext_iff_of_nodup (rise_nodup h) (rise_nodup h')).mpr e
 refine List.Perm.eq_of_pairwise (fun a b _ _ h1 h2=> ?_) h h' p
 have:=ltc_tr h1 h2
 rw[ltc_ir] at this
 cases this
theorem least_core {ks:List Str} {N L:List Nat} {f:Nat→List Str} {P:List Str→Prop} (h1: ∀b∈N,∃xs,P xs∧aA7 ks xs=b∧Rise (f b)∧∀z,z∈f b↔z∈xs) (h2: ∀xs,P xs→aA7 ks xs∈N) (h3: ∀xs,P xs→∀x∈xs,x∈ks)
  (hL:Least N L):aCd P (srtT (L.map f))∧(L.map f).Nodup∧(2≤(L.map f).length→∀k∈L.map f,k≠[])∧∀r∈srtT (L.map f),r∈L.map f:=by
 have hm: ∀r,r∈srtT (L.map f)↔r∈L.map f:=fun r=>(srtT_perm (L.map f)).mem_iff
 have hbits: ∀b∈L,aA7 ks (f b)=b∧(∀z∈f b,z∈ks):=fun b hb=>by
  obtain⟨xs,p1,p2,p3,p4⟩:=h1 b (hL.sub b hb)
  exact⟨(bits_congr p4).trans p2,fun z hz=>h3 xs p1 z ((p4 z).mp hz)⟩
 have hanti: ∀b∈L,∀b'∈L,(∀z∈f b,z∈f b')→b=b':=fun b hb b' hb' h=>by
  refine hL.anti b hb b' hb' ?_
  have:=(bits_sub (ys:=f b') (hbits b hb).2).mpr h
  rw[(hbits b hb).1,(hbits b' hb').1] at this
  exact this
 have hnd:(L.map f).Nodup:=by
  unfold List.Nodup
  rw[List.pairwise_map]
  refine List.Pairwise.imp_of_mem (fun {a b} ha hb hne e=>hne (hanti a ha b hb fun z hz=>by rw[←e];exact hz)) hL.nd
 refine⟨⟨?_,?_,?_,srtT_asc hnd⟩,hnd,?_,fun r hr=>(hm r).mp hr⟩
 ·intro r hr
  obtain⟨b,hb,rfl⟩:=List.mem_map.mp ((hm r).mp hr)
  obtain⟨xs,p1,p2,p3,p4⟩:=h1 b (hL.sub b hb)
  exact⟨p3,xs,p1,p4⟩
 ·intro xs hxs
  obtain⟨b,hb,e⟩:=hL.cov _ (h2 xs hxs)
  refine⟨f b,(hm _).mpr (List.mem_map.mpr ⟨b,hb,rfl⟩),?_⟩
  have hb2:=hbits b hb
  rw[←hb2.1] at e
  exact (bits_sub hb2.2).mp e
 ·intro r hr r' hr' h
  obtain⟨b,hb,rfl⟩:=List.mem_map.mp ((hm r).mp hr)
  obtain⟨b',hb',rfl⟩:=List.mem_map.mp ((hm r').mp hr')
  rw[hanti b hb b' hb' h]
 ·intro hlen k hk e
  obtain⟨b,hb,rfl⟩:=List.mem_map.mp hk
  have hall: ∀b'∈L,b'=b:=fun b' hb'=>(hanti b hb b' hb' fun z hz=>by rw[e] at hz;cases hz).symm
  rw[List.length_map] at hlen
  have:=hL.nd
  match L,hall,this,hlen with
  | x::y::r,hall,hn,_=>
   have e1:=hall x List.mem_cons_self
   have e2:=hall y (List.mem_cons_of_mem _ List.mem_cons_self)
   rw[List.nodup_cons] at hn
   exact hn.1 (by rw[e1,e2];exact List.mem_cons_self)
  | [_],_,_,h=>simp at h
  | [],_,_,h=>simp at h
theorem aCd.self {P:List Str→Prop} {R R':List (List Str)} (h:aCd P R) (h':aCd (· ∈R) R'):R'=R:=by
 have m: ∀r,r∈R'↔r∈R:=by
  have m1: ∀r∈R',r∈R:=fun r hr=>by
   obtain⟨p1,xs,p2,p3⟩:=h'.frm r hr
   rw[rise_ext p1 (h.frm xs p2).1 p3]
   exact p2
  refine fun r=>⟨m1 r,fun hr=> ?_⟩
  obtain⟨r',h1,h2⟩:=h'.cov r hr
  rw[←h.anti r' (m1 r' h1) r hr h2]
  exact h1
 have nd: ∀{l:List (List Str)},l.Pairwise (fun a b=>lexS a b=true)→l.Nodup:=fun h=>h.imp fun h e=>by rw[e,lex_ir] at h;cases h
 refine List.Perm.eq_of_pairwise (fun a b _ _ h1 h2=> ?_) h'.asc h.asc ((List.perm_ext_iff_of_nodup (nd h'.asc) (nd h.asc)).mpr m)
 have:=lex_tr h1 h2
 rw[lex_ir] at this
 cases this
section
variable {α:Type}
noncomputable def puB (st:List (Nat×α)) (b:Nat) (v:α):List (Nat×α):=if (st.any fun e=>decide (e.1=b))=true then st.map (fun e=>if e.1=b then (e.1,v) else e) else st++ [(b,v)]
noncomputable def stD (g:α→D) (st:List (Nat×α)):List (Key×D):=st.map fun e=>(Sum.inl (e.1:Int),g e.2)
theorem put_stD (g:α→D) (st:List (Nat×α)) (b:Nat) (v:α):putT (stD g st) (Sum.inl (b:Int)) (g v)=stD g (puB st b v):=by
 have hc: ∀e:Nat×α,((Sum.inl (e.1:Int):Key)=Sum.inl (b:Int))↔e.1=b:=fun e=>by
  have:=key_int e.1 b
  rw[decide_eq_decide] at this
  exact this
 have ha:(stD g st).any (fun kv=>decide (kv.1=Sum.inl (b:Int)))=st.any fun e=>decide (e.1=b):=by
  unfold stD
  rw[List.any_map]
  congr 1
  funext e
  exact key_int e.1 b
 unfold putT puB
 rw[ha]
 split
 ·unfold stD
  rw[List.map_map,List.map_map]
  refine List.map_congr_left fun e _=> ?_
  show (if (Sum.inl (e.1:Int):Key)=Sum.inl (b:Int) then _ else _)=_
  by_cases h:e.1=b
  ·rw[if_pos ((hc e).mpr h)]
   show _=(fun e:Nat×α=>((Sum.inl (e.1:Int):Key),g e.2)) (if e.1=b then (e.1,v) else e)
   rw[if_pos h]
  ·rw[if_neg fun z=>h ((hc e).mp z)]
   show _=(fun e:Nat×α=>((Sum.inl (e.1:Int):Key),g e.2)) (if e.1=b then (e.1,v) else e)
   rw[if_neg h]
 ·unfold stD
  rw[List.map_append]
  rfl
theorem val_stD (g:α→D) (st:List (Nat×α)) (b:Nat):valD (stD g st) (Sum.inl (b:Int))=(st.find? fun e=>decide (e.1=b)).map fun e=>g e.2:=by
 unfold valD stD
 rw[List.find?_map]
 have:((fun kv:Key×D=>decide (kv.1=Sum.inl (b:Int)))∘fun e:Nat×α=>((Sum.inl (e.1:Int):Key),g e.2))=fun e=>decide (e.1=b):=by
  funext e
  exact key_int e.1 b
 rw[this,Option.map_map]
 rfl
theorem stD_len (g:α→D) (st:List (Nat×α)):(stD g st).length=st.length:=List.length_map _
theorem stD_keys (g:α→D) (st:List (Nat×α)):keysD (.dk (stD g st))=ok (.lst (nI (st.map (·.1)))):=by
 show ok (D.lst ((stD g st).map fun kv=>kD kv.1))=_
 unfold stD
 rw[List.map_map,show nI (st.map (·.1))=st.map ((fun (x:Nat)=>D.int (x:Int))∘(·.1)) from List.map_map]
 rfl
structure StOk (key:α→Nat) (P:List α) (st:List (Nat×α)):Prop where
 ent: ∀e∈st,e.2∈P∧key e.2=e.1
 cov: ∀p∈P,key p∈st.map (·.1)
 len:st.length≤P.length
 nd:(st.map (·.1)).Nodup
theorem StOk.put {key:α→Nat} {P:List α} {st:List (Nat×α)} (h:StOk key P st) (v:α):StOk key (P++ [v]) (puB st (key v) v):=by
 unfold puB
 split
 ·rename_i hc
  rw[List.any_eq_true] at hc
  obtain⟨e0,he0,hc⟩:=hc
  have hkeys:(st.map (fun e=>if e.1=key v then (e.1,v) else e)).map (·.1)=st.map (·.1):=by
   rw[List.map_map]
   refine List.map_congr_left fun e _=> ?_
   show (if e.1=key v then (e.1,v) else e).1=e.1
   split<;>rfl
  refine⟨fun e he=> ?_,fun p hp=> ?_,by rw[List.length_map,List.length_append];exact Nat.le_succ_of_le h.len,by rw[hkeys];exact h.nd⟩
  ·obtain⟨e',he',rfl⟩:=List.mem_map.mp he
   split
   ·rename_i hk
    exact⟨List.mem_append_right _ List.mem_cons_self,hk.symm⟩
   ·exact⟨List.mem_append_left _ (h.ent e' he').1,(h.ent e' he').2⟩
  ·rw[hkeys]
   rcases List.mem_append.mp hp with hp | hp
   ·exact h.cov p hp
   ·rw[List.mem_singleton.mp hp]
    exact List.mem_map.mpr ⟨e0,he0,by simpa using hc⟩
 ·rename_i hc
  refine⟨fun e he=> ?_,fun p hp=> ?_,by rw[List.length_append,List.length_append];exact Nat.succ_le_succ h.len,?_⟩
  rotate_left 2
  ·rw[List.map_append]
   refine List.nodup_append.mpr ⟨h.nd,by simp,fun a ha b hb=> ?_⟩
   obtain⟨e,he,rfl⟩:=List.mem_map.mp ha
   rw[List.mem_singleton.mp hb]
   exact fun z=>hc (List.any_eq_true.mpr ⟨e,he,by simpa using z⟩)
  ·rcases List.mem_append.mp he with he | he
   ·exact⟨List.mem_append_left _ (h.ent e he).1,(h.ent e he).2⟩
   ·rw[List.mem_singleton.mp he]
    exact⟨List.mem_append_right _ List.mem_cons_self,rfl⟩
  ·rw[List.map_append]
   rcases List.mem_append.mp hp with hp | hp
   ·exact List.mem_append_left _ (h.cov p hp)
   ·rw[List.mem_singleton.mp hp]
    exact List.mem_append_right _ List.mem_cons_self
theorem StOk.few {key:α→Nat} {P:List α} {st:List (Nat×α)} (h:StOk key P st) (hN: ∀b∈st.map (·.1),b<2^5):(st.map (·.1)).length<64:=by
 have:=aDw h.nd (m:=List.range (2^5)) fun b hb=>List.mem_range.mpr (hN b hb)
 rw[List.length_range] at this
 omega
theorem StOk.get {key:α→Nat} {P:List α} {st:List (Nat×α)} (h:StOk key P st) {b:Nat} (hb:b∈st.map (·.1)): ∃p∈P,key p=b∧(st.find? fun e=>decide (e.1=b))=some (b,p):=by
 cases hf:st.find? fun e=>decide (e.1=b) with
 | none=>
  obtain⟨e,he,hb⟩:=List.mem_map.mp hb
  rw[List.find?_eq_none] at hf
  exact absurd (by simpa using hb) (hf e he)
 | some e=>
  have h1:=List.mem_of_find?_eq_some hf
  have h2:e.1=b:=by simpa using List.find?_some hf
  obtain⟨p1,p2⟩:=h.ent e h1
  exact⟨e.2,p1,p2.trans h2,by rw[←h2]⟩
theorem putK_st {i:Nat} {fk f:Rho→M D} {ρ:Rho} {g:α→D} {st:List (Nat×α)} {b:Nat} {v:α} (hi:ρ[i]? =some (some (.ow (.k (stD g st))))) (hk:fk ρ=ok (.int (b:Int))) (hf:f ρ=ok (g v)) (hg:(g v).imm=true) (hl:st.length<100000):
  sPutK i fk f ρ=some (.nx (ρ.set i (some (.ow (.k (stD g (puB st b v))))))):=by
 unfold sPutK
 simp only[hi,hf,hk,lft_ok,keyOf,stD_len,hg,hl,and_self,if_true,put_stD]
end
theorem tupsL_map (l:List (List Str)):tupsL (l.map tS)=some l:=by
 induction l with
 | nil=>rfl
 | cons x l ih=>
  rw[List.map_cons]
  show (match strL (x.map D.str),tupsL (l.map tS) with | some x,some l=>some (x::l) | _,_=>none)=_
  rw[strL_map,ih]
theorem srtLT_l {l:List (List Str)} (h1:l.length<64) (h2:2≤l.length→∀k∈l,k≠[]):srtLT (.lst (l.map tS))=ok (.lst ((srtT l).map tS)):=by
 show (match tupsL (l.map tS) with | some l=>if l.length<64∧(2≤l.length→∀k∈l,k≠[]) then ok (D.lst ((srtT l).map fun (x:List Str)=>D.tup (x.map D.str))) else none | none=>none)=_
 rw[tupsL_map]
 exact if_pos ⟨h1,h2⟩
theorem immL_tups (l:List (List Str)):immL (l.map tS)=true:=by
 induction l with
 | nil=>rfl
 | cons x l ih=>
  show ((tS x).imm&&immL (l.map tS))=true
  rw[aEd,ih];rfl
theorem srt_has {xs:List Str} {z:Str}:z∈srtS (aDp xs)↔z∈xs:=by
 rw[(srtS_perm _).mem_iff,←List.contains_iff_mem,metS_has,List.contains_iff_mem]
theorem met_small {ks xs:List Str} (h: ∀x∈xs,x∈ks):(aDp xs).length≤ks.length:=aDw (aCl xs) fun x hx=>h x (by rw[←List.contains_iff_mem,metS_has,List.contains_iff_mem] at hx;exact hx)
theorem toS_tM {xs:List Str} (h:xs.length≤2000):toS (tS xs)=ok (.set (aDp xs)):=by
 show (match strL (xs.map D.str) with | some xs=>if xs.length≤2000 then ok (D.set (aDp xs)) else none | none=>none)=_
 rw[strL_map]
 exact if_pos h
theorem least_few {m:Nat} {N L:List Nat} (hL:Least N L) (hN: ∀b∈N,b<2^m):L.length≤2^m:=by
 have:=aDw hL.nd (m:=List.range (2^m)) fun b hb=>List.mem_range.mpr (hN b (hL.sub b hb))
 rwa [List.length_range] at this
noncomputable def loB (Fb:List D→M D):Rho→Option Out:=(aAh (sPutK 2 (app Fb (aAc (look 3) (aAc (look 1) aAv))) (look 3))
  aAp)
noncomputable def denLO (Fb FL FN:List D→M D):Rho→Option Out:=
  (aAh (aC3 1 (app FN (aAc (look 0) aAv)))
  (aAh (sNewK 2)
  (aAh (aCb 0 (gN 3) (loB Fb))
  (aAh (aBy (f1 toT (f1 srtLT (cmp 1 (itE (app FL (aAc (f1 keysD (look 2)) aAv))) [4] h1 (fun _=>ok true) (f1 toT (f1 srtD (f1 toS (b2 gDix (look 2) (look 4)))))))))
  aAp))))
structure FnsOk (Fb FL FN:List D→M D):Prop where
 b: ∀ks xs:List Str,ks.length≤100000→(∀x∈xs,x∈ks)→Fb [tS xs,.dk (nmD ks)]=ok (.int (aA7 ks xs:Int))
 l: ∀ns:List Nat,ns.length<64→(∀x∈ns,x<2^1000)→∃L,Least ns L∧FL [.lst (nI ns)]=ok (.lst (nI L))
 n: ∀(d:D) (S:List (List Str)),itD d=ok (S.map tS)→S.flatten.length<100000→FN [d]=ok (.dk (nmD (nmsS S)))
section
variable {Fb FL FN:List D→M D}
theorem lo_loop (hF:FnsOk Fb FL FN) {ks:List Str} (hk:ks.length≤1000) {s0:Option SV}: ∀(S P:List (List Str)) (st:List (Nat×List Str)) (s3:Option SV),StOk (aA7 ks) P st→P.length+S.length<100000→(∀xs∈S,∀x∈xs,x∈ks)→
  ∃st' s3',StOk (aA7 ks) (P++S) st'∧loop (gN 3) (loB Fb) (S.map tS) [s0,some (.sh (.dk (nmD ks))),some (.ow (.k (stD tS st))),s3]=some (.nx [s0,some (.sh (.dk (nmD ks))),some (.ow (.k (stD tS st'))),s3']):=by
 intro S
 induction S with
 | nil=>intro P st s3 h _ _;exact⟨st,s3,by rw[List.append_nil];exact h,rfl⟩
 | cons xs S ih=>
  intro P st s3 h hl hx
  rw[List.length_cons] at hl
  have hlen:=h.len
  have hg:gN 3 (tS xs) [s0,some (.sh (.dk (nmD ks))),some (.ow (.k (stD tS st))),s3]=some [s0,some (.sh (.dk (nmD ks))),some (.ow (.k (stD tS st))),some (.sh (tS xs))]:=by
   show some (setV 3 (tS xs) _)=_
   rw[aEa (aEd xs)]
   rfl
  have hb:app Fb (aAc (look 3) (aAc (look 1) aAv)) [s0,some (.sh (.dk (nmD ks))),some (.ow (.k (stD tS st))),some (.sh (tS xs))]=ok (.int (aA7 ks xs:Int)):=
   (aB5 (aAj (d:=tS xs) rfl (aAj (d:= .dk (nmD ks)) rfl aA0))).trans (hF.b ks xs (by omega) (hx xs List.mem_cons_self))
  have e:loB Fb [s0,some (.sh (.dk (nmD ks))),some (.ow (.k (stD tS st))),some (.sh (tS xs))]=some (.nx [s0,some (.sh (.dk (nmD ks))),some (.ow (.k (stD tS (puB st (aA7 ks xs) xs)))),some (.sh (tS xs))]):=by
   unfold loB
   rw[aAf (putK_st (i:=2) (g:=tS) (v:=xs) rfl hb rfl (aEd xs) (by omega))]
   rfl
  obtain⟨st',s3',h1,h2⟩:=ih (P++ [xs]) _ (some (.sh (tS xs))) (h.put xs) (by rw[List.length_append];simp;omega) fun ys hy=>hx ys (List.mem_cons_of_mem _ hy)
  refine⟨st',s3',by rw[List.append_assoc] at h1;exact h1,?_⟩
  rw[List.map_cons]
  exact (aDe hg e).trans h2
theorem lo_sp (hF:FnsOk Fb FL FN) {d:D} {S:List (List Str)} (hd:itD d=ok (S.map tS)) (hl:S.length≤1000) (hf:S.flatten.length≤2000) (hk:(nmsS S).length≤5):
  ∃R,aCd (· ∈S) R∧R.length≤32∧R.length≤S.length∧aAz (denLO Fb FL FN [some (.sh d),none,none,none])=ok (.tup (R.map tS)):=by
 obtain⟨st,s3',h1,h2⟩:=lo_loop hF (ks:=nmsS S) (by omega) (s0:=some (.sh d)) S [] [] none ⟨by simp,by simp,by simp,by simp⟩ (by simp;omega) fun xs hx x hxx=>mem_nmsS hx hxx
 rw[List.nil_append] at h1
 have hlen:=h1.len
 have hN: ∀b∈st.map (·.1),b<2^5:=fun b hb=>by
  obtain⟨p,p1,p2,_⟩:=h1.get hb
  rw[←p2]
  exact Nat.lt_of_lt_of_le (bitsN_lt fun x hx=>mem_nmsS p1 hx) (Nat.pow_le_pow_right (by decide) hk)
 obtain⟨L,hL,eL⟩:=hF.l (st.map (·.1)) (h1.few hN) fun b hb=>Nat.lt_of_lt_of_le (hN b hb) (Nat.pow_le_pow_right (by decide) (by decide))
 have hLl:L.length≤32:=least_few hL hN
 let f:Nat→List Str:=fun b=>srtS (aDp (((st.find? fun e=>decide (e.1=b)).map (·.2)).getD []))
 have hsz: ∀xs∈S,xs.length≤2000:=fun xs hx=>by
  have: ∀(l:List (List Str)),xs∈l→xs.length≤l.flatten.length:=by
   intro l
   induction l with
   | nil=>intro h;cases h
   | cons y l ih=>
    intro h
    rw[List.flatten_cons,List.length_append]
    rcases List.mem_cons.mp h with rfl | h
    ·omega
    ·have:=ih h;omega
  have:=this S hx
  omega
 obtain⟨c1,c2,c3,c4⟩:=least_core (ks:=nmsS S) (f:=f) (P:=(· ∈S)) (fun b hb=>by
   obtain⟨p,p1,p2,p3⟩:=h1.get hb
   refine⟨p,p1,p2,?_,?_⟩
   ·exact srt_rise (aCl _)
   ·intro z
    show z∈srtS (aDp (((st.find? fun e=>decide (e.1=b)).map (·.2)).getD []))↔_
    rw[p3]
    exact srt_has) (fun xs hx=>h1.cov xs hx) (fun xs hx x hxx=>mem_nmsS hx hxx) hL
 have hLs:L.length≤st.length:=by have:=aDw hL.nd hL.sub;rwa [List.length_map] at this
 refine⟨srtT (L.map f),c1,by rw[(srtT_perm _).length_eq,List.length_map];exact hLl,by rw[(srtT_perm _).length_eq,List.length_map];omega,?_⟩
 unfold denLO
 have s1:aC3 1 (app FN (aAc (look 0) aAv)) [some (.sh d),none,none,none]=some (.nx [some (.sh d),some (.sh (.dk (nmD (nmsS S)))),none,none]):=by
  refine (sSet_any ((aB5 (aAj (f:=look 0) (d:=d) rfl aA0)).trans (hF.n d S hd (by omega))) rfl).trans rfl
 have s2:sNewK 2 [some (.sh d),some (.sh (.dk (nmD (nmsS S)))),none,none]=some (.nx [some (.sh d),some (.sh (.dk (nmD (nmsS S)))),some (.ow (.k (stD tS []))),none]):=rfl
 have s3:aCb 0 (gN 3) (loB Fb) [some (.sh d),some (.sh (.dk (nmD (nmsS S)))),some (.ow (.k (stD tS []))),none]=some (.nx [some (.sh d),some (.sh (.dk (nmD (nmsS S)))),some (.ow (.k (stD tS st))),s3']):=by
  unfold aCb
  show (match itD d with | some (.ok ds)=>loop (gN 3) (loB Fb) ds [some (.sh d),some (.sh (.dk (nmD (nmsS S)))),some (.ow (.k (stD tS []))),none] | _=>none)=_
  rw[hd]
  exact h2
 rw[aAf s1,aAf s2,aAf s3]
 have k1:f1 keysD (look 2) [some (.sh d),some (.sh (.dk (nmD (nmsS S)))),some (.ow (.k (stD tS st))),s3']=ok (.lst (nI (st.map (·.1)))):=f1_ok (d:= .dk (stD tS st)) rfl (stD_keys tS st)
 have k2:itE (app FL (aAc (f1 keysD (look 2)) aAv)) [some (.sh d),some (.sh (.dk (nmD (nmsS S)))),some (.ow (.k (stD tS st))),s3']=ok (nI L):=by
  unfold itE
  rw[(aB5 (aAj k1 aA0)).trans eL]
  rfl
 have k3:=aD4 (m:=1) (k:=4) (fe:=f1 toT (f1 srtD (f1 toS (b2 gDix (look 2) (look 4))))) (e:=fun (x:Nat)=>D.int (x:Int)) (g:=fun b=>tS (f b)) k2 (by omega) fun b hb=>by
  obtain⟨p,p1,p2,p3⟩:=h1.get (hL.sub b hb)
  refine⟨?_,aEd _⟩
  have g1:b2 gDix (look 2) (look 4) ((ext 1 (free [some (.sh d),some (.sh (.dk (nmD (nmsS S)))),some (.ow (.k (stD tS st))),s3'])).set 4 (some (.sh (.int (b:Int)))))=ok (tS p):=by
   show (match valD (stD tS st) (Sum.inl (b:Int)) with | some v=>ok v | none=>none)=_
   rw[val_stD,p3]
   rfl
  have ef:f b=srtS (aDp p):=by
   show srtS (aDp (((st.find? fun e=>decide (e.1=b)).map (·.2)).getD []))=_
   rw[p3]
   rfl
  rw[ef]
  exact f1_ok (f1_ok (f1_ok g1 (toS_tM (hsz p p1))) (srtD_set (aCl _) (by have:=met_small (ks:=nmsS S) (xs:=p) fun x hx=>mem_nmsS p1 hx;omega))) rfl
 have k4:L.map (fun b=>tS (f b))=(L.map f).map tS:=by rw[List.map_map];rfl
 rw[k4] at k3
 rw[aB2 (aCz (f1_ok (g:=toT) (f1_ok k3 (srtLT_l (by rw[List.length_map];omega) c3)) rfl))]
 rfl
noncomputable def denUn:Rho→Option Out:=
  (aAh (aBy (f1 toT (f1 srtD (b2 gSOr (f1 toS (b2 gIx (look 0) (con (.int 0)))) (f1 toS (b2 gIx (look 0) (con (.int 1))))))))
  aAp)
noncomputable abbrev prD (p:List Str×List Str):D:= .tup [tS p.1,tS p.2]
theorem imm_prD (p:List Str×List Str):(prD p).imm=true:=by
 show ((tS p.1).imm&&((tS p.2).imm&&true))=true
 rw[aEd,aEd];rfl
theorem un_sp {ks:List Str} (hk:ks.length≤5) {p:List Str×List Str} (h1:p.1.length≤2000) (h2:p.2.length≤2000) (h3: ∀x∈p.1++p.2,x∈ks):aAz (denUn [some (.sh (prD p))])=ok (tS (srtS (uniS (aDp p.1) (aDp p.2)))):=by
 have m1:=met_small (ks:=ks) (xs:=p.1) fun x hx=>h3 x (List.mem_append_left _ hx)
 have m2:=met_small (ks:=ks) (xs:=p.2) fun x hx=>h3 x (List.mem_append_right _ hx)
 have n:=aDz (aCl p.1) (aDp p.2)
 have l:=uni_le (aDp p.1) (aDp p.2)
 unfold denUn
 have e:b2 gSOr (f1 toS (b2 gIx (look 0) (con (.int 0)))) (f1 toS (b2 gIx (look 0) (con (.int 1)))) [some (.sh (prD p))]=ok (.set (uniS (aDp p.1) (aDp p.2))):=by
  refine aCy (f1_ok (d:=tS p.1) rfl (toS_tM h1)) (f1_ok (d:=tS p.2) rfl (toS_tM h2)) ?_
  exact if_pos ⟨aCl _,aCl _,by omega⟩
 rw[aB2 (aCz (f1_ok (g:=toT) (f1_ok e (srtD_set n (by omega))) rfl))]
 rfl
noncomputable def tiI:Rho→Option Out:=(aAh (sPutK 5 (b2 gBOr (look 7) (look 8)) (mkT (aAc (look 6) (aAc (look 9) aAv))))
  aAp)
noncomputable def tiO (Fb:List D→M D):Rho→Option Out:=(aAh (aC3 7 (app Fb (aAc (look 6) (aAc (look 3) aAv))))
  (aAh (aCb 4 (gN2 8 9) tiI)
  aAp))
noncomputable def denTi (Fb FL FN FU:List D→M D):Rho→Option Out:=
  (aAh (aC3 3 (app FN (aAc (b2 aC0 (look 1) (look 2)) aAv)))
  (aAh (aC3 4 (cmp 1 (itE (look 2)) [10] h1 (fun _=>ok true) (mkT (aAc (app Fb (aAc (look 10) (aAc (look 3) aAv))) (aAc (look 10) aAv)))))
  (aAh (sNewK 5)
  (aAh (aCb 1 (gN 6) (tiO Fb))
  (aAh (aBy (f1 toT (f1 srtLT (cmp 1 (itE (app FL (aAc (f1 keysD (look 5)) aAv))) [10] h1 (fun _=>ok true) (app FU (aAc (b2 gDix (look 5) (look 10)) aAv))))))
  aAp)))))
noncomputable abbrev keyP (ks:List Str) (p:List Str×List Str):Nat:=aA7 ks p.1 ||| aA7 ks p.2
noncomputable abbrev otD (ks:List Str) (y:List Str):D:= .tup [.int (aA7 ks y:Int),tS y]
theorem ti_inner {ks:List Str} {s0 s1 s2 s3 s4:Option SV} (x:List Str): ∀(b:List (List Str)) (P:List (List Str×List Str)) (st:List (Nat×(List Str×List Str))) (s8 s9:Option SV),StOk (keyP ks) P st→P.length+b.length<100000→
  ∃st' s8' s9',StOk (keyP ks) (P++b.map fun y=>(x,y)) st'∧loop (gN2 8 9) tiI (b.map (otD ks)) [s0,s1,s2,s3,s4,some (.ow (.k (stD prD st))),some (.sh (tS x)),some (.sh (.int (aA7 ks x:Int))),s8,s9]=some (.nx [s0,s1,s2,s3,s4,some (.ow (.k (stD prD st'))),some (.sh (tS x)),some (.sh (.int (aA7 ks x:Int))),s8',s9']):=by
 intro b
 induction b with
 | nil=>intro P st s8 s9 h _;exact⟨st,s8,s9,by rw[List.map_nil,List.append_nil];exact h,rfl⟩
 | cons y b ih=>
  intro P st s8 s9 h hl
  rw[List.length_cons] at hl
  have hlen:=h.len
  have hg:gN2 8 9 (otD ks y) [s0,s1,s2,s3,s4,some (.ow (.k (stD prD st))),some (.sh (tS x)),some (.sh (.int (aA7 ks x:Int))),s8,s9]=some [s0,s1,s2,s3,s4,some (.ow (.k (stD prD st))),some (.sh (tS x)),some (.sh (.int (aA7 ks x:Int))),some (.sh (.int (aA7 ks y:Int))),some (.sh (tS y))]:=by
   show some (setV 9 (tS y) (setV 8 (.int (aA7 ks y:Int)) _))=_
   rw[aEa (aEd y),aEa (d:= .int (aA7 ks y:Int)) rfl]
   rfl
  have hb:b2 gBOr (look 7) (look 8) [s0,s1,s2,s3,s4,some (.ow (.k (stD prD st))),some (.sh (tS x)),some (.sh (.int (aA7 ks x:Int))),some (.sh (.int (aA7 ks y:Int))),some (.sh (tS y))]=ok (.int (keyP ks (x,y):Int)):=by
   refine aCy (x:= .int (aA7 ks x:Int)) (y:= .int (aA7 ks y:Int)) rfl rfl ?_
   show ok (D.int (Builtin.bitOr (aA7 ks x:Int) (aA7 ks y:Int)))=_
   rw[bitOr_nat]
  have hv:mkT (aAc (look 6) (aAc (look 9) aAv)) [s0,s1,s2,s3,s4,some (.ow (.k (stD prD st))),some (.sh (tS x)),some (.sh (.int (aA7 ks x:Int))),some (.sh (.int (aA7 ks y:Int))),some (.sh (tS y))]=ok (prD (x,y)):=rfl
  have e:tiI [s0,s1,s2,s3,s4,some (.ow (.k (stD prD st))),some (.sh (tS x)),some (.sh (.int (aA7 ks x:Int))),some (.sh (.int (aA7 ks y:Int))),some (.sh (tS y))]=some (.nx [s0,s1,s2,s3,s4,some (.ow (.k (stD prD (puB st (keyP ks (x,y)) (x,y))))),some (.sh (tS x)),some (.sh (.int (aA7 ks x:Int))),some (.sh (.int (aA7 ks y:Int))),some (.sh (tS y))]):=by
   unfold tiI
   rw[aAf (putK_st (i:=5) (g:=prD) (v:=(x,y)) rfl hb hv (imm_prD _) (by omega))]
   rfl
  obtain⟨st',s8',s9',h1,h2⟩:=ih (P++ [(x,y)]) _ (some (.sh (.int (aA7 ks y:Int)))) (some (.sh (tS y))) (h.put (x,y)) (by rw[List.length_append];simp;omega)
  refine⟨st',s8',s9',by rw[List.append_assoc] at h1;exact h1,?_⟩
  rw[List.map_cons]
  exact (aDe hg e).trans h2
theorem ti_outer (hF:FnsOk Fb FL FN) {ks:List Str} (hk:ks.length≤1000) {s0 s1 s2:Option SV} {b:List (List Str)}: ∀(a:List (List Str)) (P:List (List Str×List Str)) (st:List (Nat×(List Str×List Str))) (s6 s7 s8 s9:Option SV),StOk (keyP ks) P st→P.length+a.length*b.length<100000→(∀x∈a,∀z∈x,z∈ks)→
  ∃st' s6' s7' s8' s9',StOk (keyP ks) (P++a.flatMap fun x=>b.map fun y=>(x,y)) st'∧loop (gN 6) (tiO Fb) (a.map tS) [s0,s1,s2,some (.sh (.dk (nmD ks))),some (.sh (.lst (b.map (otD ks)))),some (.ow (.k (stD prD st))),s6,s7,s8,s9]=some (.nx [s0,s1,s2,some (.sh (.dk (nmD ks))),some (.sh (.lst (b.map (otD ks)))),some (.ow (.k (stD prD st'))),s6',s7',s8',s9']):=by
 intro a
 induction a with
 | nil=>intro P st s6 s7 s8 s9 h _ _;exact⟨st,s6,s7,s8,s9,by rw[List.flatMap_nil,List.append_nil];exact h,rfl⟩
 | cons x a ih=>
  intro P st s6 s7 s8 s9 h hl hx
  rw[List.length_cons,Nat.add_mul,Nat.one_mul] at hl
  have hg:gN 6 (tS x) [s0,s1,s2,some (.sh (.dk (nmD ks))),some (.sh (.lst (b.map (otD ks)))),some (.ow (.k (stD prD st))),s6,s7,s8,s9]=some [s0,s1,s2,some (.sh (.dk (nmD ks))),some (.sh (.lst (b.map (otD ks)))),some (.ow (.k (stD prD st))),some (.sh (tS x)),s7,s8,s9]:=by
   show some (setV 6 (tS x) _)=_
   rw[aEa (aEd x)]
   rfl
  have hb:app Fb (aAc (look 6) (aAc (look 3) aAv)) [s0,s1,s2,some (.sh (.dk (nmD ks))),some (.sh (.lst (b.map (otD ks)))),some (.ow (.k (stD prD st))),some (.sh (tS x)),s7,s8,s9]=ok (.int (aA7 ks x:Int)):=
   (aB5 (aAj (d:=tS x) rfl (aAj (d:= .dk (nmD ks)) rfl aA0))).trans (hF.b ks x (by omega) (hx x List.mem_cons_self))
  obtain⟨st1,s8',s9',h1,h2⟩:=ti_inner (ks:=ks) (s0:=s0) (s1:=s1) (s2:=s2) (s3:=some (.sh (.dk (nmD ks)))) (s4:=some (.sh (.lst (b.map (otD ks))))) x b P st s8 s9 h (by omega)
  have e:tiO Fb [s0,s1,s2,some (.sh (.dk (nmD ks))),some (.sh (.lst (b.map (otD ks)))),some (.ow (.k (stD prD st))),some (.sh (tS x)),s7,s8,s9]=some (.nx [s0,s1,s2,some (.sh (.dk (nmD ks))),some (.sh (.lst (b.map (otD ks)))),some (.ow (.k (stD prD st1))),some (.sh (tS x)),some (.sh (.int (aA7 ks x:Int))),s8',s9']):=by
   unfold tiO
   rw[aAf (aBp hb rfl)]
   show aAh _ _ [s0,s1,s2,some (.sh (.dk (nmD ks))),some (.sh (.lst (b.map (otD ks)))),some (.ow (.k (stD prD st))),some (.sh (tS x)),some (.sh (.int (aA7 ks x:Int))),s8,s9]=_
   rw[aAf (show aCb 4 (gN2 8 9) tiI [s0,s1,s2,some (.sh (.dk (nmD ks))),some (.sh (.lst (b.map (otD ks)))),some (.ow (.k (stD prD st))),some (.sh (tS x)),some (.sh (.int (aA7 ks x:Int))),s8,s9]=_ from h2)]
   rfl
  obtain⟨st',s6',s7',s8'',s9'',h3,h4⟩:=ih _ st1 (some (.sh (tS x))) (some (.sh (.int (aA7 ks x:Int)))) s8' s9' h1 (by rw[List.length_append,List.length_map];omega) fun y hy=>hx y (List.mem_cons_of_mem _ hy)
  refine⟨st',s6',s7',s8'',s9'',by rw[List.append_assoc] at h3;exact h3,?_⟩
  rw[List.map_cons]
  exact (aDe hg e).trans h4
theorem ti_sp (hF:FnsOk Fb FL FN) {FU:List D→M D} (hU: ∀(ks:List Str) (p:List Str×List Str),ks.length≤5→p.1.length≤2000→p.2.length≤2000→(∀x∈p.1++p.2,x∈ks)→FU [prD p]=ok (tS (srtS (uniS (aDp p.1) (aDp p.2)))))
  {o:D} {a b:List (List Str)} (hl:a.length*b.length≤1000) (ha:a.length≤1000) (hb:b.length≤1000) (hf:(a++b).flatten.length≤2000) (hk:(nmsS (a++b)).length≤5):
  ∃R,aCd (fun xs=> ∃x∈a,∃y∈b,xs=x++y) R∧R.length≤32∧aAz (denTi Fb FL FN FU [some (.sh o),some (.sh (.tup (a.map tS))),some (.sh (.tup (b.map tS))),none,none,none,none,none,none,none])=ok (.tup (R.map tS)):=by
 have hka: ∀x∈a,∀z∈x,z∈nmsS (a++b):=fun x hx z hz=>mem_nmsS (List.mem_append_left _ hx) hz
 have hkb: ∀x∈b,∀z∈x,z∈nmsS (a++b):=fun x hx z hz=>mem_nmsS (List.mem_append_right _ hx) hz
 have hsz: ∀xs∈a++b,xs.length≤2000:=fun xs hx=>by
  have: ∀(l:List (List Str)),xs∈l→xs.length≤l.flatten.length:=by
   intro l
   induction l with
   | nil=>intro h;cases h
   | cons y l ih=>
    intro h
    rw[List.flatten_cons,List.length_append]
    rcases List.mem_cons.mp h with rfl | h
    ·omega
    ·have:=ih h;omega
  have:=this _ hx
  omega
 generalize hks:nmsS (a++b)=ks at hk hka hkb
 obtain⟨st,s6',s7',s8',s9',hSt,h2⟩:=ti_outer hF (ks:=ks) (by omega) (s0:=some (.sh o)) (s1:=some (.sh (.tup (a.map tS)))) (s2:=some (.sh (.tup (b.map tS)))) (b:=b) a [] [] none none none none ⟨by simp,by simp,by simp,by simp⟩ (by simp;omega) hka
 rw[List.nil_append] at hSt
 have hmP: ∀p,(p∈a.flatMap fun x=>b.map fun y=>(x,y))↔p.1∈a∧p.2∈b:=fun p=>by
  rw[List.mem_flatMap]
  constructor
  ·rintro⟨x,hx,h⟩
   obtain⟨y,hy,rfl⟩:=List.mem_map.mp h
   exact⟨hx,hy⟩
  ·rintro⟨hx,hy⟩
   exact⟨p.1,hx,List.mem_map.mpr ⟨p.2,hy,rfl⟩⟩
 have hlen:=hSt.len
 have hPl:(a.flatMap fun x=>b.map fun y=>(x,y)).length=a.length*b.length:=by
  clear hl ha hf hka hks hSt h2 hmP hlen hsz
  induction a with
  | nil=>simp
  | cons x a ih=>rw[List.flatMap_cons,List.length_append,ih,List.length_map,List.length_cons,Nat.add_mul];omega
 have hN: ∀b∈st.map (·.1),b<2^5:=fun u hu=>by
  obtain⟨p,p1,p2,_⟩:=hSt.get hu
  obtain⟨q1,q2⟩:=(hmP p).mp p1
  rw[←p2]
  show aA7 ks p.1 ||| aA7 ks p.2<2^5
  rw[←bits_app]
  exact Nat.lt_of_lt_of_le (bitsN_lt fun x hx=>(List.mem_append.mp hx).elim (hka _ q1 x) (hkb _ q2 x)) (Nat.pow_le_pow_right (by decide) hk)
 obtain⟨L,hL,eL⟩:=hF.l (st.map (·.1)) (hSt.few hN) fun b hb=>Nat.lt_of_lt_of_le (hN b hb) (Nat.pow_le_pow_right (by decide) (by decide))
 have hLl:L.length≤32:=least_few hL hN
 let pk:Nat→List Str×List Str:=fun u=>((st.find? fun e=>decide (e.1=u)).map (·.2)).getD ([],[])
 let f:Nat→List Str:=fun u=>srtS (uniS (aDp (pk u).1) (aDp (pk u).2))
 have hpk: ∀u p,(st.find? fun e=>decide (e.1=u))=some (u,p)→pk u=p:=fun u p h=>by
  show ((st.find? fun e=>decide (e.1=u)).map (·.2)).getD ([],[])=p
  rw[h]
  rfl
 obtain⟨c1,c2,c3,c4⟩:=least_core (ks:=ks) (f:=f) (P:=fun xs=> ∃x∈a,∃y∈b,xs=x++y) (fun u hu=>by
   obtain⟨p,p1,p2,p3⟩:=hSt.get hu
   obtain⟨q1,q2⟩:=(hmP p).mp p1
   refine⟨p.1++p.2,⟨p.1,q1,p.2,q2,rfl⟩,(bits_app _ _ _).trans p2,?_,?_⟩
   ·exact srt_rise (aDz (aCl _) _)
   ·intro z
    show z∈srtS (uniS (aDp (pk u).1) (aDp (pk u).2))↔_
    rw[hpk u p p3,(srtS_perm _).mem_iff,uni_mem,List.mem_append,←List.contains_iff_mem,metS_has,List.contains_iff_mem,←List.contains_iff_mem (as:=aDp p.2),metS_has,List.contains_iff_mem])
  (fun xs ⟨x,hx,y,hy,e⟩=>by
   rw[e,bits_app]
   exact hSt.cov (x,y) ((hmP _).mpr ⟨hx,hy⟩))
  (fun xs ⟨x,hx,y,hy,e⟩ z hz=>by
   rw[e] at hz
   exact (List.mem_append.mp hz).elim (hka x hx z) (hkb y hy z)) hL
 refine⟨srtT (L.map f),c1,by rw[(srtT_perm _).length_eq,List.length_map];exact hLl,?_⟩
 unfold denTi
 have g0:b2 aC0 (look 1) (look 2) [some (.sh o),some (.sh (.tup (a.map tS))),some (.sh (.tup (b.map tS))),none,none,none,none,none,none,none]=ok (.tup ((a++b).map tS)):=by
  refine aCy (x:= .tup (a.map tS)) (y:= .tup (b.map tS)) rfl rfl ?_
  show (if (a.map tS).length+(b.map tS).length≤100000 then ok (D.tup (a.map tS++b.map tS)) else none)=_
  rw[if_pos (by rw[List.length_map,List.length_map];omega),List.map_append]
 have s1:aC3 3 (app FN (aAc (b2 aC0 (look 1) (look 2)) aAv)) [some (.sh o),some (.sh (.tup (a.map tS))),some (.sh (.tup (b.map tS))),none,none,none,none,none,none,none]=some (.nx [some (.sh o),some (.sh (.tup (a.map tS))),some (.sh (.tup (b.map tS))),some (.sh (.dk (nmD ks))),none,none,none,none,none,none]):=by
  have:=(aB5 (F:=FN) (aAj g0 aA0)).trans (hF.n _ (a++b) rfl (by omega))
  rw[hks] at this
  exact (sSet_any this rfl).trans rfl
 have c0:=aD4 (m:=1) (k:=10) (it:=itE (look 2)) (fe:=mkT (aAc (app Fb (aAc (look 10) (aAc (look 3) aAv))) (aAc (look 10) aAv))) (ρ:=[some (.sh o),some (.sh (.tup (a.map tS))),some (.sh (.tup (b.map tS))),some (.sh (.dk (nmD ks))),none,none,none,none,none,none]) (l:=b) (e:=tS) (g:=otD ks) rfl hb fun y hy=>by
  refine⟨?_,?_⟩
  ·have:app Fb (aAc (look 10) (aAc (look 3) aAv)) ((ext 1 (free [some (.sh o),some (.sh (.tup (a.map tS))),some (.sh (.tup (b.map tS))),some (.sh (.dk (nmD ks))),none,none,none,none,none,none])).set 10 (some (.sh (tS y))))=ok (.int (aA7 ks y:Int)):=
    (aB5 (aAj (d:=tS y) rfl (aAj (d:= .dk (nmD ks)) rfl aA0))).trans (hF.b ks y (by omega) (hkb y hy))
   exact mkT_ok (aAj this (aAj (d:=tS y) rfl aA0))
  ·show ((D.int (aA7 ks y:Int)).imm&&((tS y).imm&&true))=true
   rw[aEd];rfl
 have s2:aC3 4 (cmp 1 (itE (look 2)) [10] h1 (fun _=>ok true) (mkT (aAc (app Fb (aAc (look 10) (aAc (look 3) aAv))) (aAc (look 10) aAv)))) [some (.sh o),some (.sh (.tup (a.map tS))),some (.sh (.tup (b.map tS))),some (.sh (.dk (nmD ks))),none,none,none,none,none,none]=some (.nx [some (.sh o),some (.sh (.tup (a.map tS))),some (.sh (.tup (b.map tS))),some (.sh (.dk (nmD ks))),some (.sh (.lst (b.map (otD ks)))),none,none,none,none,none]):=(sSet_any c0 rfl).trans rfl
 have s3:sNewK 5 [some (.sh o),some (.sh (.tup (a.map tS))),some (.sh (.tup (b.map tS))),some (.sh (.dk (nmD ks))),some (.sh (.lst (b.map (otD ks)))),none,none,none,none,none]=some (.nx [some (.sh o),some (.sh (.tup (a.map tS))),some (.sh (.tup (b.map tS))),some (.sh (.dk (nmD ks))),some (.sh (.lst (b.map (otD ks)))),some (.ow (.k (stD prD []))),none,none,none,none]):=rfl
 rw[aAf s1,aAf s2,aAf s3]
 rw[aAf (show aCb 1 (gN 6) (tiO Fb) [some (.sh o),some (.sh (.tup (a.map tS))),some (.sh (.tup (b.map tS))),some (.sh (.dk (nmD ks))),some (.sh (.lst (b.map (otD ks)))),some (.ow (.k (stD prD []))),none,none,none,none]=_ from h2)]
 generalize hρ:([some (.sh o),some (.sh (.tup (a.map tS))),some (.sh (.tup (b.map tS))),some (.sh (.dk (nmD ks))),some (.sh (.lst (b.map (otD ks)))),some (.ow (.k (stD prD st))),s6',s7',s8',s9']:Rho)=ρ
 have k1:f1 keysD (look 5) ρ=ok (.lst (nI (st.map (·.1)))):=by rw[←hρ];exact f1_ok (d:= .dk (stD prD st)) rfl (stD_keys prD st)
 have k2:itE (app FL (aAc (f1 keysD (look 5)) aAv)) ρ=ok (nI L):=by
  unfold itE
  rw[(aB5 (aAj k1 aA0)).trans eL]
  rfl
 have k3:=aD4 (m:=1) (k:=10) (fe:=app FU (aAc (b2 gDix (look 5) (look 10)) aAv)) (e:=fun (x:Nat)=>D.int (x:Int)) (g:=fun u=>tS (f u)) k2 (by omega) fun u hu=>by
  obtain⟨p,p1,p2,p3⟩:=hSt.get (hL.sub u hu)
  obtain⟨q1,q2⟩:=(hmP p).mp p1
  refine⟨?_,aEd _⟩
  have g1:b2 gDix (look 5) (look 10) ((ext 1 (free ρ)).set 10 (some (.sh (.int (u:Int)))))=ok (prD p):=by
   rw[←hρ]
   show (match valD (stD prD st) (Sum.inl (u:Int)) with | some v=>ok v | none=>none)=_
   rw[val_stD,p3]
   rfl
  show _=ok (tS (srtS (uniS (aDp (pk u).1) (aDp (pk u).2))))
  rw[hpk u p p3]
  exact (aB5 (aAj g1 aA0)).trans (hU ks p hk (hsz _ (List.mem_append_left _ q1)) (hsz _ (List.mem_append_right _ q2)) fun z hz=>(List.mem_append.mp hz).elim (hka _ q1 z) (hkb _ q2 z))
 have k4:L.map (fun b=>tS (f b))=(L.map f).map tS:=by rw[List.map_map];rfl
 rw[k4] at k3
 rw[aB2 (aCz (f1_ok (g:=toT) (f1_ok k3 (srtLT_l (by rw[List.length_map];omega) c3)) rfl))]
 rfl
end
end L2.PU
namespace K12
open PySem PySem.Spec PyProof.Rows L2 L2.PU
noncomputable abbrev St:=L2.St
noncomputable def top (i:Nat):Stmt:=PySem.Challenge.pw_whence_k12_least_reasons.main.body.getD i (.Pass ⟨0,0,0,0⟩)
noncomputable abbrev s_is_texts:Stmt:=top 1
noncomputable abbrev aBj:Stmt:=inClass (top 3) 0
noncomputable abbrev aCe:Stmt:=inClass (top 3) 1
noncomputable abbrev aB7:Stmt:=inClass (top 3) 2
noncomputable abbrev aBr:Stmt:=inClass (top 3) 3
noncomputable abbrev s_union_of:Stmt:=top 4
noncomputable abbrev s_least_of:Stmt:=top 5
noncomputable abbrev aC9:Stmt:=top 6
noncomputable abbrev s_bits_of:Stmt:=top 7
noncomputable abbrev aDa:Stmt:=top 8
noncomputable abbrev aDd:Stmt:=top 9
noncomputable abbrev s_law_at:Stmt:=top 11
noncomputable abbrev s_law_same:Stmt:=top 12
noncomputable abbrev s_law_mix:Stmt:=top 13
noncomputable abbrev s_law_name:Stmt:=top 14
noncomputable abbrev s_law_hits:Stmt:=top 15
noncomputable abbrev aDb:Stmt:=top 16
noncomputable abbrev aDc:Stmt:=top 17
noncomputable abbrev aD0:Stmt:=top 18
noncomputable abbrev s_law:Stmt:=top 19
set_option genInjectivity false in
structure Adr where
 aAm:Addr
 f_is_texts:Addr
 aBl:Addr
 aCg:Addr
 aB8:Addr
 aBs:Addr
 f_union_of:Addr
 f_least_of:Addr
 aDf:Addr
 f_bits_of:Addr
 aDg:Addr
 aDj:Addr
 f_law_at:Addr
 f_law_same:Addr
 f_law_mix:Addr
 f_law_name:Addr
 f_law_hits:Addr
 aDh:Addr
 aDi:Addr
 aD2:Addr
 f_law:Addr
noncomputable def cs (t:Adr) (C:Addr):Bool:=decide (C=t.aAm)
structure Txt (K:PySem.W.Frag) (mg:Str→Option Value) (t:Adr):Prop where
 g_Reasons:mg "Reasons"=some (.ref t.aAm)
 cl_Reasons:Cls K t.aAm
 mk_Reasons:Mk K t.aAm t.aBl
 me_Reasons_plus:Meth K t.aAm "plus" t.aCg
 me_Reasons_times:Meth K t.aAm "times" t.aB8
 aEc:Meth K t.aAm "is_mark" t.aBs
 nf_nought: ∀C,cs t C=true→Cls K C∧NoAttr K C "nought"
 nf_one: ∀C,cs t C=true→Cls K C∧NoAttr K C "one"
 aB1: ∃fd,Fun K "is_texts" "is_texts" s_is_texts t.f_is_texts fd∧Binds K fd ["thing"] []
 g_is_texts:mg "is_texts"=some (.ref t.f_is_texts)
 F_Reasons___init__: ∃fd,Fun K "__init__" "Reasons.__init__" aBj t.aBl fd∧Binds K fd ["self"] []
 F_Reasons_plus: ∃fd,Fun K "plus" "Reasons.plus" aCe t.aCg fd∧Binds K fd ["self","a","b"] []
 F_Reasons_times: ∃fd,Fun K "times" "Reasons.times" aB7 t.aB8 fd∧Binds K fd ["self","a","b"] []
 F_Reasons_is_mark: ∃fd,Fun K "is_mark" "Reasons.is_mark" aBr t.aBs fd∧Binds K fd ["self","thing"] []
 aBz: ∃fd,Fun K "union_of" "union_of" s_union_of t.f_union_of fd∧Binds K fd ["pair"] []
 g_union_of:mg "union_of"=some (.ref t.f_union_of)
 aAo: ∃fd,Fun K "least_of" "least_of" s_least_of t.f_least_of fd∧Binds K fd ["some"] []
 g_least_of:mg "least_of"=some (.ref t.f_least_of)
 aAr: ∃fd,Fun K "numbers_of" "numbers_of" aC9 t.aDf fd∧Binds K fd ["some"] []
 g_numbers_of:mg "numbers_of"=some (.ref t.aDf)
 aA3: ∃fd,Fun K "bits_of" "bits_of" s_bits_of t.f_bits_of fd∧Binds K fd ["names","numbers"] []
 g_bits_of:mg "bits_of"=some (.ref t.f_bits_of)
 aAs: ∃fd,Fun K "least_bits" "least_bits" aDa t.aDg fd∧Binds K fd ["sets"] []
 g_least_bits:mg "least_bits"=some (.ref t.aDg)
 aBf: ∃fd,Fun K "has_within" "has_within" aDd t.aDj fd∧Binds K fd ["kept","one"] []
 g_has_within:mg "has_within"=some (.ref t.aDj)
 aC8: ∃fd,Fun K "_law_at" "_law_at" s_law_at t.f_law_at fd∧Binds K fd ["_law_script","_law_k"] []
 g_law_at:mg "_law_at"=some (.ref t.f_law_at)
 aAw: ∃fd,Fun K "_law_same" "_law_same" s_law_same t.f_law_same fd∧Binds K fd ["_law_found","_law_due"] []
 g_law_same:mg "_law_same"=some (.ref t.f_law_same)
 aCi: ∃fd,Fun K "_law_mix" "_law_mix" s_law_mix t.f_law_mix fd∧Binds K fd ["_law_cell"] []
 g_law_mix:mg "_law_mix"=some (.ref t.f_law_mix)
 aB0: ∃fd,Fun K "_law_name" "_law_name" s_law_name t.f_law_name fd∧Binds K fd ["_law_style","_law_k"] []
 g_law_name:mg "_law_name"=some (.ref t.f_law_name)
 aA5: ∃fd,Fun K "_law_hits" "_law_hits" s_law_hits t.f_law_hits fd∧Binds K fd ["_law_sets","_law_mask","_law_names"] []
 g_law_hits:mg "_law_hits"=some (.ref t.f_law_hits)
 aA6: ∃fd,Fun K "_law_rising" "_law_rising" aDb t.aDh fd∧Binds K fd ["_law_row"] []
 g_law_rising:mg "_law_rising"=some (.ref t.aDh)
 aBe: ∃fd,Fun K "_law_formed" "_law_formed" aDc t.aDi fd∧Binds K fd ["_law_found"] []
 g_law_formed:mg "_law_formed"=some (.ref t.aDi)
 aBn: ∃fd,Fun K "_law_tuple" "_law_tuple" aD0 t.aD2 fd∧Binds K fd ["_law_cell","_law_names"] []
 g_law_tuple:mg "_law_tuple"=some (.ref t.aD2)
 F_law: ∃fd,Fun K "law" "law" s_law t.f_law fd∧Binds K fd ["_law_script"] []
 g_law:mg "law"=some (.ref t.f_law)
 b_all:mg "all"=none
 b_any:mg "any"=none
 b_bool:mg "bool"=none
 b_int:mg "int"=none
 aAq:mg "isinstance"=none
 b_len:mg "len"=none
 b_list:mg "list"=none
 b_min:mg "min"=none
 b_range:mg "range"=none
 b_set:mg "set"=none
 b_sorted:mg "sorted"=none
 b_str:mg "str"=none
 aC2:mg "tuple"=none
section
variable {P:Program} {w:World} {K:PySem.W.Frag} {mg:Str→Option Value} {base:Heap} {t:Adr}
noncomputable def N_is_texts:List Str:=["thing"]
noncomputable def Nc_is_texts_0:List Str:=["?0","part"]
theorem nd_is_texts_0:Nc_is_texts_0.Nodup:=by decide+kernel
theorem sc_is_texts:aBb N_is_texts ["thing"] (aAe s_is_texts):=⟨rfl,rfl,rfl,by decide+kernel,rfl,by decide+kernel,by decide+kernel⟩
noncomputable def aEg (t:Adr):Rho→Option Out:=
  (aAh (aBy (andV (isi "tuple" (look 0)) (f1 allD (cmp 1 (itE (look 0)) [1] h1 (fun _=>ok true) (isi "str" (look 1))))))
  aAp)
theorem tm_is_texts (T:Txt K mg t) {k:Nat} {cdv:Value} {A:Around} {outer:List Env} {s:Shared} {H:Hp} {E:XK} (hr:aCw k (A.deeper (envOfC "is_texts" (aAe s_is_texts) s.heap.objs.size t.f_is_texts cdv))) (B:Hp):
  PDB (cxN P w K mg base N_is_texts "is_texts" (aAe s_is_texts) t.f_is_texts cdv A outer s H E) B (aA2 s_is_texts) (aEg t):=
 by
 refine aAa ?_ ?_;(refine aAt ?_;(refine pd_and ?_ ?_;(refine aDr (T:="tuple") rfl T.aAq rfl T.aC2 (by decide+kernel) (by decide) ?_;(exact aAb 0));(refine pd_one ?_;(refine pd_all rfl rfl T.b_all ?_;(refine aDv (N':=Nc_is_texts_0) (m:=1) (ks:=[1]) rfl rfl rfl rfl (by repeat (first | exact lk_nil | refine aD1 rfl (by first | exact Or.inl rfl | exact Or.inr rfl) ?_)) rfl rfl rfl rfl rfl ?_ (fun C s₀ H₀ ex=> ?_) (fun C s₀ H₀ ex B=> ?_) (fun C s₀ H₀ ex B=> ?_);(refine pit_D ?_;(exact aAb 0));(exact pdn_1 nd_is_texts_0 rfl (Or.inl rfl));(exact aCs);(refine aDr (T:="str") rfl T.aAq rfl T.b_str (by decide+kernel) (by decide) ?_;(exact aAb 1)))))));(exact aAg)
theorem ok_is_texts (T:Txt K mg t) {k:Nat} {F:List D→M D} (hL: ∀ds r,F ds=some r→ds.length=1) (hq: ∀ds r,F ds=some r→∃d,r= .ok d∧aAz (aEg t (aCo N_is_texts ds))=ok d):Def P w K mg base (k+1) "is_texts" F:=by
 obtain⟨fd,Fu,bi⟩:=T.aB1
 exact⟨_,_,_,T.g_is_texts,Fu.kp,bi,hL,fn_D Fu sc_is_texts hL fun cdv A outer s H E hr=>⟨_,fun B=>tm_is_texts T hr B,hq⟩⟩
noncomputable def aBm:List Str:=["self"]
theorem sc_Reasons___init__:aBb aBm ["self"] (aAe aBj):=⟨rfl,rfl,rfl,by decide+kernel,rfl,by decide+kernel,by decide+kernel⟩
noncomputable def aBq (t:Adr):Rho→Option Out:=
  (aAh (sFldI (cs t) 0 "nought" (mkT aAv))
  (aAh (sFldI (cs t) 0 "one" (mkT (aAc (mkT aAv) aAv)))
  aAp))
theorem tm_Reasons___init__ (T:Txt K mg t) {k:Nat} {cdv:Value} {A:Around} {outer:List Env} {s:Shared} {H:Hp} {E:XK} (hr:aCw k (A.deeper (envOfC "Reasons.__init__" (aAe aBj) s.heap.objs.size t.aBl cdv))) (B:Hp):
  PDB (cxN P w K mg base aBm "Reasons.__init__" (aAe aBj) t.aBl cdv A outer s H E) B (aA2 aBj) (aBq t):=
 by
 refine aAa ?_ ?_;(refine pds_fldI (f:="nought") (i:=0) (T.nf_nought) rfl (Or.inl rfl) ?_;(refine pd_tup ?_;(exact aAl)));(refine aAa ?_ ?_;(refine pds_fldI (f:="one") (i:=0) (T.nf_one) rfl (Or.inl rfl) ?_;(refine pd_tup ?_;(refine aAd ?_ ?_;(refine pd_tup ?_;(exact aAl));(exact aAl))));(exact aAg))
theorem ok_Reasons___init__ (T:Txt K mg t) {k:Nat} {F:List D→M (List (Str×D))} (hL: ∀ds r,F ds=some r→ds.length+1=1) (hq: ∀ds r a dx,F ds=some r→∃fs,r= .ok fs∧iniRes a t.aAm dx (aBq t (rhoI aBm a t.aAm dx ds))=ok fs):Ctor P w K mg base (k+1) "Reasons" t.aAm F:=by
 obtain⟨fd,Fu,bi⟩:=T.F_Reasons___init__
 exact⟨_,_,_,T.g_Reasons,T.mk_Reasons,bi,hL,init_D Fu sc_Reasons___init__ hL fun cdv A outer s H E hr=>⟨_,fun B=>tm_Reasons___init__ T hr B,hq⟩⟩
noncomputable def aCh:List Str:=["self","a","b"]
theorem sc_Reasons_plus:aBb aCh ["self","a","b"] (aAe aCe):=⟨rfl,rfl,rfl,by decide+kernel,rfl,by decide+kernel,by decide+kernel⟩
noncomputable def aCj (t:Adr) (aAo:List D→M D):Rho→Option Out:=
  (aAh (aBy (app aAo (aAc (f1 toL (b2 aC0 (look 1) (look 2))) aAv)))
  aAp)
theorem tm_Reasons_plus (T:Txt K mg t) {k:Nat} {aAo:List D→M D} (aBi:Def P w K mg base k "least_of" aAo) {cdv:Value} {A:Around} {outer:List Env} {s:Shared} {H:Hp} {E:XK} (hr:aCw k (A.deeper (envOfC "Reasons.plus" (aAe aCe) s.heap.objs.size t.aCg cdv))) (B:Hp):
  PDB (cxN P w K mg base aCh "Reasons.plus" (aAe aCe) t.aCg cdv A outer s H E) B (aA2 aCe) (aCj t aAo):=
 by
 refine aAa ?_ ?_;(refine aAt ?_;(refine aA1 aBi hr rfl ?_;(refine aAd ?_ ?_;(refine pd_list rfl T.b_list ?_;(refine pd_plus ?_ ?_;(exact aAb 1);(exact aAb 2)));(exact aAl))));(exact aAg)
theorem ok_Reasons_plus (T:Txt K mg t) {k:Nat} {aAo:List D→M D} (aBi:Def P w K mg base k "least_of" aAo) {F:List D→M D} (hL: ∀ds r,F ds=some r→ds.length=3) (hq: ∀ds r,F ds=some r→∃d,r= .ok d∧aAz (aCj t aAo (aCo aCh ds))=ok d):Mth P w K mg base (k+1) t.aAm "plus" F:=by
 obtain⟨fd,Fu,bi⟩:=T.F_Reasons_plus
 exact⟨_,_,_,T.cl_Reasons,T.me_Reasons_plus,bi,hL,fn_D Fu sc_Reasons_plus hL fun cdv A outer s H E hr=>⟨_,fun B=>tm_Reasons_plus T aBi hr B,hq⟩⟩
noncomputable def aCv:List Str:=["self","a","b","numbers","others","unions","reason","here","there","other"]
noncomputable def Nc_Reasons_times_0:List Str:=["?0","?1","?2","?3","?4","unions","?6","?7","?8","?9","union"]
theorem nd_Reasons_times_0:Nc_Reasons_times_0.Nodup:=by decide+kernel
noncomputable def Nc_Reasons_times_1:List Str:=["?0","?1","?2","numbers","?4","?5","?6","?7","?8","?9","reason"]
theorem nd_Reasons_times_1:Nc_Reasons_times_1.Nodup:=by decide+kernel
theorem aA9:aBb aCv ["self","a","b"] (aAe aB7):=⟨rfl,rfl,rfl,by decide+kernel,rfl,by decide+kernel,by decide+kernel⟩
noncomputable def aC1 (t:Adr) (aA3:List D→M D) (aAs:List D→M D) (aAr:List D→M D) (aBz:List D→M D):Rho→Option Out:=
  (aAh (aC3 3 (app aAr (aAc (b2 aC0 (look 1) (look 2)) aAv)))
  (aAh (aC3 4 (cmp 1 (itE (look 2)) [10] h1 (fun _=>ok true) (mkT (aAc (app aA3 (aAc (look 10) (aAc (look 3) aAv))) (aAc (look 10) aAv)))))
  (aAh (sNewK 5)
  (aAh (aCb 1 (gN 6) (aAh (aC3 7 (app aA3 (aAc (look 6) (aAc (look 3) aAv))))
  (aAh (aCb 4 (gN2 8 9) (aAh (sPutK 5 (b2 gBOr (look 7) (look 8)) (mkT (aAc (look 6) (aAc (look 9) aAv))))
  aAp))
  aAp)))
  (aAh (aBy (f1 toT (f1 srtLT (cmp 1 (itE (app aAs (aAc (f1 keysD (look 5)) aAv))) [10] h1 (fun _=>ok true) (app aBz (aAc (b2 gDix (look 5) (look 10)) aAv))))))
  aAp)))))
theorem tm_Reasons_times (T:Txt K mg t) {k:Nat} {aA3:List D→M D} (aDn:Def P w K mg base k "bits_of" aA3) {aAs:List D→M D} (aCa:Def P w K mg base k "least_bits" aAs) {aAr:List D→M D} (aB9:Def P w K mg base k "numbers_of" aAr) {aBz:List D→M D} (G_union_of:Def P w K mg base k "union_of" aBz) {cdv:Value} {A:Around} {outer:List Env} {s:Shared} {H:Hp} {E:XK} (hr:aCw k (A.deeper (envOfC "Reasons.times" (aAe aB7) s.heap.objs.size t.aB8 cdv))) (B:Hp):
  PDB (cxN P w K mg base aCv "Reasons.times" (aAe aB7) t.aB8 cdv A outer s H E) B (aA2 aB7) (aC1 t aA3 aAs aAr aBz):=
 by
 refine aAa ?_ ?_;(refine aBg (i:=3) (aA9).nd rfl (Or.inr rfl) ?_;(refine aA1 aB9 hr rfl ?_;(refine aAd ?_ ?_;(refine pd_plus ?_ ?_;(exact aAb 1);(exact aAb 2));(exact aAl))));(refine aAa ?_ ?_;(refine pds_comp1 (i:=4) (aA9).nd rfl (Or.inl rfl) (N':=Nc_Reasons_times_1) (m:=1) (ks:=[10]) rfl rfl rfl rfl (by repeat (first | exact lk_nil | refine aD1 rfl (by first | exact Or.inl rfl | exact Or.inr rfl) ?_)) rfl rfl rfl rfl rfl ?_ (fun C s₀ H₀ ex=> ?_) (fun C s₀ H₀ ex B=> ?_) (fun C s₀ H₀ ex B=> ?_);(refine pit_D ?_;(exact aAb 2));(exact pdn_1 nd_Reasons_times_1 rfl (Or.inl rfl));(exact aCs);(refine pd_tup ?_;(refine aAd ?_ ?_;(refine aA1 aDn hr rfl ?_;(refine aAd ?_ ?_;(exact aAb 10);(refine aAd ?_ ?_;(exact aAb 3);(exact aAl))));(refine aAd ?_ ?_;(exact aAb 10);(exact aAl)))));(refine aAa ?_ ?_;(exact pds_newK (i:=5) (aA9).nd rfl (Or.inr rfl));(refine aAa ?_ ?_;(refine aC5 1 rfl (Or.inl rfl) PassesOwn.never rfl (fun B=> ?_) (fun B=> ?_);(exact aBk (i:=6) (aA9).nd rfl (Or.inl rfl));(refine aAa ?_ ?_;(refine aBg (i:=7) (aA9).nd rfl (Or.inl rfl) ?_;(refine aA1 aDn hr rfl ?_;(refine aAd ?_ ?_;(exact aAb 6);(refine aAd ?_ ?_;(exact aAb 3);(exact aAl)))));(refine aAa ?_ ?_;(refine aC5 4 rfl (Or.inl rfl) PassesOwn.never rfl (fun B=> ?_) (fun B=> ?_);(exact pdg_tup2 (i:=8) (j:=9) rfl (aA9).nd rfl (Or.inl rfl) rfl (Or.inl rfl));(refine aAa ?_ ?_;(refine pds_putK hr 5 ?_ ?_;(refine pd_bor ?_ ?_;(exact aAb 7);(exact aAb 8));(refine pd_tup ?_;(refine aAd ?_ ?_;(exact aAb 6);(refine aAd ?_ ?_;(exact aAb 9);(exact aAl)))));(exact aAg)));(exact aAg))));(refine aAa ?_ ?_;(refine aAt ?_;(refine pd_tuple rfl T.aC2 ?_;(refine pd_sortedLT rfl rfl T.b_sorted ?_;(refine aDv (N':=Nc_Reasons_times_0) (m:=1) (ks:=[10]) rfl rfl rfl rfl (by repeat (first | exact lk_nil | refine aD1 rfl (by first | exact Or.inl rfl | exact Or.inr rfl) ?_)) rfl rfl rfl rfl rfl ?_ (fun C s₀ H₀ ex=> ?_) (fun C s₀ H₀ ex B=> ?_) (fun C s₀ H₀ ex B=> ?_);(refine pit_D ?_;(refine aA1 aCa hr rfl ?_;(refine aAd ?_ ?_;(refine pd_listK (by rfl) rfl T.b_list ?_;(exact aAb 5));(exact aAl))));(exact pdn_1 nd_Reasons_times_0 rfl (Or.inl rfl));(exact aCs);(refine aA1 G_union_of hr rfl ?_;(refine aAd ?_ ?_;(refine pd_dix hr ?_ ?_;(exact aAb 5);(exact aAb 10));(exact aAl)))))));(exact aAg)))))
theorem ok_Reasons_times (T:Txt K mg t) {k:Nat} {aA3:List D→M D} (aDn:Def P w K mg base k "bits_of" aA3) {aAs:List D→M D} (aCa:Def P w K mg base k "least_bits" aAs) {aAr:List D→M D} (aB9:Def P w K mg base k "numbers_of" aAr) {aBz:List D→M D} (G_union_of:Def P w K mg base k "union_of" aBz) {F:List D→M D} (hL: ∀ds r,F ds=some r→ds.length=3) (hq: ∀ds r,F ds=some r→∃d,r= .ok d∧aAz (aC1 t aA3 aAs aAr aBz (aCo aCv ds))=ok d):Mth P w K mg base (k+1) t.aAm "times" F:=by
 obtain⟨fd,Fu,bi⟩:=T.F_Reasons_times
 exact⟨_,_,_,T.cl_Reasons,T.me_Reasons_times,bi,hL,fn_D Fu aA9 hL fun cdv A outer s H E hr=>⟨_,fun B=>tm_Reasons_times T aDn aCa aB9 G_union_of hr B,hq⟩⟩
noncomputable def aBt:List Str:=["self","thing"]
noncomputable def aDs:List Str:=["?0","?1","part"]
theorem nd_Reasons_is_mark_0:aDs.Nodup:=by decide+kernel
theorem sc_Reasons_is_mark:aBb aBt ["self","thing"] (aAe aBr):=⟨rfl,rfl,rfl,by decide+kernel,rfl,by decide+kernel,by decide+kernel⟩
noncomputable def aBv (t:Adr) (aB1:List D→M D) (aAo:List D→M D):Rho→Option Out:=
  (aAh (sIf (orB (notB (test (isi "tuple" (look 1)))) (notB (test (f1 allD (cmp 1 (itE (look 1)) [2] h1 (fun _=>ok true) (app aB1 (aAc (look 2) aAv))))))) (aAh (aBy (con (.bl false)))
  aAp) aAp)
  (aAh (aBy (b2 gEqTT (app aAo (aAc (f1 toL (look 1)) aAv)) (look 1)))
  aAp))
theorem tm_Reasons_is_mark (T:Txt K mg t) {k:Nat} {aB1:List D→M D} (G_is_texts:Def P w K mg base k "is_texts" aB1) {aAo:List D→M D} (aBi:Def P w K mg base k "least_of" aAo) {cdv:Value} {A:Around} {outer:List Env} {s:Shared} {H:Hp} {E:XK} (hr:aCw k (A.deeper (envOfC "Reasons.is_mark" (aAe aBr) s.heap.objs.size t.aBs cdv))) (B:Hp):
  PDB (cxN P w K mg base aBt "Reasons.is_mark" (aAe aBr) t.aBs cdv A outer s H E) B (aA2 aBr) (aBv t aB1 aAo):=
 by
 refine aAa ?_ ?_;(refine aCt ?_ ?_ ?_;(refine PDW.pdt ?_;(refine pdw_or ?_ ?_;(refine pdt_not ?_;(refine aDo ?_;(refine aDr (T:="tuple") rfl T.aAq rfl T.aC2 (by decide+kernel) (by decide) ?_;(exact aAb 1))));(refine pdw_or1 ?_;(refine pdt_not ?_;(refine aDo ?_;(refine pd_all rfl rfl T.b_all ?_;(refine aDv (N':=aDs) (m:=1) (ks:=[2]) rfl rfl rfl rfl (by repeat (first | exact lk_nil | refine aD1 rfl (by first | exact Or.inl rfl | exact Or.inr rfl) ?_)) rfl rfl rfl rfl rfl ?_ (fun C s₀ H₀ ex=> ?_) (fun C s₀ H₀ ex B=> ?_) (fun C s₀ H₀ ex B=> ?_);(refine pit_D ?_;(exact aAb 1));(exact pdn_1 nd_Reasons_is_mark_0 rfl (Or.inl rfl));(exact aCs);(refine aA1 G_is_texts hr rfl ?_;(refine aAd ?_ ?_;(exact aAb 2);(exact aAl))))))))));(refine aAa ?_ ?_;(refine aAt ?_;(exact pd_bl));(exact aAg));(exact aAg));(refine aAa ?_ ?_;(refine aAt ?_;(refine pd_eqTT hr ?_ ?_;(refine aA1 aBi hr rfl ?_;(refine aAd ?_ ?_;(refine pd_list rfl T.b_list ?_;(exact aAb 1));(exact aAl)));(exact aAb 1)));(exact aAg))
theorem ok_Reasons_is_mark (T:Txt K mg t) {k:Nat} {aB1:List D→M D} (G_is_texts:Def P w K mg base k "is_texts" aB1) {aAo:List D→M D} (aBi:Def P w K mg base k "least_of" aAo) {F:List D→M D} (hL: ∀ds r,F ds=some r→ds.length=2) (hq: ∀ds r,F ds=some r→∃d,r= .ok d∧aAz (aBv t aB1 aAo (aCo aBt ds))=ok d):Mth P w K mg base (k+1) t.aAm "is_mark" F:=by
 obtain⟨fd,Fu,bi⟩:=T.F_Reasons_is_mark
 exact⟨_,_,_,T.cl_Reasons,T.aEc,bi,hL,fn_D Fu sc_Reasons_is_mark hL fun cdv A outer s H E hr=>⟨_,fun B=>tm_Reasons_is_mark T G_is_texts aBi hr B,hq⟩⟩
noncomputable def N_union_of:List Str:=["pair"]
theorem sc_union_of:aBb N_union_of ["pair"] (aAe s_union_of):=⟨rfl,rfl,rfl,by decide+kernel,rfl,by decide+kernel,by decide+kernel⟩
noncomputable def den_union_of (t:Adr):Rho→Option Out:=
  (aAh (aBy (f1 toT (f1 srtD (b2 gSOr (f1 toS (b2 gIx (look 0) (con (.int 0)))) (f1 toS (b2 gIx (look 0) (con (.int 1))))))))
  aAp)
theorem tm_union_of (T:Txt K mg t) {k:Nat} {cdv:Value} {A:Around} {outer:List Env} {s:Shared} {H:Hp} {E:XK} (hr:aCw k (A.deeper (envOfC "union_of" (aAe s_union_of) s.heap.objs.size t.f_union_of cdv))) (B:Hp):
  PDB (cxN P w K mg base N_union_of "union_of" (aAe s_union_of) t.f_union_of cdv A outer s H E) B (aA2 s_union_of) (den_union_of t):=
 by
 refine aAa ?_ ?_;(refine aAt ?_;(refine pd_tuple rfl T.aC2 ?_;(refine pd_sorted rfl rfl T.b_sorted ?_;(refine pd_sor ?_ ?_;(refine pd_set rfl rfl T.b_set ?_;(refine pd_ix ?_ ?_ (fun _ _=>rfl);(exact aAb 0);(exact aAu)));(refine pd_set rfl rfl T.b_set ?_;(refine pd_ix ?_ ?_ (fun _ _=>rfl);(exact aAb 0);(exact aAu)))))));(exact aAg)
theorem ok_union_of (T:Txt K mg t) {k:Nat} {F:List D→M D} (hL: ∀ds r,F ds=some r→ds.length=1) (hq: ∀ds r,F ds=some r→∃d,r= .ok d∧aAz (den_union_of t (aCo N_union_of ds))=ok d):Def P w K mg base (k+1) "union_of" F:=by
 obtain⟨fd,Fu,bi⟩:=T.aBz
 exact⟨_,_,_,T.g_union_of,Fu.kp,bi,hL,fn_D Fu sc_union_of hL fun cdv A outer s H E hr=>⟨_,fun B=>tm_union_of T hr B,hq⟩⟩
noncomputable def N_least_of:List Str:=["some","numbers","sets","names"]
noncomputable def Nc_least_of_0:List Str:=["?0","?1","sets","?3","kept"]
theorem nd_least_of_0:Nc_least_of_0.Nodup:=by decide+kernel
theorem sc_least_of:aBb N_least_of ["some"] (aAe s_least_of):=⟨rfl,rfl,rfl,by decide+kernel,rfl,by decide+kernel,by decide+kernel⟩
noncomputable def den_least_of (t:Adr) (aA3:List D→M D) (aAs:List D→M D) (aAr:List D→M D):Rho→Option Out:=
  (aAh (aC3 1 (app aAr (aAc (look 0) aAv)))
  (aAh (sNewK 2)
  (aAh (aCb 0 (gN 3) (aAh (sPutK 2 (app aA3 (aAc (look 3) (aAc (look 1) aAv))) (look 3))
  aAp))
  (aAh (aBy (f1 toT (f1 srtLT (cmp 1 (itE (app aAs (aAc (f1 keysD (look 2)) aAv))) [4] h1 (fun _=>ok true) (f1 toT (f1 srtD (f1 toS (b2 gDix (look 2) (look 4)))))))))
  aAp))))
theorem tm_least_of (T:Txt K mg t) {k:Nat} {aA3:List D→M D} (aDn:Def P w K mg base k "bits_of" aA3) {aAs:List D→M D} (aCa:Def P w K mg base k "least_bits" aAs) {aAr:List D→M D} (aB9:Def P w K mg base k "numbers_of" aAr) {cdv:Value} {A:Around} {outer:List Env} {s:Shared} {H:Hp} {E:XK} (hr:aCw k (A.deeper (envOfC "least_of" (aAe s_least_of) s.heap.objs.size t.f_least_of cdv))) (B:Hp):
  PDB (cxN P w K mg base N_least_of "least_of" (aAe s_least_of) t.f_least_of cdv A outer s H E) B (aA2 s_least_of) (den_least_of t aA3 aAs aAr):=
 by
 refine aAa ?_ ?_;(refine aBg (i:=1) (sc_least_of).nd rfl (Or.inl rfl) ?_;(refine aA1 aB9 hr rfl ?_;(refine aAd ?_ ?_;(exact aAb 0);(exact aAl))));(refine aAa ?_ ?_;(exact pds_newK (i:=2) (sc_least_of).nd rfl (Or.inr rfl));(refine aAa ?_ ?_;(refine aC5 0 rfl (Or.inl rfl) PassesOwn.never rfl (fun B=> ?_) (fun B=> ?_);(exact aBk (i:=3) (sc_least_of).nd rfl (Or.inl rfl));(refine aAa ?_ ?_;(refine pds_putK hr 2 ?_ ?_;(refine aA1 aDn hr rfl ?_;(refine aAd ?_ ?_;(exact aAb 3);(refine aAd ?_ ?_;(exact aAb 1);(exact aAl))));(exact aAb 3));(exact aAg)));(refine aAa ?_ ?_;(refine aAt ?_;(refine pd_tuple rfl T.aC2 ?_;(refine pd_sortedLT rfl rfl T.b_sorted ?_;(refine aDv (N':=Nc_least_of_0) (m:=1) (ks:=[4]) rfl rfl rfl rfl (by repeat (first | exact lk_nil | refine aD1 rfl (by first | exact Or.inl rfl | exact Or.inr rfl) ?_)) rfl rfl rfl rfl rfl ?_ (fun C s₀ H₀ ex=> ?_) (fun C s₀ H₀ ex B=> ?_) (fun C s₀ H₀ ex B=> ?_);(refine pit_D ?_;(refine aA1 aCa hr rfl ?_;(refine aAd ?_ ?_;(refine pd_listK (by rfl) rfl T.b_list ?_;(exact aAb 2));(exact aAl))));(exact pdn_1 nd_least_of_0 rfl (Or.inl rfl));(exact aCs);(refine pd_tuple rfl T.aC2 ?_;(refine pd_sorted rfl rfl T.b_sorted ?_;(refine pd_set rfl rfl T.b_set ?_;(refine pd_dix hr ?_ ?_;(exact aAb 2);(exact aAb 4)))))))));(exact aAg))))
theorem ok_least_of (T:Txt K mg t) {k:Nat} {aA3:List D→M D} (aDn:Def P w K mg base k "bits_of" aA3) {aAs:List D→M D} (aCa:Def P w K mg base k "least_bits" aAs) {aAr:List D→M D} (aB9:Def P w K mg base k "numbers_of" aAr) {F:List D→M D} (hL: ∀ds r,F ds=some r→ds.length=1) (hq: ∀ds r,F ds=some r→∃d,r= .ok d∧aAz (den_least_of t aA3 aAs aAr (aCo N_least_of ds))=ok d):Def P w K mg base (k+1) "least_of" F:=by
 obtain⟨fd,Fu,bi⟩:=T.aAo
 exact⟨_,_,_,T.g_least_of,Fu.kp,bi,hL,fn_D Fu sc_least_of hL fun cdv A outer s H E hr=>⟨_,fun B=>tm_least_of T aDn aCa aB9 hr B,hq⟩⟩
noncomputable def N_numbers_of:List Str:=["some","numbers","names","name"]
theorem aDt:aBb N_numbers_of ["some"] (aAe aC9):=⟨rfl,rfl,rfl,by decide+kernel,rfl,by decide+kernel,by decide+kernel⟩
noncomputable def den_numbers_of (t:Adr):Rho→Option Out:=
  (aAh (sNewK 1)
  (aAh (aCb 0 (gN 2) (aAh (aCb 2 (gN 3) (aAh (sSdK 1 (look 3) (f1 lenK (look 1)))
  aAp))
  aAp))
  (aAh (aBy (look 1))
  aAp)))
theorem tm_numbers_of (T:Txt K mg t) {k:Nat} {cdv:Value} {A:Around} {outer:List Env} {s:Shared} {H:Hp} {E:XK} (hr:aCw k (A.deeper (envOfC "numbers_of" (aAe aC9) s.heap.objs.size t.aDf cdv))) (B:Hp):
  PDB (cxN P w K mg base N_numbers_of "numbers_of" (aAe aC9) t.aDf cdv A outer s H E) B (aA2 aC9) (den_numbers_of t):=
 by
 refine aAa ?_ ?_;(exact pds_newK (i:=1) (aDt).nd rfl (Or.inl rfl));(refine aAa ?_ ?_;(refine aC5 0 rfl (Or.inl rfl) PassesOwn.never rfl (fun B=> ?_) (fun B=> ?_);(exact aBk (i:=2) (aDt).nd rfl (Or.inl rfl));(refine aAa ?_ ?_;(refine aC5 2 rfl (Or.inl rfl) PassesOwn.never rfl (fun B=> ?_) (fun B=> ?_);(exact aBk (i:=3) (aDt).nd rfl (Or.inl rfl));(refine aAa ?_ ?_;(refine pds_sdK (i:=1) rfl (Or.inl rfl) ?_ ?_;(exact aAb 3);(refine pd_lenK rfl T.b_len ?_;(exact aAb 1)));(exact aAg)));(exact aAg)));(refine aAa ?_ ?_;(refine aAt ?_;(exact aAb 1));(exact aAg)))
theorem ok_numbers_of (T:Txt K mg t) {k:Nat} {F:List D→M D} (hL: ∀ds r,F ds=some r→ds.length=1) (hq: ∀ds r,F ds=some r→∃d,r= .ok d∧aAz (den_numbers_of t (aCo N_numbers_of ds))=ok d):Def P w K mg base (k+1) "numbers_of" F:=by
 obtain⟨fd,Fu,bi⟩:=T.aAr
 exact⟨_,_,_,T.g_numbers_of,Fu.kp,bi,hL,fn_D Fu aDt hL fun cdv A outer s H E hr=>⟨_,fun B=>tm_numbers_of T hr B,hq⟩⟩
noncomputable def N_bits_of:List Str:=["names","numbers","bits","name"]
theorem sc_bits_of:aBb N_bits_of ["names","numbers"] (aAe s_bits_of):=⟨rfl,rfl,rfl,by decide+kernel,rfl,by decide+kernel,by decide+kernel⟩
noncomputable def den_bits_of (t:Adr):Rho→Option Out:=
  (aAh (aC3 2 (con (.int 0)))
  (aAh (aCb 0 (gN 3) (aAh (aC3 2 (b2 gBOr (look 2) (b2 gShl (con (.int 1)) (b2 gDix (look 1) (look 3)))))
  aAp))
  (aAh (aBy (look 2))
  aAp)))
theorem tm_bits_of (T:Txt K mg t) {k:Nat} {cdv:Value} {A:Around} {outer:List Env} {s:Shared} {H:Hp} {E:XK} (hr:aCw k (A.deeper (envOfC "bits_of" (aAe s_bits_of) s.heap.objs.size t.f_bits_of cdv))) (B:Hp):
  PDB (cxN P w K mg base N_bits_of "bits_of" (aAe s_bits_of) t.f_bits_of cdv A outer s H E) B (aA2 s_bits_of) (den_bits_of t):=
 by
 refine aAa ?_ ?_;(refine aBg (i:=2) (sc_bits_of).nd rfl (Or.inl rfl) ?_;(exact aAu));(refine aAa ?_ ?_;(refine aC5 0 rfl (Or.inl rfl) PassesOwn.never rfl (fun B=> ?_) (fun B=> ?_);(exact aBk (i:=3) (sc_bits_of).nd rfl (Or.inl rfl));(refine aAa ?_ ?_;(refine aBg (i:=2) (sc_bits_of).nd rfl (Or.inl rfl) ?_;(refine pd_bor ?_ ?_;(exact aAb 2);(refine pd_shl ?_ ?_;(exact aAu);(refine pd_dix hr ?_ ?_;(exact aAb 1);(exact aAb 3)))));(exact aAg)));(refine aAa ?_ ?_;(refine aAt ?_;(exact aAb 2));(exact aAg)))
theorem ok_bits_of (T:Txt K mg t) {k:Nat} {F:List D→M D} (hL: ∀ds r,F ds=some r→ds.length=2) (hq: ∀ds r,F ds=some r→∃d,r= .ok d∧aAz (den_bits_of t (aCo N_bits_of ds))=ok d):Def P w K mg base (k+1) "bits_of" F:=by
 obtain⟨fd,Fu,bi⟩:=T.aA3
 exact⟨_,_,_,T.g_bits_of,Fu.kp,bi,hL,fn_D Fu sc_bits_of hL fun cdv A outer s H E hr=>⟨_,fun B=>tm_bits_of T hr B,hq⟩⟩
noncomputable def N_least_bits:List Str:=["sets","kept","one","least","top"]
theorem aCq:aBb N_least_bits ["sets"] (aAe aDa):=⟨rfl,rfl,rfl,by decide+kernel,rfl,by decide+kernel,by decide+kernel⟩
noncomputable def den_least_bits (t:Adr) (aBf:List D→M D):Rho→Option Out:=
  (aAh (sNewN 1)
  (aAh (sForS6 (look 0) (gN 2) (aAh (sIf (notB (test (app aBf (aAc (look 1) (aAc (look 2) aAv))))) (aAh (sSdA 1 (f1 bitsD (look 2)) (aAc (look 2) aAv))
  aAp) aAp)
  aAp))
  (aAh (sNew 3 aAv)
  (aAh (sForK 1 (gN 4) (aAh (sExt2 3 (aAc (b2 gDix (look 1) (look 4)) aAv))
  aAp))
  (aAh (aBy (look 3))
  aAp)))))
theorem tm_least_bits (T:Txt K mg t) {k:Nat} {aBf:List D→M D} (G_has_within:Def P w K mg base k "has_within" aBf) {cdv:Value} {A:Around} {outer:List Env} {s:Shared} {H:Hp} {E:XK} (hr:aCw k (A.deeper (envOfC "least_bits" (aAe aDa) s.heap.objs.size t.aDg cdv))) (B:Hp):
  PDB (cxN P w K mg base N_least_bits "least_bits" (aAe aDa) t.aDg cdv A outer s H E) B (aA2 aDa) (den_least_bits t aBf):=
 by
 refine aAa ?_ ?_;(exact pds_newN (i:=1) (aCq).nd rfl (Or.inl rfl));(refine aAa ?_ ?_;(refine pds_forS6 rfl T.b_sorted PassesOwn.never rfl ?_ (fun B=> ?_) (fun B=> ?_);(exact aAb 0);(exact aBk (i:=2) (aCq).nd rfl (Or.inl rfl));(refine aAa ?_ ?_;(refine aCt ?_ ?_ ?_;(refine pdt_not ?_;(refine aDo ?_;(refine aA1 G_has_within hr rfl ?_;(refine aAd ?_ ?_;(exact aAb 1);(refine aAd ?_ ?_;(exact aAb 2);(exact aAl))))));(refine aAa ?_ ?_;(refine pds_sdA (i:=1) rfl (Or.inl rfl) ?_ ?_;(refine pd_bits ?_;(exact aAb 2));(exact aAb 2));(exact aAg));(exact aAg));(exact aAg)));(refine aAa ?_ ?_;(refine pds_new (i:=3) (aCq).nd rfl (Or.inl rfl) ?_;(exact aAl));(refine aAa ?_ ?_;(refine pds_forK 1 rfl (Or.inl rfl) PassesOwn.never rfl (fun B=> ?_) (fun B=> ?_);(exact aBk (i:=4) (aCq).nd rfl (Or.inl rfl));(refine aAa ?_ ?_;(refine pds_extend2 (i:=3) rfl (Or.inl rfl) ?_;(refine pd_dix hr ?_ ?_;(exact aAb 1);(exact aAb 4)));(exact aAg)));(refine aAa ?_ ?_;(refine aAt ?_;(exact aAb 3));(exact aAg)))))
theorem ok_least_bits (T:Txt K mg t) {k:Nat} {aBf:List D→M D} (G_has_within:Def P w K mg base k "has_within" aBf) {F:List D→M D} (hL: ∀ds r,F ds=some r→ds.length=1) (hq: ∀ds r,F ds=some r→∃d,r= .ok d∧aAz (den_least_bits t aBf (aCo N_least_bits ds))=ok d):Def P w K mg base (k+1) "least_bits" F:=by
 obtain⟨fd,Fu,bi⟩:=T.aAs
 exact⟨_,_,_,T.g_least_bits,Fu.kp,bi,hL,fn_D Fu aCq hL fun cdv A outer s H E hr=>⟨_,fun B=>tm_least_bits T G_has_within hr B,hq⟩⟩
noncomputable def N_has_within:List Str:=["kept","one","rest","top","other"]
theorem aCr:aBb N_has_within ["kept","one"] (aAe aDd):=⟨rfl,rfl,rfl,by decide+kernel,rfl,by decide+kernel,by decide+kernel⟩
noncomputable def den_has_within (t:Adr):Rho→Option Out:=
  (aAh (sIf (aAy (b2 (gDin false) (con (.int 0)) (look 0))) (aAh (aBy (con (.bl true)))
  aAp) aAp)
  (aAh (aC3 2 (look 1))
  (aAh (sWhile (aAy (b2 gGt (look 2) (con (.int 0)))) (aAh (aC3 3 (f1 bitsD (look 2)))
  (aAh (sForE (getL (look 0) (look 3)) (gN 4) (aAh (sIf (aAy (b2 gEq (b2 gBAnd (look 4) (look 1)) (look 4))) (aAh (aBy (con (.bl true)))
  aAp) aAp)
  aAp))
  (aAh (aC3 2 (b2 gSub (look 2) (b2 gShl (con (.int 1)) (b2 gSub (look 3) (con (.int 1))))))
  aAp))))
  (aAh (aBy (con (.bl false)))
  aAp))))
theorem tm_has_within (T:Txt K mg t) {k:Nat} {cdv:Value} {A:Around} {outer:List Env} {s:Shared} {H:Hp} {E:XK} (hr:aCw k (A.deeper (envOfC "has_within" (aAe aDd) s.heap.objs.size t.aDj cdv))) (B:Hp):
  PDB (cxN P w K mg base N_has_within "has_within" (aAe aDd) t.aDj cdv A outer s H E) B (aA2 aDd) (den_has_within t):=
 by
 refine aAa ?_ ?_;(refine aCt ?_ ?_ ?_;(refine pdt_din hr ?_ ?_;(exact aAu);(exact aAb 0));(refine aAa ?_ ?_;(refine aAt ?_;(exact pd_bl));(exact aAg));(exact aAg));(refine aAa ?_ ?_;(refine aBg (i:=2) (aCr).nd rfl (Or.inl rfl) ?_;(exact aAb 1));(refine aAa ?_ ?_;(refine pds_while PassesOwn.never ?_ ?_;(refine pdt_gt ?_ ?_;(exact aAb 2);(exact aAu));(refine aAa ?_ ?_;(refine aBg (i:=3) (aCr).nd rfl (Or.inl rfl) ?_;(refine pd_bits ?_;(exact aAb 2)));(refine aAa ?_ ?_;(refine pds_forE PassesOwn.never rfl ?_ (fun B=> ?_) (fun B=> ?_);(refine pd_getL hr ?_ ?_;(exact aAb 0);(exact aAb 3));(exact aBk (i:=4) (aCr).nd rfl (Or.inl rfl));(refine aAa ?_ ?_;(refine aCt ?_ ?_ ?_;(refine pdt_eq ?_ ?_;(refine pd_band ?_ ?_;(exact aAb 4);(exact aAb 1));(exact aAb 4));(refine aAa ?_ ?_;(refine aAt ?_;(exact pd_bl));(exact aAg));(exact aAg));(exact aAg)));(refine aAa ?_ ?_;(refine aBg (i:=2) (aCr).nd rfl (Or.inl rfl) ?_;(refine pd_sub ?_ ?_;(exact aAb 2);(refine pd_shl ?_ ?_;(exact aAu);(refine pd_sub ?_ ?_;(exact aAb 3);(exact aAu)))));(exact aAg)))));(refine aAa ?_ ?_;(refine aAt ?_;(exact pd_bl));(exact aAg))))
theorem ok_has_within (T:Txt K mg t) {k:Nat} {F:List D→M D} (hL: ∀ds r,F ds=some r→ds.length=2) (hq: ∀ds r,F ds=some r→∃d,r= .ok d∧aAz (den_has_within t (aCo N_has_within ds))=ok d):Def P w K mg base (k+1) "has_within" F:=by
 obtain⟨fd,Fu,bi⟩:=T.aBf
 exact⟨_,_,_,T.g_has_within,Fu.kp,bi,hL,fn_D Fu aCr hL fun cdv A outer s H E hr=>⟨_,fun B=>tm_has_within T hr B,hq⟩⟩
noncomputable def N_law_at:List Str:=["_law_script","_law_k"]
theorem sc_law_at:aBb N_law_at ["_law_script","_law_k"] (aAe s_law_at):=⟨rfl,rfl,rfl,by decide+kernel,rfl,by decide+kernel,by decide+kernel⟩
noncomputable def den_law_at (t:Adr):Rho→Option Out:=
  (aAh (sIf (aAy (b2 gLt (look 1) (f1 lenD (look 0)))) (aAh (aBy (b2 gIx (look 0) (look 1)))
  aAp) aAp)
  (aAh (aBy (con (.int 0)))
  aAp))
theorem tm_law_at (T:Txt K mg t) {k:Nat} {cdv:Value} {A:Around} {outer:List Env} {s:Shared} {H:Hp} {E:XK} (hr:aCw k (A.deeper (envOfC "_law_at" (aAe s_law_at) s.heap.objs.size t.f_law_at cdv))) (B:Hp):
  PDB (cxN P w K mg base N_law_at "_law_at" (aAe s_law_at) t.f_law_at cdv A outer s H E) B (aA2 s_law_at) (den_law_at t):=
 by
 refine aAa ?_ ?_;(refine aCt ?_ ?_ ?_;(refine pdt_lt ?_ ?_;(exact aAb 1);(refine pd_len rfl T.b_len ?_;(exact aAb 0)));(refine aAa ?_ ?_;(refine aAt ?_;(refine pd_ix ?_ ?_ (fun _ _=>rfl);(exact aAb 0);(exact aAb 1)));(exact aAg));(exact aAg));(refine aAa ?_ ?_;(refine aAt ?_;(exact aAu));(exact aAg))
theorem ok_law_at (T:Txt K mg t) {k:Nat} {F:List D→M D} (hL: ∀ds r,F ds=some r→ds.length=2) (hq: ∀ds r,F ds=some r→∃d,r= .ok d∧aAz (den_law_at t (aCo N_law_at ds))=ok d):Def P w K mg base (k+1) "_law_at" F:=by
 obtain⟨fd,Fu,bi⟩:=T.aC8
 exact⟨_,_,_,T.g_law_at,Fu.kp,bi,hL,fn_D Fu sc_law_at hL fun cdv A outer s H E hr=>⟨_,fun B=>tm_law_at T hr B,hq⟩⟩
noncomputable def N_law_same:List Str:=["_law_found","_law_due","_law_k"]
theorem sc_law_same:aBb N_law_same ["_law_found","_law_due"] (aAe s_law_same):=⟨rfl,rfl,rfl,by decide+kernel,rfl,by decide+kernel,by decide+kernel⟩
noncomputable def den_law_same (t:Adr) (aAw:List D→M D):Rho→Option Out:=
  (aAh (sIf (orB (aAy (b2 gNe (isi "tuple" (look 1)) (isi "tuple" (look 0)))) (aAy (b2 gNe (isi "list" (look 1)) (isi "list" (look 0))))) (aAh (aBy (con (.bl false)))
  aAp) aAp)
  (aAh (sIf (test (isi2 ["tuple","list"] (look 1))) (aAh (sIf (aAy (b2 gNe (f1 lenD (look 0)) (f1 lenD (look 1)))) (aAh (aBy (con (.bl false)))
  aAp) aAp)
  (aAh (sForR1 (f1 lenD (look 1)) (gN 2) (aAh (sIf (notB (test (app aAw (aAc (b2 gIx (look 0) (look 2)) (aAc (b2 gIx (look 1) (look 2)) aAv))))) (aAh (aBy (con (.bl false)))
  aAp) aAp)
  aAp))
  (aAh (aBy (con (.bl true)))
  aAp))) aAp)
  (aAh (sIf (aAy (b2 gIs (look 1) (con .non))) (aAh (aBy (b2 gIs (look 0) (con .non)))
  aAp) aAp)
  (aAh (sIf (orB (aAy (b2 gNe (isi "bool" (look 1)) (isi "bool" (look 0)))) (aAy (b2 gNe (isi "str" (look 1)) (isi "str" (look 0))))) (aAh (aBy (con (.bl false)))
  aAp) aAp)
  (aAh (aBy (andV (b2 gEq (isi "int" (look 1)) (isi "int" (look 0))) (b2 gEq (look 0) (look 1))))
  aAp)))))
theorem tm_law_same (T:Txt K mg t) {k:Nat} {aAw:List D→M D} (aCm:Def P w K mg base k "_law_same" aAw) {cdv:Value} {A:Around} {outer:List Env} {s:Shared} {H:Hp} {E:XK} (hr:aCw k (A.deeper (envOfC "_law_same" (aAe s_law_same) s.heap.objs.size t.f_law_same cdv))) (B:Hp):
  PDB (cxN P w K mg base N_law_same "_law_same" (aAe s_law_same) t.f_law_same cdv A outer s H E) B (aA2 s_law_same) (den_law_same t aAw):=
 by
 refine aAa ?_ ?_;(refine aCt ?_ ?_ ?_;(refine PDW.pdt ?_;(refine pdw_or ?_ ?_;(refine pdt_ne ?_ ?_;(refine aDr (T:="tuple") rfl T.aAq rfl T.aC2 (by decide+kernel) (by decide) ?_;(exact aAb 1));(refine aDr (T:="tuple") rfl T.aAq rfl T.aC2 (by decide+kernel) (by decide) ?_;(exact aAb 0)));(refine pdw_or1 ?_;(refine pdt_ne ?_ ?_;(refine aDr (T:="list") rfl T.aAq rfl T.b_list (by decide+kernel) (by decide) ?_;(exact aAb 1));(refine aDr (T:="list") rfl T.aAq rfl T.b_list (by decide+kernel) (by decide) ?_;(exact aAb 0))))));(refine aAa ?_ ?_;(refine aAt ?_;(exact pd_bl));(exact aAg));(exact aAg));(refine aAa ?_ ?_;(refine aCt ?_ ?_ ?_;(refine aDo ?_;(refine pd_isi2 (T:="tuple") (U:="list") rfl T.aAq rfl T.aC2 (by decide+kernel) (by decide) rfl T.b_list (by decide+kernel) (by decide) ?_;(exact aAb 1)));(refine aAa ?_ ?_;(refine aCt ?_ ?_ ?_;(refine pdt_ne ?_ ?_;(refine pd_len rfl T.b_len ?_;(exact aAb 0));(refine pd_len rfl T.b_len ?_;(exact aAb 1)));(refine aAa ?_ ?_;(refine aAt ?_;(exact pd_bl));(exact aAg));(exact aAg));(refine aAa ?_ ?_;(refine pds_forR1 rfl T.b_range PassesOwn.never rfl ?_ (fun B=> ?_) (fun B=> ?_);(refine pd_len rfl T.b_len ?_;(exact aAb 1));(exact aBk (i:=2) (sc_law_same).nd rfl (Or.inl rfl));(refine aAa ?_ ?_;(refine aCt ?_ ?_ ?_;(refine pdt_not ?_;(refine aDo ?_;(refine aA1 aCm hr rfl ?_;(refine aAd ?_ ?_;(refine pd_ix ?_ ?_ (fun _ _=>rfl);(exact aAb 0);(exact aAb 2));(refine aAd ?_ ?_;(refine pd_ix ?_ ?_ (fun _ _=>rfl);(exact aAb 1);(exact aAb 2));(exact aAl))))));(refine aAa ?_ ?_;(refine aAt ?_;(exact pd_bl));(exact aAg));(exact aAg));(exact aAg)));(refine aAa ?_ ?_;(refine aAt ?_;(exact pd_bl));(exact aAg))));(exact aAg));(refine aAa ?_ ?_;(refine aCt ?_ ?_ ?_;(refine pdt_is ?_ ?_;(exact aAb 1);(exact pd_non));(refine aAa ?_ ?_;(refine aAt ?_;(refine pd_is ?_ ?_;(exact aAb 0);(exact pd_non)));(exact aAg));(exact aAg));(refine aAa ?_ ?_;(refine aCt ?_ ?_ ?_;(refine PDW.pdt ?_;(refine pdw_or ?_ ?_;(refine pdt_ne ?_ ?_;(refine aDr (T:="bool") rfl T.aAq rfl T.b_bool (by decide+kernel) (by decide) ?_;(exact aAb 1));(refine aDr (T:="bool") rfl T.aAq rfl T.b_bool (by decide+kernel) (by decide) ?_;(exact aAb 0)));(refine pdw_or1 ?_;(refine pdt_ne ?_ ?_;(refine aDr (T:="str") rfl T.aAq rfl T.b_str (by decide+kernel) (by decide) ?_;(exact aAb 1));(refine aDr (T:="str") rfl T.aAq rfl T.b_str (by decide+kernel) (by decide) ?_;(exact aAb 0))))));(refine aAa ?_ ?_;(refine aAt ?_;(exact pd_bl));(exact aAg));(exact aAg));(refine aAa ?_ ?_;(refine aAt ?_;(refine pd_and ?_ ?_;(refine pd_eq ?_ ?_;(refine aDr (T:="int") rfl T.aAq rfl T.b_int (by decide+kernel) (by decide) ?_;(exact aAb 1));(refine aDr (T:="int") rfl T.aAq rfl T.b_int (by decide+kernel) (by decide) ?_;(exact aAb 0)));(refine pd_one ?_;(refine pd_eq ?_ ?_;(exact aAb 0);(exact aAb 1)))));(exact aAg)))))
theorem ok_law_same (T:Txt K mg t) {k:Nat} {aAw:List D→M D} (aCm:Def P w K mg base k "_law_same" aAw) {F:List D→M D} (hL: ∀ds r,F ds=some r→ds.length=2) (hq: ∀ds r,F ds=some r→∃d,r= .ok d∧aAz (den_law_same t aAw (aCo N_law_same ds))=ok d):Def P w K mg base (k+1) "_law_same" F:=by
 obtain⟨fd,Fu,bi⟩:=T.aAw
 exact⟨_,_,_,T.g_law_same,Fu.kp,bi,hL,fn_D Fu sc_law_same hL fun cdv A outer s H E hr=>⟨_,fun B=>tm_law_same T aCm hr B,hq⟩⟩
noncomputable def N_law_mix:List Str:=["_law_cell"]
theorem sc_law_mix:aBb N_law_mix ["_law_cell"] (aAe s_law_mix):=⟨rfl,rfl,rfl,by decide+kernel,rfl,by decide+kernel,by decide+kernel⟩
noncomputable def den_law_mix (t:Adr):Rho→Option Out:=
  (aAh (aBy (b2 gMod (b2 aEe (b2 aC0 (b2 gMod (look 0) (b2 gPow (con (.int 10)) (con (.int 9)))) (con (.int 1))) (con (.int 2862933555777941757))) (b2 aC0 (b2 gPow (con (.int 10)) (con (.int 24))) (con (.int 7)))))
  aAp)
theorem tm_law_mix (T:Txt K mg t) {k:Nat} {cdv:Value} {A:Around} {outer:List Env} {s:Shared} {H:Hp} {E:XK} (hr:aCw k (A.deeper (envOfC "_law_mix" (aAe s_law_mix) s.heap.objs.size t.f_law_mix cdv))) (B:Hp):
  PDB (cxN P w K mg base N_law_mix "_law_mix" (aAe s_law_mix) t.f_law_mix cdv A outer s H E) B (aA2 s_law_mix) (den_law_mix t):=
 by
 refine aAa ?_ ?_;(refine aAt ?_;(refine pd_mod ?_ ?_;(refine pd_times ?_ ?_;(refine pd_plus ?_ ?_;(refine pd_mod ?_ ?_;(exact aAb 0);(refine pd_pow ?_ ?_;(exact aAu);(exact aAu)));(exact aAu));(exact aAu));(refine pd_plus ?_ ?_;(refine pd_pow ?_ ?_;(exact aAu);(exact aAu));(exact aAu))));(exact aAg)
theorem ok_law_mix (T:Txt K mg t) {k:Nat} {F:List D→M D} (hL: ∀ds r,F ds=some r→ds.length=1) (hq: ∀ds r,F ds=some r→∃d,r= .ok d∧aAz (den_law_mix t (aCo N_law_mix ds))=ok d):Def P w K mg base (k+1) "_law_mix" F:=by
 obtain⟨fd,Fu,bi⟩:=T.aCi
 exact⟨_,_,_,T.g_law_mix,Fu.kp,bi,hL,fn_D Fu sc_law_mix hL fun cdv A outer s H E hr=>⟨_,fun B=>tm_law_mix T hr B,hq⟩⟩
noncomputable def N_law_name:List Str:=["_law_style","_law_k","_law_at_here"]
theorem sc_law_name:aBb N_law_name ["_law_style","_law_k"] (aAe s_law_name):=⟨rfl,rfl,rfl,by decide+kernel,rfl,by decide+kernel,by decide+kernel⟩
noncomputable def den_law_name (t:Adr):Rho→Option Out:=
  (aAh (aC3 2 (b2 gMod (b2 aC0 (b2 aEe (con (.int 5)) (look 1)) (look 0)) (con (.int 23))))
  (aAh (sIf (aAy (b2 gEq (b2 gMod (b2 aD8 (look 0) (con (.int 23))) (con (.int 3))) (con (.int 1)))) (aAh (aBy (b2 aC0 (cut3 (con (.str "zz")) oNone (oPart (b2 gMod (look 0) (con (.int 3))))) (b2 aEe (con (.str "a")) (look 2))))
  aAp) aAp)
  (aAh (aBy (b2 aC0 (b2 aC0 (cut3 (con (.str "zyzy")) oNone (oPart (b2 gMod (b2 aD8 (look 0) (con (.int 69))) (con (.int 4))))) (b2 gIx (con (.str "aXq 0~zB-c!_dEf.gH1i(jK")) (look 2))) (cut3 (con (.str "yzzy")) oNone (oPart (b2 gMod (b2 aD8 (look 0) (con (.int 276))) (con (.int 4)))))))
  aAp)))
theorem tm_law_name (T:Txt K mg t) {k:Nat} {cdv:Value} {A:Around} {outer:List Env} {s:Shared} {H:Hp} {E:XK} (hr:aCw k (A.deeper (envOfC "_law_name" (aAe s_law_name) s.heap.objs.size t.f_law_name cdv))) (B:Hp):
  PDB (cxN P w K mg base N_law_name "_law_name" (aAe s_law_name) t.f_law_name cdv A outer s H E) B (aA2 s_law_name) (den_law_name t):=
 by
 refine aAa ?_ ?_;(refine aBg (i:=2) (sc_law_name).nd rfl (Or.inl rfl) ?_;(refine pd_mod ?_ ?_;(refine pd_plus ?_ ?_;(refine pd_times ?_ ?_;(exact aAu);(exact aAb 1));(exact aAb 0));(exact aAu)));(refine aAa ?_ ?_;(refine aCt ?_ ?_ ?_;(refine pdt_eq ?_ ?_;(refine pd_mod ?_ ?_;(refine pd_fdiv ?_ ?_;(exact aAb 0);(exact aAu));(exact aAu));(exact aAu));(refine aAa ?_ ?_;(refine aAt ?_;(refine pd_plus ?_ ?_;(refine pd_slice ?_ ?_ ?_;(exact pd_str);(exact pdo_none);(refine pdo_some ?_;(refine pd_mod ?_ ?_;(exact aAb 0);(exact aAu))));(refine pd_times ?_ ?_;(exact pd_str);(exact aAb 2))));(exact aAg));(exact aAg));(refine aAa ?_ ?_;(refine aAt ?_;(refine pd_plus ?_ ?_;(refine pd_plus ?_ ?_;(refine pd_slice ?_ ?_ ?_;(exact pd_str);(exact pdo_none);(refine pdo_some ?_;(refine pd_mod ?_ ?_;(refine pd_fdiv ?_ ?_;(exact aAb 0);(exact aAu));(exact aAu))));(refine pd_ix ?_ ?_ (fun _ _=>rfl);(exact pd_str);(exact aAb 2)));(refine pd_slice ?_ ?_ ?_;(exact pd_str);(exact pdo_none);(refine pdo_some ?_;(refine pd_mod ?_ ?_;(refine pd_fdiv ?_ ?_;(exact aAb 0);(exact aAu));(exact aAu))))));(exact aAg)))
theorem ok_law_name (T:Txt K mg t) {k:Nat} {F:List D→M D} (hL: ∀ds r,F ds=some r→ds.length=2) (hq: ∀ds r,F ds=some r→∃d,r= .ok d∧aAz (den_law_name t (aCo N_law_name ds))=ok d):Def P w K mg base (k+1) "_law_name" F:=by
 obtain⟨fd,Fu,bi⟩:=T.aB0
 exact⟨_,_,_,T.g_law_name,Fu.kp,bi,hL,fn_D Fu sc_law_name hL fun cdv A outer s H E hr=>⟨_,fun B=>tm_law_name T hr B,hq⟩⟩
noncomputable def N_law_hits:List Str:=["_law_sets","_law_mask","_law_names","_law_there","_law_name_here"]
noncomputable def Nc_law_hits_0:List Str:=["?0","?1","?2","_law_there","?4","_law_one"]
theorem nd_law_hits_0:Nc_law_hits_0.Nodup:=by decide+kernel
noncomputable def Nc_law_hits_1:List Str:=["?0","?1","?2","_law_there","?4","?5","_law_name_here"]
theorem nd_law_hits_1:Nc_law_hits_1.Nodup:=by decide+kernel
theorem sc_law_hits:aBb N_law_hits ["_law_sets","_law_mask","_law_names"] (aAe s_law_hits):=⟨rfl,rfl,rfl,by decide+kernel,rfl,by decide+kernel,by decide+kernel⟩
noncomputable def aEf (t:Adr):Rho→Option Out:=
  (aAh (sNew 3 aAv)
  (aAh (aCb 2 (gN 4) (aAh (sIf (aAy (b2 gEq (b2 gMod (look 1) (con (.int 2))) (con (.int 1)))) (aAh (sOwn lApp 3 (aAc (look 4) aAv))
  aAp) aAp)
  (aAh (aC3 1 (b2 aD8 (look 1) (con (.int 2))))
  aAp)))
  (aAh (aBy (f1 anyD (cmp 1 (itE (look 0)) [5] h1 (fun _=>ok true) (f1 allD (cmp 1 (itE (look 5)) [6] h1 (fun _=>ok true) (b2 (gIn false) (look 6) (look 3)))))))
  aAp)))
theorem tm_law_hits (T:Txt K mg t) {k:Nat} {cdv:Value} {A:Around} {outer:List Env} {s:Shared} {H:Hp} {E:XK} (hr:aCw k (A.deeper (envOfC "_law_hits" (aAe s_law_hits) s.heap.objs.size t.f_law_hits cdv))) (B:Hp):
  PDB (cxN P w K mg base N_law_hits "_law_hits" (aAe s_law_hits) t.f_law_hits cdv A outer s H E) B (aA2 s_law_hits) (aEf t):=
 by
 refine aAa ?_ ?_;(refine pds_new (i:=3) (sc_law_hits).nd rfl (Or.inr rfl) ?_;(exact aAl));(refine aAa ?_ ?_;(refine aC5 2 rfl (Or.inl rfl) PassesOwn.never rfl (fun B=> ?_) (fun B=> ?_);(exact aBk (i:=4) (sc_law_hits).nd rfl (Or.inl rfl));(refine aAa ?_ ?_;(refine aCt ?_ ?_ ?_;(refine pdt_eq ?_ ?_;(refine pd_mod ?_ ?_;(exact aAb 1);(exact aAu));(exact aAu));(refine aAa ?_ ?_;(refine pds_append (i:=3) rfl (Or.inr (Or.inl rfl)) ?_;(exact aAb 4));(exact aAg));(exact aAg));(refine aAa ?_ ?_;(refine aBg (i:=1) (sc_law_hits).nd rfl (Or.inl rfl) ?_;(refine pd_fdiv ?_ ?_;(exact aAb 1);(exact aAu)));(exact aAg))));(refine aAa ?_ ?_;(refine aAt ?_;(refine pd_any rfl rfl T.b_any ?_;(refine aDv (N':=Nc_law_hits_0) (m:=1) (ks:=[5]) rfl rfl rfl rfl (by repeat (first | exact lk_nil | refine aD1 rfl (by first | exact Or.inl rfl | exact Or.inr rfl) ?_)) rfl rfl rfl rfl rfl ?_ (fun C s₀ H₀ ex=> ?_) (fun C s₀ H₀ ex B=> ?_) (fun C s₀ H₀ ex B=> ?_);(refine pit_D ?_;(exact aAb 0));(exact pdn_1 nd_law_hits_0 rfl (Or.inl rfl));(exact aCs);(refine pd_all rfl rfl T.b_all ?_;(refine aDv (N':=Nc_law_hits_1) (m:=1) (ks:=[6]) rfl rfl rfl rfl (by repeat (first | exact lk_nil | refine aD1 rfl (by first | exact Or.inl rfl | exact Or.inr rfl) ?_)) rfl rfl rfl rfl rfl ?_ (fun C s₀ H₀ ex=> ?_) (fun C s₀ H₀ ex B=> ?_) (fun C s₀ H₀ ex B=> ?_);(refine pit_D ?_;(exact aAb 5));(exact pdn_1 nd_law_hits_1 rfl (Or.inl rfl));(exact aCs);(refine pd_in ?_ ?_;(exact aAb 6);(exact aAb 3)))))));(exact aAg)))
theorem ok_law_hits (T:Txt K mg t) {k:Nat} {F:List D→M D} (hL: ∀ds r,F ds=some r→ds.length=3) (hq: ∀ds r,F ds=some r→∃d,r= .ok d∧aAz (aEf t (aCo N_law_hits ds))=ok d):Def P w K mg base (k+1) "_law_hits" F:=by
 obtain⟨fd,Fu,bi⟩:=T.aA5
 exact⟨_,_,_,T.g_law_hits,Fu.kp,bi,hL,fn_D Fu sc_law_hits hL fun cdv A outer s H E hr=>⟨_,fun B=>tm_law_hits T hr B,hq⟩⟩
noncomputable def aDl:List Str:=["_law_row"]
noncomputable def Nc_law_rising_0:List Str:=["_law_row","_law_k"]
theorem nd_law_rising_0:Nc_law_rising_0.Nodup:=by decide+kernel
theorem sc_law_rising:aBb aDl ["_law_row"] (aAe aDb):=⟨rfl,rfl,rfl,by decide+kernel,rfl,by decide+kernel,by decide+kernel⟩
noncomputable def aC6 (t:Adr):Rho→Option Out:=
  (aAh (aBy (f1 allD (cmp 1 (itRB (con (.int 1)) (f1 lenD (look 0))) [1] h1 (fun _=>ok true) (b2 gLtU (b2 gIx (look 0) (b2 gSub (look 1) (con (.int 1)))) (b2 gIx (look 0) (look 1))))))
  aAp)
theorem tm_law_rising (T:Txt K mg t) {k:Nat} {cdv:Value} {A:Around} {outer:List Env} {s:Shared} {H:Hp} {E:XK} (hr:aCw k (A.deeper (envOfC "_law_rising" (aAe aDb) s.heap.objs.size t.aDh cdv))) (B:Hp):
  PDB (cxN P w K mg base aDl "_law_rising" (aAe aDb) t.aDh cdv A outer s H E) B (aA2 aDb) (aC6 t):=
 by
 refine aAa ?_ ?_;(refine aAt ?_;(refine pd_all rfl rfl T.b_all ?_;(refine aDv (N':=Nc_law_rising_0) (m:=1) (ks:=[1]) rfl rfl rfl rfl (by repeat (first | exact lk_nil | refine aD1 rfl (by first | exact Or.inl rfl | exact Or.inr rfl) ?_)) rfl rfl rfl rfl rfl ?_ (fun C s₀ H₀ ex=> ?_) (fun C s₀ H₀ ex B=> ?_) (fun C s₀ H₀ ex B=> ?_);(refine pit_rb rfl T.b_range ?_ ?_;(exact aAu);(refine pd_len rfl T.b_len ?_;(exact aAb 0)));(exact pdn_1 nd_law_rising_0 rfl (Or.inl rfl));(exact aCs);(refine pd_ltU hr ?_ ?_;(refine pd_ix ?_ ?_ (fun _ _=>rfl);(exact aAb 0);(refine pd_sub ?_ ?_;(exact aAb 1);(exact aAu)));(refine pd_ix ?_ ?_ (fun _ _=>rfl);(exact aAb 0);(exact aAb 1))))));(exact aAg)
theorem ok_law_rising (T:Txt K mg t) {k:Nat} {F:List D→M D} (hL: ∀ds r,F ds=some r→ds.length=1) (hq: ∀ds r,F ds=some r→∃d,r= .ok d∧aAz (aC6 t (aCo aDl ds))=ok d):Def P w K mg base (k+1) "_law_rising" F:=by
 obtain⟨fd,Fu,bi⟩:=T.aA6
 exact⟨_,_,_,T.g_law_rising,Fu.kp,bi,hL,fn_D Fu sc_law_rising hL fun cdv A outer s H E hr=>⟨_,fun B=>tm_law_rising T hr B,hq⟩⟩
noncomputable def aDm:List Str:=["_law_found","_law_one","_law_other"]
noncomputable def Nc_law_formed_0:List Str:=["?0","?1","_law_other","_law_name_here"]
theorem nd_law_formed_0:Nc_law_formed_0.Nodup:=by decide+kernel
noncomputable def Nc_law_formed_1:List Str:=["?0","?1","?2","_law_name_here"]
theorem nd_law_formed_1:Nc_law_formed_1.Nodup:=by decide+kernel
theorem aDu:aBb aDm ["_law_found"] (aAe aDc):=⟨rfl,rfl,rfl,by decide+kernel,rfl,by decide+kernel,by decide+kernel⟩
noncomputable def aC7 (t:Adr) (aA6:List D→M D):Rho→Option Out:=
  (aAh (sIf (notB (test (isi "tuple" (look 0)))) (aAh (aBy (con (.bl false)))
  aAp) aAp)
  (aAh (aCb 0 (gN 1) (aAh (sIf (orB (notB (test (isi "tuple" (look 1)))) (orB (notB (test (f1 allD (cmp 1 (itE (look 1)) [3] h1 (fun _=>ok true) (isi "str" (look 3)))))) (notB (test (app aA6 (aAc (look 1) aAv)))))) (aAh (aBy (con (.bl false)))
  aAp) aAp)
  aAp))
  (aAh (aCb 0 (gN 1) (aAh (aCb 0 (gN 2) (aAh (sIf (andB (aAy (b2 gNeS (look 1) (look 2))) (test (f1 allD (cmp 1 (itE (look 1)) [3] h1 (fun _=>ok true) (b2 (gIn false) (look 3) (look 2)))))) (aAh (aBy (con (.bl false)))
  aAp) aAp)
  aAp))
  aAp))
  (aAh (aBy (app aA6 (aAc (look 0) aAv)))
  aAp))))
theorem tm_law_formed (T:Txt K mg t) {k:Nat} {aA6:List D→M D} (G_law_rising:Def P w K mg base k "_law_rising" aA6) {cdv:Value} {A:Around} {outer:List Env} {s:Shared} {H:Hp} {E:XK} (hr:aCw k (A.deeper (envOfC "_law_formed" (aAe aDc) s.heap.objs.size t.aDi cdv))) (B:Hp):
  PDB (cxN P w K mg base aDm "_law_formed" (aAe aDc) t.aDi cdv A outer s H E) B (aA2 aDc) (aC7 t aA6):=
 by
 refine aAa ?_ ?_;(refine aCt ?_ ?_ ?_;(refine pdt_not ?_;(refine aDo ?_;(refine aDr (T:="tuple") rfl T.aAq rfl T.aC2 (by decide+kernel) (by decide) ?_;(exact aAb 0))));(refine aAa ?_ ?_;(refine aAt ?_;(exact pd_bl));(exact aAg));(exact aAg));(refine aAa ?_ ?_;(refine aC5 0 rfl (Or.inl rfl) PassesOwn.never rfl (fun B=> ?_) (fun B=> ?_);(exact aBk (i:=1) (aDu).nd rfl (Or.inl rfl));(refine aAa ?_ ?_;(refine aCt ?_ ?_ ?_;(refine PDW.pdt ?_;(refine pdw_or ?_ ?_;(refine pdt_not ?_;(refine aDo ?_;(refine aDr (T:="tuple") rfl T.aAq rfl T.aC2 (by decide+kernel) (by decide) ?_;(exact aAb 1))));(refine pdw_or ?_ ?_;(refine pdt_not ?_;(refine aDo ?_;(refine pd_all rfl rfl T.b_all ?_;(refine aDv (N':=Nc_law_formed_1) (m:=1) (ks:=[3]) rfl rfl rfl rfl (by repeat (first | exact lk_nil | refine aD1 rfl (by first | exact Or.inl rfl | exact Or.inr rfl) ?_)) rfl rfl rfl rfl rfl ?_ (fun C s₀ H₀ ex=> ?_) (fun C s₀ H₀ ex B=> ?_) (fun C s₀ H₀ ex B=> ?_);(refine pit_D ?_;(exact aAb 1));(exact pdn_1 nd_law_formed_1 rfl (Or.inl rfl));(exact aCs);(refine aDr (T:="str") rfl T.aAq rfl T.b_str (by decide+kernel) (by decide) ?_;(exact aAb 3))))));(refine pdw_or1 ?_;(refine pdt_not ?_;(refine aDo ?_;(refine aA1 G_law_rising hr rfl ?_;(refine aAd ?_ ?_;(exact aAb 1);(exact aAl)))))))));(refine aAa ?_ ?_;(refine aAt ?_;(exact pd_bl));(exact aAg));(exact aAg));(exact aAg)));(refine aAa ?_ ?_;(refine aC5 0 rfl (Or.inl rfl) PassesOwn.never rfl (fun B=> ?_) (fun B=> ?_);(exact aBk (i:=1) (aDu).nd rfl (Or.inl rfl));(refine aAa ?_ ?_;(refine aC5 0 rfl (Or.inl rfl) PassesOwn.never rfl (fun B=> ?_) (fun B=> ?_);(exact aBk (i:=2) (aDu).nd rfl (Or.inr rfl));(refine aAa ?_ ?_;(refine aCt ?_ ?_ ?_;(refine PDW.pdt ?_;(refine pdw_and ?_ ?_;(refine pdt_neS hr ?_ ?_;(exact aAb 1);(exact aAb 2));(refine pdw_and1 ?_;(refine aDo ?_;(refine pd_all rfl rfl T.b_all ?_;(refine aDv (N':=Nc_law_formed_0) (m:=1) (ks:=[3]) rfl rfl rfl rfl (by repeat (first | exact lk_nil | refine aD1 rfl (by first | exact Or.inl rfl | exact Or.inr rfl) ?_)) rfl rfl rfl rfl rfl ?_ (fun C s₀ H₀ ex=> ?_) (fun C s₀ H₀ ex B=> ?_) (fun C s₀ H₀ ex B=> ?_);(refine pit_D ?_;(exact aAb 1));(exact pdn_1 nd_law_formed_0 rfl (Or.inl rfl));(exact aCs);(refine pd_in ?_ ?_;(exact aAb 3);(exact aAb 2))))))));(refine aAa ?_ ?_;(refine aAt ?_;(exact pd_bl));(exact aAg));(exact aAg));(exact aAg)));(exact aAg)));(refine aAa ?_ ?_;(refine aAt ?_;(refine aA1 G_law_rising hr rfl ?_;(refine aAd ?_ ?_;(exact aAb 0);(exact aAl))));(exact aAg))))
theorem ok_law_formed (T:Txt K mg t) {k:Nat} {aA6:List D→M D} (G_law_rising:Def P w K mg base k "_law_rising" aA6) {F:List D→M D} (hL: ∀ds r,F ds=some r→ds.length=1) (hq: ∀ds r,F ds=some r→∃d,r= .ok d∧aAz (aC7 t aA6 (aCo aDm ds))=ok d):Def P w K mg base (k+1) "_law_formed" F:=by
 obtain⟨fd,Fu,bi⟩:=T.aBe
 exact⟨_,_,_,T.g_law_formed,Fu.kp,bi,hL,fn_D Fu aDu hL fun cdv A outer s H E hr=>⟨_,fun B=>tm_law_formed T G_law_rising hr B,hq⟩⟩
noncomputable def aD5:List Str:=["_law_cell","_law_names","_law_by","_law_row","_law_size","_law_k"]
theorem aB6:aBb aD5 ["_law_cell","_law_names"] (aAe aD0):=⟨rfl,rfl,rfl,by decide+kernel,rfl,by decide+kernel,by decide+kernel⟩
noncomputable def aDy (t:Adr) (aCi:List D→M D):Rho→Option Out:=
  (aAh (aC3 2 (app aCi (aAc (look 0) aAv)))
  (aAh (sNew 3 aAv)
  (aAh (aC3 4 (b2 gMod (look 2) (con (.int 5))))
  (aAh (aC3 2 (b2 aD8 (look 2) (con (.int 5))))
  (aAh (sForR1 (look 4) (gN 5) (aAh (sOwn lApp 3 (aAc (b2 gIx (look 1) (b2 gMod (look 2) (con (.int 5)))) aAv))
  (aAh (aC3 2 (b2 aD8 (look 2) (con (.int 5))))
  aAp)))
  (aAh (aBy (f1 toT (look 3)))
  aAp))))))
theorem tm_law_tuple (T:Txt K mg t) {k:Nat} {aCi:List D→M D} (G_law_mix:Def P w K mg base k "_law_mix" aCi) {cdv:Value} {A:Around} {outer:List Env} {s:Shared} {H:Hp} {E:XK} (hr:aCw k (A.deeper (envOfC "_law_tuple" (aAe aD0) s.heap.objs.size t.aD2 cdv))) (B:Hp):
  PDB (cxN P w K mg base aD5 "_law_tuple" (aAe aD0) t.aD2 cdv A outer s H E) B (aA2 aD0) (aDy t aCi):=
 by
 refine aAa ?_ ?_;(refine aBg (i:=2) (aB6).nd rfl (Or.inl rfl) ?_;(refine aA1 G_law_mix hr rfl ?_;(refine aAd ?_ ?_;(exact aAb 0);(exact aAl))));(refine aAa ?_ ?_;(refine pds_new (i:=3) (aB6).nd rfl (Or.inl rfl) ?_;(exact aAl));(refine aAa ?_ ?_;(refine aBg (i:=4) (aB6).nd rfl (Or.inl rfl) ?_;(refine pd_mod ?_ ?_;(exact aAb 2);(exact aAu)));(refine aAa ?_ ?_;(refine aBg (i:=2) (aB6).nd rfl (Or.inl rfl) ?_;(refine pd_fdiv ?_ ?_;(exact aAb 2);(exact aAu)));(refine aAa ?_ ?_;(refine pds_forR1 rfl T.b_range PassesOwn.never rfl ?_ (fun B=> ?_) (fun B=> ?_);(exact aAb 4);(exact aBk (i:=5) (aB6).nd rfl (Or.inl rfl));(refine aAa ?_ ?_;(refine pds_append (i:=3) rfl (Or.inl rfl) ?_;(refine pd_ix ?_ ?_ (fun _ _=>rfl);(exact aAb 1);(refine pd_mod ?_ ?_;(exact aAb 2);(exact aAu))));(refine aAa ?_ ?_;(refine aBg (i:=2) (aB6).nd rfl (Or.inl rfl) ?_;(refine pd_fdiv ?_ ?_;(exact aAb 2);(exact aAu)));(exact aAg))));(refine aAa ?_ ?_;(refine aAt ?_;(refine pd_tuple rfl T.aC2 ?_;(exact aAb 3)));(exact aAg))))))
theorem ok_law_tuple (T:Txt K mg t) {k:Nat} {aCi:List D→M D} (G_law_mix:Def P w K mg base k "_law_mix" aCi) {F:List D→M D} (hL: ∀ds r,F ds=some r→ds.length=2) (hq: ∀ds r,F ds=some r→∃d,r= .ok d∧aAz (aDy t aCi (aCo aD5 ds))=ok d):Def P w K mg base (k+1) "_law_tuple" F:=by
 obtain⟨fd,Fu,bi⟩:=T.aBn
 exact⟨_,_,_,T.g_law_tuple,Fu.kp,bi,hL,fn_D Fu aB6 hL fun cdv A outer s H E hr=>⟨_,fun B=>tm_law_tuple T G_law_mix hr B,hq⟩⟩
noncomputable def N_law:List Str:=["_law_script","_law_names","_law_sets","_law_k","_law_handed","_law_one","_law_other","_law_way","_law_plus","_law_times","_law_found","_law_mask","_law_left","_law_right"]
noncomputable def Nc_law_0:List Str:=["_law_script","?1","?2","?3","?4","?5","?6","?7","?8","?9","?10","?11","?12","?13","_law_k"]
theorem nd_law_0:Nc_law_0.Nodup:=by decide+kernel
theorem aEb:aBb N_law ["_law_script"] (aAe s_law):=⟨rfl,rfl,rfl,by decide+kernel,rfl,by decide+kernel,by decide+kernel⟩
noncomputable def den_law (t:Adr) (aC8:List D→M D) (aBe:List D→M D) (aA5:List D→M D) (aB0:List D→M D) (aAw:List D→M D) (aBn:List D→M D) (aAo:List D→M D) (aD7:List D→M (List (Str×D))) (aD6:Addr→Option (List D→M D)) (M_plus:Addr→Option (List D→M D)) (M_times:Addr→Option (List D→M D)):Rho→Option Out:=
  (aAh (aC3 1 (cmp 1 (itR (con (.int 5))) [14] h1 (fun _=>ok true) (app aB0 (aAc (b2 gMod (app aC8 (aAc (look 0) (aAc (con (.int 0)) aAv))) (con (.int 2000))) (aAc (look 14) aAv)))))
  (aAh (sNew2 2)
  (aAh (sForR2 (con (.int 1)) (b2 gMin (con (.int 17)) (f1 lenD (look 0))) (gN 3) (aAh (sIxA 2 (b2 gMod (look 3) (con (.int 2))) (aAc (app aBn (aAc (b2 gIx (look 0) (look 3)) (aAc (look 1) aAv))) aAv))
  aAp))
  (aAh (aC3 4 (mkL (aAc (f1 toL (b2 gIx (look 2) (con (.int 0)))) (aAc (f1 toL (b2 gIx (look 2) (con (.int 1)))) aAv))))
  (aAh (aC3 5 (app aAo (aAc (b2 gIx (look 4) (con (.int 0))) aAv)))
  (aAh (aC3 6 (app aAo (aAc (b2 gIx (look 4) (con (.int 1))) aAv)))
  (aAh (aC3 7 (fun _=>mkO t.aAm aD7 []))
  (aAh (aC3 8 (appM "plus" M_plus (look 7) (aAc (look 5) (aAc (look 6) aAv))))
  (aAh (aC3 9 (appM "times" M_times (look 7) (aAc (look 5) (aAc (look 6) aAv))))
  (aAh (sForX (mkL (aAc (look 5) (aAc (look 6) (aAc (look 8) (aAc (look 9) aAv))))) (gN 10) (aAh (sIf (orB (notB (test (app aBe (aAc (look 10) aAv)))) (notB (test (appM "is_mark" aD6 (look 7) (aAc (look 10) aAv))))) (aAh (aBy (con (.bl false)))
  aAp) aAp)
  aAp))
  (aAh (sForR1 (con (.int 32)) (gN 11) (aAh (aC3 12 (app aA5 (aAc (b2 gIx (look 2) (con (.int 0))) (aAc (look 11) (aAc (look 1) aAv)))))
  (aAh (aC3 13 (app aA5 (aAc (b2 gIx (look 2) (con (.int 1))) (aAc (look 11) (aAc (look 1) aAv)))))
  (aAh (sIf (orB (aAy (b2 gNe (app aA5 (aAc (look 5) (aAc (look 11) (aAc (look 1) aAv)))) (look 12))) (aAy (b2 gNe (app aA5 (aAc (look 6) (aAc (look 11) (aAc (look 1) aAv)))) (look 13)))) (aAh (aBy (con (.bl false)))
  aAp) aAp)
  (aAh (sIf (orB (aAy (b2 gNe (app aA5 (aAc (look 8) (aAc (look 11) (aAc (look 1) aAv)))) (orV (look 12) (look 13)))) (aAy (b2 gNe (app aA5 (aAc (look 9) (aAc (look 11) (aAc (look 1) aAv)))) (andV (look 12) (look 13))))) (aAh (aBy (con (.bl false)))
  aAp) aAp)
  aAp)))))
  (aAh (aBy (andV (app aAw (aAc (mkT (aAc (fld (cs t) "nought" (look 7)) (aAc (fld (cs t) "one" (look 7)) aAv))) (aAc (mkT (aAc (mkT aAv) (aAc (mkT (aAc (mkT aAv) aAv)) aAv))) aAv))) (app aAw (aAc (look 4) (aAc (look 2) aAv)))))
  aAp))))))))))))
theorem tm_law (T:Txt K mg t) {k k':Nat} (hk:k'+1≤k) {aC8:List D→M D} (G_law_at:Def P w K mg base k "_law_at" aC8) {aBe:List D→M D} (G_law_formed:Def P w K mg base k "_law_formed" aBe) {aA5:List D→M D} (aCn:Def P w K mg base k "_law_hits" aA5) {aB0:List D→M D} (G_law_name:Def P w K mg base k "_law_name" aB0) {aAw:List D→M D} (aCm:Def P w K mg base k "_law_same" aAw) {aBn:List D→M D} (G_law_tuple:Def P w K mg base k "_law_tuple" aBn) {aAo:List D→M D} (aBi:Def P w K mg base k "least_of" aAo) {aD7:List D→M (List (Str×D))} (G_Reasons:Ctor P w K mg base k' "Reasons" t.aAm aD7) {aD6:Addr→Option (List D→M D)} (GM_is_mark: ∀C F,aD6 C=some F→Mth P w K mg base k C "is_mark" F) {M_plus:Addr→Option (List D→M D)} (GM_plus: ∀C F,M_plus C=some F→Mth P w K mg base k C "plus" F) {M_times:Addr→Option (List D→M D)} (GM_times: ∀C F,M_times C=some F→Mth P w K mg base k C "times" F) {cdv:Value} {A:Around} {outer:List Env} {s:Shared} {H:Hp} {E:XK} (hr:aCw k (A.deeper (envOfC "law" (aAe s_law) s.heap.objs.size t.f_law cdv))) (B:Hp):
  PDB (cxN P w K mg base N_law "law" (aAe s_law) t.f_law cdv A outer s H E) B (aA2 s_law) (den_law t aC8 aBe aA5 aB0 aAw aBn aAo aD7 aD6 M_plus M_times):=
 by
 have hr':=hr.mono hk
 refine aAa ?_ ?_;(refine pds_comp1 (i:=1) (aEb).nd rfl (Or.inl rfl) (N':=Nc_law_0) (m:=1) (ks:=[14]) rfl rfl rfl rfl (by repeat (first | exact lk_nil | refine aD1 rfl (by first | exact Or.inl rfl | exact Or.inr rfl) ?_)) rfl rfl rfl rfl rfl ?_ (fun C s₀ H₀ ex=> ?_) (fun C s₀ H₀ ex B=> ?_) (fun C s₀ H₀ ex B=> ?_);(refine pit_r1 rfl T.b_range ?_;(exact aAu));(exact pdn_1 nd_law_0 rfl (Or.inl rfl));(exact aCs);(refine aA1 G_law_name hr rfl ?_;(refine aAd ?_ ?_;(refine pd_mod ?_ ?_;(refine aA1 G_law_at hr rfl ?_;(refine aAd ?_ ?_;(exact aAb 0);(refine aAd ?_ ?_;(exact aAu);(exact aAl))));(exact aAu));(refine aAd ?_ ?_;(exact aAb 14);(exact aAl)))));(refine aAa ?_ ?_;(exact pds_new2 (i:=2) (aEb).nd rfl (Or.inl rfl));(refine aAa ?_ ?_;(refine pds_forR2 rfl T.b_range PassesOwn.never rfl ?_ ?_ (fun B=> ?_) (fun B=> ?_);(exact aAu);(refine pd_min2 rfl rfl T.b_min ?_ ?_;(exact aAu);(refine pd_len rfl T.b_len ?_;(exact aAb 0)));(exact aBk (i:=3) (aEb).nd rfl (Or.inl rfl));(refine aAa ?_ ?_;(refine pds_ixA (i:=2) rfl (Or.inl rfl) ?_ ?_ (fun _ _=>rfl);(refine pd_mod ?_ ?_;(exact aAb 3);(exact aAu));(refine aA1 G_law_tuple hr rfl ?_;(refine aAd ?_ ?_;(refine pd_ix ?_ ?_ (fun _ _=>rfl);(exact aAb 0);(exact aAb 3));(refine aAd ?_ ?_;(exact aAb 1);(exact aAl)))));(exact aAg)));(refine aAa ?_ ?_;(refine aBg (i:=4) (aEb).nd rfl (Or.inl rfl) ?_;(refine pd_lst ?_;(refine aAd ?_ ?_;(refine pd_list rfl T.b_list ?_;(refine pd_ix ?_ ?_ (fun _ _=>rfl);(exact aAb 2);(exact aAu)));(refine aAd ?_ ?_;(refine pd_list rfl T.b_list ?_;(refine pd_ix ?_ ?_ (fun _ _=>rfl);(exact aAb 2);(exact aAu)));(exact aAl)))));(refine aAa ?_ ?_;(refine aBg (i:=5) (aEb).nd rfl (Or.inl rfl) ?_;(refine aA1 aBi hr rfl ?_;(refine aAd ?_ ?_;(refine pd_ix ?_ ?_ (fun _ _=>rfl);(exact aAb 4);(exact aAu));(exact aAl))));(refine aAa ?_ ?_;(refine aBg (i:=6) (aEb).nd rfl (Or.inl rfl) ?_;(refine aA1 aBi hr rfl ?_;(refine aAd ?_ ?_;(refine pd_ix ?_ ?_ (fun _ _=>rfl);(exact aAb 4);(exact aAu));(exact aAl))));(refine aAa ?_ ?_;(refine aBg (i:=7) (aEb).nd rfl (Or.inl rfl) ?_;(exact pd_make0 G_Reasons hr' rfl));(refine aAa ?_ ?_;(refine aBg (i:=8) (aEb).nd rfl (Or.inl rfl) ?_;(refine pd_meth GM_plus hr ?_ ?_;(exact aAb 7);(refine aAd ?_ ?_;(exact aAb 5);(refine aAd ?_ ?_;(exact aAb 6);(exact aAl)))));(refine aAa ?_ ?_;(refine aBg (i:=9) (aEb).nd rfl (Or.inl rfl) ?_;(refine pd_meth GM_times hr ?_ ?_;(exact aAb 7);(refine aAd ?_ ?_;(exact aAb 5);(refine aAd ?_ ?_;(exact aAb 6);(exact aAl)))));(refine aAa ?_ ?_;(refine pds_forX PassesOwn.never rfl ?_ (fun B=> ?_) (fun B=> ?_);(refine pd_lst ?_;(refine aAd ?_ ?_;(exact aAb 5);(refine aAd ?_ ?_;(exact aAb 6);(refine aAd ?_ ?_;(exact aAb 8);(refine aAd ?_ ?_;(exact aAb 9);(exact aAl))))));(exact aBk (i:=10) (aEb).nd rfl (Or.inl rfl));(refine aAa ?_ ?_;(refine aCt ?_ ?_ ?_;(refine PDW.pdt ?_;(refine pdw_or ?_ ?_;(refine pdt_not ?_;(refine aDo ?_;(refine aA1 G_law_formed hr rfl ?_;(refine aAd ?_ ?_;(exact aAb 10);(exact aAl)))));(refine pdw_or1 ?_;(refine pdt_not ?_;(refine aDo ?_;(refine pd_meth GM_is_mark hr ?_ ?_;(exact aAb 7);(refine aAd ?_ ?_;(exact aAb 10);(exact aAl))))))));(refine aAa ?_ ?_;(refine aAt ?_;(exact pd_bl));(exact aAg));(exact aAg));(exact aAg)));(refine aAa ?_ ?_;(refine pds_forR1 rfl T.b_range PassesOwn.never rfl ?_ (fun B=> ?_) (fun B=> ?_);(exact aAu);(exact aBk (i:=11) (aEb).nd rfl (Or.inl rfl));(refine aAa ?_ ?_;(refine aBg (i:=12) (aEb).nd rfl (Or.inl rfl) ?_;(refine aA1 aCn hr rfl ?_;(refine aAd ?_ ?_;(refine pd_ix ?_ ?_ (fun _ _=>rfl);(exact aAb 2);(exact aAu));(refine aAd ?_ ?_;(exact aAb 11);(refine aAd ?_ ?_;(exact aAb 1);(exact aAl))))));(refine aAa ?_ ?_;(refine aBg (i:=13) (aEb).nd rfl (Or.inl rfl) ?_;(refine aA1 aCn hr rfl ?_;(refine aAd ?_ ?_;(refine pd_ix ?_ ?_ (fun _ _=>rfl);(exact aAb 2);(exact aAu));(refine aAd ?_ ?_;(exact aAb 11);(refine aAd ?_ ?_;(exact aAb 1);(exact aAl))))));(refine aAa ?_ ?_;(refine aCt ?_ ?_ ?_;(refine PDW.pdt ?_;(refine pdw_or ?_ ?_;(refine pdt_ne ?_ ?_;(refine aA1 aCn hr rfl ?_;(refine aAd ?_ ?_;(exact aAb 5);(refine aAd ?_ ?_;(exact aAb 11);(refine aAd ?_ ?_;(exact aAb 1);(exact aAl)))));(exact aAb 12));(refine pdw_or1 ?_;(refine pdt_ne ?_ ?_;(refine aA1 aCn hr rfl ?_;(refine aAd ?_ ?_;(exact aAb 6);(refine aAd ?_ ?_;(exact aAb 11);(refine aAd ?_ ?_;(exact aAb 1);(exact aAl)))));(exact aAb 13)))));(refine aAa ?_ ?_;(refine aAt ?_;(exact pd_bl));(exact aAg));(exact aAg));(refine aAa ?_ ?_;(refine aCt ?_ ?_ ?_;(refine PDW.pdt ?_;(refine pdw_or ?_ ?_;(refine pdt_ne ?_ ?_;(refine aA1 aCn hr rfl ?_;(refine aAd ?_ ?_;(exact aAb 8);(refine aAd ?_ ?_;(exact aAb 11);(refine aAd ?_ ?_;(exact aAb 1);(exact aAl)))));(refine pd_or ?_ ?_;(exact aAb 12);(refine pd_one ?_;(exact aAb 13))));(refine pdw_or1 ?_;(refine pdt_ne ?_ ?_;(refine aA1 aCn hr rfl ?_;(refine aAd ?_ ?_;(exact aAb 9);(refine aAd ?_ ?_;(exact aAb 11);(refine aAd ?_ ?_;(exact aAb 1);(exact aAl)))));(refine pd_and ?_ ?_;(exact aAb 12);(refine pd_one ?_;(exact aAb 13)))))));(refine aAa ?_ ?_;(refine aAt ?_;(exact pd_bl));(exact aAg));(exact aAg));(exact aAg))))));(refine aAa ?_ ?_;(refine aAt ?_;(refine pd_and ?_ ?_;(refine aA1 aCm hr rfl ?_;(refine aAd ?_ ?_;(refine pd_tup ?_;(refine aAd ?_ ?_;(refine pd_fld (f:="nought") (T.nf_nought) ?_;(exact aAb 7));(refine aAd ?_ ?_;(refine pd_fld (f:="one") (T.nf_one) ?_;(exact aAb 7));(exact aAl))));(refine aAd ?_ ?_;(refine pd_tup ?_;(refine aAd ?_ ?_;(refine pd_tup ?_;(exact aAl));(refine aAd ?_ ?_;(refine pd_tup ?_;(refine aAd ?_ ?_;(refine pd_tup ?_;(exact aAl));(exact aAl)));(exact aAl))));(exact aAl))));(refine pd_one ?_;(refine aA1 aCm hr rfl ?_;(refine aAd ?_ ?_;(exact aAb 4);(refine aAd ?_ ?_;(exact aAb 2);(exact aAl)))))));(exact aAg))))))))))))
theorem fnd_law (T:Txt K mg t) {fd:FuncData} (Fu:Fun K "law" "law" s_law t.f_law fd) {k k':Nat} (hk:k'+1≤k) {aC8:List D→M D} (G_law_at:Def P w K mg base k "_law_at" aC8) {aBe:List D→M D} (G_law_formed:Def P w K mg base k "_law_formed" aBe) {aA5:List D→M D} (aCn:Def P w K mg base k "_law_hits" aA5) {aB0:List D→M D} (G_law_name:Def P w K mg base k "_law_name" aB0) {aAw:List D→M D} (aCm:Def P w K mg base k "_law_same" aAw) {aBn:List D→M D} (G_law_tuple:Def P w K mg base k "_law_tuple" aBn) {aAo:List D→M D} (aBi:Def P w K mg base k "least_of" aAo) {aD7:List D→M (List (Str×D))} (G_Reasons:Ctor P w K mg base k' "Reasons" t.aAm aD7) {aD6:Addr→Option (List D→M D)} (GM_is_mark: ∀C F,aD6 C=some F→Mth P w K mg base k C "is_mark" F) {M_plus:Addr→Option (List D→M D)} (GM_plus: ∀C F,M_plus C=some F→Mth P w K mg base k C "plus" F) {M_times:Addr→Option (List D→M D)} (GM_times: ∀C F,M_times C=some F→Mth P w K mg base k C "times" F) {F:List D→M D} (hL: ∀ds r,F ds=some r→ds.length=1) (hq: ∀ds r,F ds=some r→∃d,r= .ok d∧aAz (den_law t aC8 aBe aA5 aB0 aAw aBn aAo aD7 aD6 M_plus M_times (aCo N_law ds))=ok d):FnD P w K mg base (k+1) t.f_law fd ["_law_script"] F:=
 fn_D Fu aEb hL fun cdv A outer s H E hr=>⟨_,fun B=>tm_law T hk G_law_at G_law_formed aCn G_law_name aCm G_law_tuple aBi G_Reasons GM_is_mark GM_plus GM_times hr B,hq⟩
end
noncomputable def fTexts (t:Adr):List D→M D:=viaD 1 fun ds=>aAz (aEg t (aCo N_is_texts ds))
noncomputable def fHas (t:Adr):List D→M D:=viaD 2 fun ds=>aAz (den_has_within t (aCo N_has_within ds))
noncomputable def fLB (t:Adr):List D→M D:=viaD 1 fun ds=>aAz (den_least_bits t (fHas t) (aCo N_least_bits ds))
noncomputable def fBits (t:Adr):List D→M D:=viaD 2 fun ds=>aAz (den_bits_of t (aCo N_bits_of ds))
noncomputable def fNums (t:Adr):List D→M D:=viaD 1 fun ds=>aAz (den_numbers_of t (aCo N_numbers_of ds))
noncomputable def fLO (t:Adr):List D→M D:=viaD 1 fun ds=>aAz (den_least_of t (fBits t) (fLB t) (fNums t) (aCo N_least_of ds))
noncomputable def fUn (t:Adr):List D→M D:=viaD 1 fun ds=>aAz (den_union_of t (aCo N_union_of ds))
noncomputable def fPlus (t:Adr):List D→M D:=viaD 3 fun ds=>aAz (aCj t (fLO t) (aCo aCh ds))
noncomputable def fTimes (t:Adr):List D→M D:=viaD 3 fun ds=>aAz (aC1 t (fBits t) (fLB t) (fNums t) (fUn t) (aCo aCv ds))
noncomputable def fMark (t:Adr):List D→M D:=viaD 2 fun ds=>aAz (aBv t (fTexts t) (fLO t) (aCo aBt ds))
theorem fns (t:Adr):FnsOk (fBits t) (fLB t) (fNums t) where
 b:=fun ks xs hk hx=>aCp rfl (bits_sp hk hx)
 l:=fun ns hl hb=>by
  obtain⟨L,h1,h2⟩:=lb_sp (F:=fHas t) (fun kp one hk ho=>aCp rfl (has_sp hk ho)) hl hb
  exact⟨L,h1,aCp rfl h2⟩
 n:=fun d S hd hl=>aCp rfl (nums_sp hd hl)
structure Rows (nm:List Str) (S:List (List Str)):Prop where
 len:S.length≤64
 row: ∀xs∈S,xs.length≤10
 mem: ∀xs∈S,∀x∈xs,x∈nm
theorem Rows.flat {nm:List Str} {S:List (List Str)} (h:Rows nm S):S.flatten.length≤10*S.length:=by
 have: ∀l:List (List Str),(∀xs∈l,xs.length≤10)→l.flatten.length≤10*l.length:=by
  intro l
  induction l with
  | nil=>intro _;exact Nat.le_refl _
  | cons x l ih=>
   intro h
   have h1:=ih fun xs hx=>h xs (List.mem_cons_of_mem _ hx)
   have h2:=h x List.mem_cons_self
   rw[List.flatten_cons,List.length_append,List.length_cons]
   omega
 exact this S h.row
theorem Rows.few {nm:List Str} {S:List (List Str)} (hn:nm.length=5) (h:Rows nm S):(nmsS S).length≤5:=by
 have:=aDw (aCl S.flatten) (m:=nm) fun x hx=>by
  rw[←List.contains_iff_mem,metS_has,List.contains_iff_mem] at hx
  obtain⟨xs,h1,h2⟩:=List.mem_flatten.mp hx
  exact h.mem xs h1 x h2
 show (aDp S.flatten).length≤5
 omega
theorem rows_of {nm:List Str} (hn:nm.length=5) {P:List Str→Prop} {R:List (List Str)} (h:aCd P R) (hP: ∀xs,P xs→∀x∈xs,x∈nm) (hl:R.length≤32):Rows nm R where
 len:=by omega
 row:=fun xs hx=>by
  obtain⟨h1,ys,h2,h3⟩:=h.frm xs hx
  have:=aDw (rise_nodup h1) (m:=nm) fun z hz=>hP ys h2 z ((h3 z).mp hz)
  omega
 mem:=fun xs hx x hxx=>by
  obtain⟨h1,ys,h2,h3⟩:=h.frm xs hx
  exact hP ys h2 x ((h3 x).mp hxx)
noncomputable abbrev tR (R:List (List Str)):D:= .tup (R.map tS)
theorem Rows.app {nm:List Str} {a b:List (List Str)} (ha:Rows nm a) (hb:Rows nm b) (h:a.length+b.length≤64):Rows nm (a++b) where
 len:=by rw[List.length_append];exact h
 row:=fun xs hx=>(List.mem_append.mp hx).elim (ha.row xs) (hb.row xs)
 mem:=fun xs hx=>(List.mem_append.mp hx).elim (ha.mem xs) (hb.mem xs)
theorem lo_of (t:Adr) {nm:List Str} (hn:nm.length=5) {S:List (List Str)} (h:Rows nm S): ∃R,aCd (· ∈S) R∧R.length≤32∧R.length≤S.length∧Rows nm R∧fLO t [.lst (S.map tS)]=ok (tR R):=by
 have h1:=h.flat
 have h2:=h.len
 obtain⟨R,r1,r2,r3,r4⟩:=lo_sp (fns t) (d:= .lst (S.map tS)) (S:=S) rfl (by omega) (by omega) (h.few hn)
 exact⟨R,r1,r2,r3,rows_of hn r1 h.mem r2,aCp rfl r4⟩
theorem imm_tR (R:List (List Str)):(tR R).imm=true:=immL_tups R
noncomputable def oR (t:Adr):D:= .obj t.aAm [("nought",.tup []),("one",.tup [.tup []])]
theorem csR (t:Adr):cs t t.aAm=true:=by simp[cs]
theorem plus_of (t:Adr) {nm:List Str} (hn:nm.length=5) {a b:List (List Str)} (ha:Rows nm a) (hb:Rows nm b) (hl:a.length+b.length≤64): ∃R,aCd (· ∈a++b) R∧R.length≤32∧Rows nm R∧fPlus t [oR t,tR a,tR b]=ok (tR R):=by
 obtain⟨R,r1,r2,r3,r4,r5⟩:=lo_of t hn (ha.app hb hl)
 refine⟨R,r1,r2,r4,aCp rfl ?_⟩
 have e0:aCo aCh [oR t,tR a,tR b]=[some (.sh (oR t)),some (.sh (tR a)),some (.sh (tR b))]:=rfl
 rw[e0]
 unfold aCj
 have g0:b2 aC0 (look 1) (look 2) [some (.sh (oR t)),some (.sh (tR a)),some (.sh (tR b))]=ok (.tup ((a++b).map tS)):=by
  refine aCy (x:=tR a) (y:=tR b) rfl rfl ?_
  show (if (a.map tS).length+(b.map tS).length≤100000 then ok (D.tup (a.map tS++b.map tS)) else none)=_
  rw[if_pos (by rw[List.length_map,List.length_map];omega),List.map_append]
 rw[aB2 (aCz ((aB5 (aAj (f1_ok (g:=toL) g0 rfl) aA0)).trans r5))]
 rfl
theorem times_of (t:Adr) {nm:List Str} (hn:nm.length=5) {a b:List (List Str)} (ha:Rows nm a) (hb:Rows nm b) (hl:a.length*b.length≤1000) (hab:a.length+b.length≤64): ∃R,aCd (fun xs=> ∃x∈a,∃y∈b,xs=x++y) R∧R.length≤32∧Rows nm R∧fTimes t [oR t,tR a,tR b]=ok (tR R):=by
 have hr:=ha.app hb hab
 have h1:=hr.flat
 have h2:=hr.len
 obtain⟨R,r1,r2,r3⟩:=ti_sp (fns t) (FU:=fUn t) (fun ks p h1 h2 h3 h4=>aCp rfl (un_sp h1 h2 h3 h4)) (o:=oR t) (a:=a) (b:=b) hl (by have:=ha.len;omega) (by have:=hb.len;omega) (by omega) (hr.few hn)
 refine⟨R,r1,r2,rows_of hn r1 (fun xs ⟨x,hx,y,hy,e⟩ z hz=> ?_) r2,aCp rfl r3⟩
 rw[e] at hz
 exact (List.mem_append.mp hz).elim (ha.mem x hx z) (hb.mem y hy z)
theorem bl_const {α:Type} (l:List α):blL (l.map fun _=>D.bl true)=some (l.map fun _=>true):=by
 induction l with
 | nil=>rfl
 | cons x l ih=>
  show (match blL (l.map fun _=>D.bl true) with | some bs=>some (true::bs) | none=>none)=_
  rw[ih]
  rfl
theorem all_const {α:Type} (l:List α):allD (.lst (l.map fun _=>D.bl true))=ok (.bl true):=by
 show (match blL (l.map fun _=>D.bl true) with | some bs=>ok (D.bl (bs.all id)) | none=>none)=_
 rw[bl_const]
 show ok (D.bl _)=_
 congr 2
 rw[List.all_eq_true]
 intro b hb
 obtain⟨_,_,rfl⟩:=List.mem_map.mp hb
 rfl
theorem texts_sp (t:Adr) {xs:List Str} (h:xs.length≤1000):fTexts t [tS xs]=ok (.bl true):=by
 refine aCp rfl ?_
 have e0:aCo N_is_texts [tS xs]=[some (.sh (tS xs))]:=rfl
 rw[e0]
 unfold aEg
 have c:=aD4 (m:=1) (k:=1) (it:=itE (look 0)) (fe:=isi "str" (look 1)) (ρ:=[some (.sh (tS xs))]) (l:=xs) (e:=D.str) (g:=fun _=>D.bl true) rfl h fun x _=>⟨rfl,rfl⟩
 have a:f1 allD (cmp 1 (itE (look 0)) [1] h1 (fun _=>ok true) (isi "str" (look 1))) [some (.sh (tS xs))]=ok (.bl true):=f1_ok c (all_const xs)
 have b:andV (isi "tuple" (look 0)) (f1 allD (cmp 1 (itE (look 0)) [1] h1 (fun _=>ok true) (isi "str" (look 1)))) [some (.sh (tS xs))]=ok (.bl true):=by
  unfold andV
  rw[show isi "tuple" (look 0) [some (.sh (tS xs))]=ok (.bl true) from rfl]
  exact a
 rw[aB2 (aCz b)]
 rfl
theorem mark_of (t:Adr) {nm:List Str} (hn:nm.length=5) {P:List Str→Prop} {R:List (List Str)} (hR:Rows nm R) (h:aCd P R):fMark t [oR t,tR R]=ok (.bl true):=by
 refine aCp rfl ?_
 have e0:aCo aBt [oR t,tR R]=[some (.sh (oR t)),some (.sh (tR R))]:=rfl
 rw[e0]
 unfold aBv
 have c:=aD4 (m:=1) (k:=2) (it:=itE (look 1)) (fe:=app (fTexts t) (aAc (look 2) aAv)) (ρ:=[some (.sh (oR t)),some (.sh (tR R))]) (l:=R) (e:=tS) (g:=fun _=>D.bl true) rfl (by have:=hR.len;omega) fun x hx=>⟨(aB5 (aAj (d:=tS x) rfl aA0)).trans (texts_sp t (by have:=hR.row x hx;omega)),rfl⟩
 have a:test (f1 allD (cmp 1 (itE (look 1)) [2] h1 (fun _=>ok true) (app (fTexts t) (aAc (look 2) aAv)))) [some (.sh (oR t)),some (.sh (tR R))]=ok true:=test_ok (f1_ok c (all_const R)) rfl
 have b:test (isi "tuple" (look 1)) [some (.sh (oR t)),some (.sh (tR R))]=ok true:=test_ok (d:= .bl true) rfl rfl
 rw[aAf ((sIf_f (orB_ok (notB_ok b) (notB_ok a))).trans rfl)]
 obtain⟨R',r1,r2,r3,r4,r5⟩:=lo_of t hn hR
 have e:=h.self r1
 subst e
 have g:b2 gEqTT (app (fLO t) (aAc (f1 toL (look 1)) aAv)) (look 1) [some (.sh (oR t)),some (.sh (tR R'))]=ok (.bl true):=by
  refine aCy (x:=tR R') (y:=tR R') ((aB5 (aAj (f:=f1 toL (look 1)) (d:= .lst (R'.map tS)) rfl aA0)).trans r5) rfl ?_
  show (match tupsL (R'.map tS),tupsL (R'.map tS) with | some x,some y=>ok (D.bl (decide (x=y))) | _,_=>none)=_
  rw[tupsL_map]
  show ok (D.bl (decide (R'=R')))=_
  rw[decide_eq_true rfl]
 rw[aB2 (aCz g)]
 rfl
noncomputable def iR:List D→M (List (Str×D))
 | []=>ok [("nought",.tup []),("one",.tup [.tup []])]
 | _=>none
theorem iR_den (t:Adr): ∀ds r a dx,iR ds=some r→∃fs,r= .ok fs∧iniRes a t.aAm dx (aBq t (rhoI aBm a t.aAm dx ds))=ok fs:=by
 intro ds r a dx h
 unfold iR at h
 split at h
 ·cases h
  refine⟨_,rfl,?_⟩
  have e0:rhoI aBm a t.aAm dx []=[some (.oin a t.aAm dx [])]:=rfl
  rw[e0]
  have n1:(Str.ofString "nought":Str)≠Str.ofString "one":=by decide+kernel
  simp[aBq,aAh,sFldN,sFldI,mkT,aAc,aAv,look,SV.cur,con,bnd,ok,lft,D.imm,immL,L2.PU.putAt,csR,putD,aAp,iniRes,n1]
 ·cases h
noncomputable abbrev lS (xs:List Str):D:= .lst (xs.map D.str)
theorem own_app {ρ ρ':Rho} {i:Nat} {g:Rho→M D} {acc:List D} {d:D} (h1:ρ[i]? =some (some (.own acc))) (hg:g ρ=ok d) (hd:d.imm=true) (hl:acc.length<1000) (e:ρ.set i (some (.own (acc++ [d])))=ρ'):sOwn lApp i (aAc g aAv) ρ=some (.nx ρ'):=by
 unfold sOwn
 rw[h1]
 show lft _ _ _=_
 rw[aAj hg aA0]
 show (if immL [d]=true∧acc.length<100000 then (match lApp acc [d] with | some ds'=>some (Out.nx (ρ.set i (some (.own ds')))) | none=>none) else none)=_
 have hi:immL [d]=true:=by
  show (d.imm&&true)=true
  rw[hd];rfl
 rw[if_pos ⟨hi,by omega⟩,←e]
 rfl
noncomputable def th:Int→List Str→List Str
 | _,[]=> []
 | m,n::ns=>(if m%2=1 then [n] else [])++th (m/2) ns
noncomputable def hit (S:List (List Str)) (T:List Str):Bool:=S.any fun xs=>xs.all fun x=>T.contains x
theorem hit_iff {S:List (List Str)} {T:List Str}:hit S T=true↔∃xs,xs∈S∧∀z∈xs,z∈T:=by
 unfold hit
 rw[List.any_eq_true]
 refine exists_congr fun xs=>and_congr_right fun _=> ?_
 rw[List.all_eq_true]
 exact forall_congr' fun z=>forall_congr' fun _=>List.contains_iff_mem
theorem hit_least {P:List Str→Prop} {R:List (List Str)} (h:aCd P R) (T:List Str):hit R T=true↔∃xs,P xs∧∀z∈xs,z∈T:=by
 rw[hit_iff]
 constructor
 ·rintro⟨r,hr,hz⟩
  obtain⟨_,xs,p,e⟩:=h.frm r hr
  exact⟨xs,p,fun z q=>hz z ((e z).mpr q)⟩
 ·rintro⟨xs,p,hz⟩
  obtain⟨r,hr,e⟩:=h.cov xs p
  exact⟨r,hr,fun z q=>hz z (e z q)⟩
theorem hit_of {S R:List (List Str)} (h:aCd (· ∈S) R) (T:List Str):hit R T=hit S T:=by
 rw[Bool.eq_iff_iff,hit_least h,hit_iff]
theorem hit_plus {a b R:List (List Str)} (h:aCd (· ∈a++b) R) (T:List Str):hit R T=(hit a T || hit b T):=by
 rw[hit_of h]
 unfold hit
 rw[List.any_append]
theorem hit_times {a b R:List (List Str)} (h:aCd (fun xs=> ∃x∈a,∃y∈b,xs=x++y) R) (T:List Str):hit R T=(hit a T&&hit b T):=by
 rw[Bool.eq_iff_iff,hit_least h,Bool.and_eq_true,hit_iff,hit_iff]
 constructor
 ·rintro⟨_,⟨x,hx,y,hy,rfl⟩,hz⟩
  exact⟨⟨x,hx,fun z q=>hz z (List.mem_append_left _ q)⟩,⟨y,hy,fun z q=>hz z (List.mem_append_right _ q)⟩⟩
 ·rintro⟨⟨x,hx,h1⟩,⟨y,hy,h2⟩⟩
  exact⟨x++y,⟨x,hx,y,hy,rfl⟩,fun z q=>(List.mem_append.mp q).elim (h1 z) (h2 z)⟩
noncomputable def fHits (t:Adr):List D→M D:=viaD 3 fun ds=>aAz (aEf t (aCo N_law_hits ds))
noncomputable def bodyH:Rho→Option Out:=(aAh (sIf (aAy (b2 gEq (b2 gMod (look 1) (con (.int 2))) (con (.int 1)))) (aAh (sOwn lApp 3 (aAc (look 4) aAv))
  aAp) aAp)
  (aAh (aC3 1 (b2 aD8 (look 1) (con (.int 2))))
  aAp))
theorem hits_loop {s0 s2:Option SV}: ∀(ns acc:List Str) (m:Int) (s4:Option SV),acc.length+ns.length≤1000→∃m' s4',loop (gN 4) bodyH (ns.map D.str) [s0,some (.sh (.int m)),s2,some (.own (acc.map D.str)),s4]=some (.nx [s0,some (.sh (.int m')),s2,some (.own ((acc++th m ns).map D.str)),s4']):=by
 intro ns
 induction ns with
 | nil=>intro acc m s4 _;exact⟨m,s4,by show _=some (Out.nx [s0,_,s2,some (.own ((acc++ []).map D.str)),s4]);rw[List.append_nil];rfl⟩
 | cons n ns ih=>
  intro acc m s4 hl
  rw[List.length_cons] at hl
  have e:bodyH [s0,some (.sh (.int m)),s2,some (.own (acc.map D.str)),some (.sh (.str n))]=some (.nx [s0,some (.sh (.int (m/2))),s2,some (.own ((acc++if m%2=1 then [n] else []).map D.str)),some (.sh (.str n))]):=by
   unfold bodyH
   have ht:aAy (b2 gEq (b2 gMod (look 1) (con (.int 2))) (con (.int 1))) [s0,some (.sh (.int m)),s2,some (.own (acc.map D.str)),some (.sh (.str n))]=ok (decide (m%2=1)):=testB_ok (eqi_ok (mod_ok (i:=m) (j:=2) rfl rfl (by decide)) rfl)
   by_cases h:m%2=1
   ·rw[decide_eq_true h] at ht
    have s1:sIf (aAy (b2 gEq (b2 gMod (look 1) (con (.int 2))) (con (.int 1)))) (aAh (sOwn lApp 3 (aAc (look 4) aAv)) aAp) aAp [s0,some (.sh (.int m)),s2,some (.own (acc.map D.str)),some (.sh (.str n))]=some (.nx [s0,some (.sh (.int m)),s2,some (.own ((acc++ [n]).map D.str)),some (.sh (.str n))]):=by
     rw[sIf_t ht,aAf (own_app (i:=3) (acc:=acc.map D.str) (g:=look 4) (d:= .str n) rfl rfl rfl (by rw[List.length_map];omega) rfl),List.map_append]
     rfl
    rw[aAf s1,if_pos h,aAf (aBp (fdiv_ok (i:=m) (j:=2) rfl rfl (by decide) (by decide)) rfl)]
    rfl
   ·rw[decide_eq_false h] at ht
    rw[aAf ((sIf_f ht).trans rfl),if_neg h,List.append_nil]
    show aAh _ _ [s0,some (.sh (.int m)),s2,some (.own (acc.map D.str)),some (.sh (.str n))]=_
    rw[aAf (aBp (fdiv_ok (i:=m) (j:=2) rfl rfl (by decide) (by decide)) rfl)]
    rfl
  obtain⟨m',s4',h'⟩:=ih (acc++if m%2=1 then [n] else []) (m/2) (some (.sh (.str n))) (by rw[List.length_append];split<;>simp<;>omega)
  refine⟨m',s4',?_⟩
  rw[List.map_cons]
  refine (aDe (ρ1:=[s0,some (.sh (.int m)),s2,some (.own (acc.map D.str)),some (.sh (.str n))]) rfl e).trans ?_
  rw[h',List.append_assoc]
  rfl
theorem in_lS (x:Str) (h:List Str):gIn false (.str x) (lS h)=ok (.bl (h.contains x)):=in_tS false x h
theorem blL_map {α:Type} (f:α→Bool) (l:List α):blL (l.map fun x=>D.bl (f x))=some (l.map f):=by
 induction l with
 | nil=>rfl
 | cons x l ih=>
  show (match blL (l.map fun x=>D.bl (f x)) with | some bs=>some (f x::bs) | none=>none)=_
  rw[ih]
  rfl
theorem allD_map {α:Type} (f:α→Bool) (l:List α):allD (.lst (l.map fun x=>D.bl (f x)))=ok (.bl (l.all f)):=by
 show (match blL (l.map fun x=>D.bl (f x)) with | some bs=>ok (D.bl (bs.all id)) | none=>none)=_
 rw[blL_map]
 show ok (D.bl ((l.map f).all id))=_
 rw[List.all_map]
 rfl
theorem anyD_map {α:Type} (f:α→Bool) (l:List α):anyD (.lst (l.map fun x=>D.bl (f x)))=ok (.bl (l.any f)):=by
 show (match blL (l.map fun x=>D.bl (f x)) with | some bs=>ok (D.bl (bs.any id)) | none=>none)=_
 rw[blL_map]
 show ok (D.bl ((l.map f).any id))=_
 rw[List.any_map]
 rfl
theorem hits_sp (t:Adr) {d:D} {S:List (List Str)} {nm:List Str} (m:Int) (hd:itD d=ok (S.map tS)) (hl:S.length≤1000) (hr: ∀xs∈S,xs.length≤1000) (hn:nm.length≤1000):fHits t [d,.int m,lS nm]=ok (.bl (hit S (th m nm))):=by
 refine aCp rfl ?_
 have e0:aCo N_law_hits [d,.int m,lS nm]=[some (.sh d),some (.sh (.int m)),some (.sh (lS nm)),none,none]:=rfl
 rw[e0]
 unfold aEf
 rw[aAf (show sNew 3 aAv [some (.sh d),some (.sh (.int m)),some (.sh (lS nm)),none,none]=some (.nx [some (.sh d),some (.sh (.int m)),some (.sh (lS nm)),some (.own (([]:List Str).map D.str)),none]) from rfl)]
 obtain⟨m',s4',h⟩:=hits_loop (s0:=some (.sh d)) (s2:=some (.sh (lS nm))) nm [] m none (by simp;omega)
 show aAz (aAh (aCb 2 (gN 4) bodyH) _ [some (.sh d),some (.sh (.int m)),some (.sh (lS nm)),some (.own (([]:List Str).map D.str)),none])=_
 rw[aAf (show aCb 2 (gN 4) bodyH [some (.sh d),some (.sh (.int m)),some (.sh (lS nm)),some (.own (([]:List Str).map D.str)),none]=_ from h)]
 rw[List.nil_append]
 generalize th m nm=T
 have c:=aD4 (m:=1) (k:=5) (it:=itE (look 0)) (fe:=f1 allD (cmp 1 (itE (look 5)) [6] h1 (fun _=>ok true) (b2 (gIn false) (look 6) (look 3)))) (ρ:=[some (.sh d),some (.sh (.int m')),some (.sh (lS nm)),some (.own (T.map D.str)),s4']) (l:=S) (e:=tS) (g:=fun xs=>D.bl (xs.all fun x=>T.contains x))
  (by show bnd (ok d) itD=_;exact hd) hl fun xs hx=>by
   refine⟨?_,rfl⟩
   have c2:=aD4 (m:=1) (k:=6) (it:=itE (look 5)) (fe:=b2 (gIn false) (look 6) (look 3)) (ρ:=(ext 1 (free [some (.sh d),some (.sh (.int m')),some (.sh (lS nm)),some (.own (T.map D.str)),s4'])).set 5 (some (.sh (tS xs)))) (l:=xs) (e:=D.str) (g:=fun x=>D.bl (T.contains x)) rfl (hr xs hx) fun x _=>by
    refine⟨?_,rfl⟩
    exact aCy (x:= .str x) (y:=lS T) rfl rfl (in_lS x T)
   exact f1_ok c2 (allD_map (fun x=>T.contains x) xs)
 rw[aB2 (aCz (f1_ok c (anyD_map (fun xs:List Str=>xs.all fun x=>T.contains x) S)))]
 rfl
theorem itRB_ok {f g:Rho→M D} {ρ:Rho} {i j:Int} (h1:f ρ=ok (.int i)) (h2:g ρ=ok (.int j)) (hb: -(2^62)≤i∧i<2^62∧ -(2^62)≤j∧j<2^62):itRB f g ρ=ok (rng i (j-i).toNat):=by
 unfold itRB
 rw[h1,h2]
 exact if_pos hb
theorem sub_ok {f g:Rho→M D} {ρ:Rho} {i j k:Int} (h1:f ρ=ok (.int i)) (h2:g ρ=ok (.int j)) (e:i-j=k):b2 PU.gSub f g ρ=ok (.int k):=by
 subst e
 exact aCy h1 h2 rfl
theorem look_eq {ρ:Rho} {n:Nat} {d d':D} (h:ρ[n]? =some (some (.sh d))) (e:d=d'):look n ρ=ok d':=by
 subst e
 exact look_sh h
noncomputable def fRising (t:Adr):List D→M D:=viaD 1 fun ds=>aAz (aC6 t (aCo aDl ds))
theorem rising_sp (t:Adr) {ds:List D} (hl:ds.length≤1000) (h: ∀j x y,ds[j]? =some x→ds[j+1]? =some y→gLtU x y=ok (.bl true)):fRising t [.tup ds]=ok (.bl true):=by
 refine aCp rfl ?_
 have e0:aCo aDl [.tup ds]=[some (.sh (.tup ds))]:=rfl
 rw[e0]
 unfold aC6
 have hi:itRB (con (.int 1)) (f1 lenD (look 0)) [some (.sh (.tup ds))]=ok ((List.range (ds.length-1)).map fun (j:Nat)=>D.int (1+(j:Int))):=by
  have e1:f1 lenD (look 0) [some (.sh (.tup ds))]=ok (.int (ds.length:Int)):=rfl
  rw[itRB_ok (i:=1) (j:=(ds.length:Int)) rfl e1 ⟨by decide,by decide,by omega,by omega⟩]
  unfold rng
  rw[show ((ds.length:Int)-1).toNat=ds.length-1 by omega]
 have c:=aD4 (m:=1) (k:=1) (fe:=b2 gLtU (b2 gIx (look 0) (b2 PU.gSub (look 1) (con (.int 1)))) (b2 gIx (look 0) (look 1))) (l:=List.range (ds.length-1)) (e:=fun (j:Nat)=>D.int (1+(j:Int))) (g:=fun _=>D.bl true) hi (by rw[List.length_range];omega) fun j hj=>by
  refine⟨?_,rfl⟩
  have hj':=List.mem_range.mp hj
  have a1:ds[j]? =some (ds[j]'(by omega)):=List.getElem?_eq_getElem _
  have a2:ds[j+1]? =some (ds[j+1]'(by omega)):=List.getElem?_eq_getElem _
  have g1:b2 PU.gSub (look 1) (con (.int 1)) ((ext 1 (free [some (.sh (.tup ds))])).set 1 (some (.sh (.int (1+(j:Int))))))=ok (.int (j:Int)):=by
   exact sub_ok (i:=1+(j:Int)) (j:=1) rfl rfl (by omega)
  have ix: ∀(n:Nat) (d:D),ds[n]? =some d→gIx (.tup ds) (.int (n:Int))=ok d:=fun n d hd=>by
   have hn:n<ds.length:=(List.getElem?_eq_some_iff.mp hd).1
   show (match atI ds (n:Int) with | some d=>ok d | none=>none)=_
   have:atI ds (n:Int)=some d:=by
    unfold atI ixN
    rw[if_pos (by omega),if_pos (by omega),Int.toNat_natCast]
    exact hd
   rw[this]
  refine aCy (aCy (x:= .tup ds) rfl g1 (ix j _ a1)) (aCy (x:= .tup ds) (y:= .int ((j+1:Nat):Int)) rfl (look_eq (d:= .int (1+(j:Int))) rfl (congrArg D.int (by omega:1+(j:Int)=((j+1:Nat):Int)))) (ix (j+1) _ a2)) (h j _ _ a1 a2)
 rw[aB2 (aCz (f1_ok c (all_const _)))]
 rfl
theorem rise_tS (t:Adr) {xs:List Str} (h:Rise xs) (hl:xs.length≤1000):fRising t [tS xs]=ok (.bl true):=by
 refine rising_sp t (by rw[List.length_map];exact hl) fun j x y hx hy=> ?_
 rw[List.getElem?_map] at hx hy
 obtain⟨a,ha,rfl⟩:=Option.map_eq_some_iff.mp hx
 obtain⟨b,hb,rfl⟩:=Option.map_eq_some_iff.mp hy
 obtain⟨h1,rfl⟩:=List.getElem?_eq_some_iff.mp ha
 obtain⟨h2,rfl⟩:=List.getElem?_eq_some_iff.mp hb
 have:=List.pairwise_iff_getElem.mp h j (j+1) h1 h2 (by omega)
 show ok (D.bl _)=_
 rw[this]
theorem rise_tR (t:Adr) {R:List (List Str)} (h:R.Pairwise fun a b=>lexS a b=true) (hl:R.length≤1000):fRising t [tR R]=ok (.bl true):=by
 refine rising_sp t (by rw[List.length_map];exact hl) fun j x y hx hy=> ?_
 rw[List.getElem?_map] at hx hy
 obtain⟨a,ha,rfl⟩:=Option.map_eq_some_iff.mp hx
 obtain⟨b,hb,rfl⟩:=Option.map_eq_some_iff.mp hy
 obtain⟨h1,rfl⟩:=List.getElem?_eq_some_iff.mp ha
 obtain⟨h2,rfl⟩:=List.getElem?_eq_some_iff.mp hb
 have:=List.pairwise_iff_getElem.mp h j (j+1) h1 h2 (by omega)
 show (match txtsD (R[j].map D.str),txtsD (R[j+1].map D.str) with | some xs,some ys=>ok (D.bl (lexS xs ys)) | _,_=>none)=_
 rw[txtsD_map,txtsD_map]
 show ok (D.bl _)=_
 rw[this]
noncomputable def fFormed (t:Adr):List D→M D:=viaD 1 fun ds=>aAz (aC7 t (fRising t) (aCo aDm ds))
noncomputable def bodyF1 (t:Adr):Rho→Option Out:=(aAh (sIf (orB (notB (test (isi "tuple" (look 1)))) (orB (notB (test (f1 allD (cmp 1 (itE (look 1)) [3] h1 (fun _=>ok true) (isi "str" (look 3)))))) (notB (test (app (fRising t) (aAc (look 1) aAv)))))) (aAh (aBy (con (.bl false)))
  aAp) aAp)
  aAp)
noncomputable def bodyF3:Rho→Option Out:=(aAh (sIf (andB (aAy (b2 gNeS (look 1) (look 2))) (test (f1 allD (cmp 1 (itE (look 1)) [3] h1 (fun _=>ok true) (b2 (gIn false) (look 3) (look 2)))))) (aAh (aBy (con (.bl false)))
  aAp) aAp)
  aAp)
noncomputable def bodyF2:Rho→Option Out:=(aAh (aCb 0 (gN 2) bodyF3)
  aAp)
theorem neS_t {a b:List Str} (ha: ∀x∈a,PyData.strOk x=true) (hb: ∀x∈b,PyData.strOk x=true):gNeS (tS a) (tS b)=ok (.bl (!decide (a=b))):=by
 show (match strL (a.map D.str),strL (b.map D.str) with | some x,some y=>if x.all PyData.strOk=true∧y.all PyData.strOk=true then ok (D.bl (!decide (x=y))) else none | _,_=>none)=_
 rw[strL_map,strL_map]
 show (if a.all PyData.strOk=true∧b.all PyData.strOk=true then ok (D.bl (!decide (a=b))) else none)=_
 rw[if_pos ⟨List.all_eq_true.mpr ha,List.all_eq_true.mpr hb⟩]
theorem formed_sp (t:Adr) {nm:List Str} (ho: ∀x∈nm,PyData.strOk x=true) {P:List Str→Prop} {R:List (List Str)} (hR:Rows nm R) (h:aCd P R):fFormed t [tR R]=ok (.bl true):=by
 refine aCp rfl ?_
 have e0:aCo aDm [tR R]=[some (.sh (tR R)),none,none]:=rfl
 rw[e0]
 unfold aC7
 rw[aAf (pass_not (f:=isi "tuple" (look 0)) rfl)]
 have hmem: ∀d∈R.map tS,∃xs∈R,d=tS xs:=fun d hd=>by
  obtain⟨xs,h1,h2⟩:=List.mem_map.mp hd
  exact⟨xs,h1,h2.symm⟩
 have setI: ∀(k:Nat) (xs:List Str) (ρ:Rho),gN k (tS xs) ρ=some (ρ.set k (some (.sh (tS xs)))):=fun k xs ρ=>by
  show some (setV k (tS xs) ρ)=_
  rw[aEa (aEd xs)]
 have lp1:=aCf (G:=gN 1) (F:=bodyF1 t) (fun p ρ=> ∃o1,ρ=[some (.sh (tR R)),o1,none]) (R.map tS) [some (.sh (tR R)),none,none] ⟨none,rfl⟩ (by
  rintro p d q ρ e ⟨o1,rfl⟩
  obtain⟨xs,hx,rfl⟩:=hmem d (by rw[e];exact List.mem_append_right _ List.mem_cons_self)
  have hxl:=hR.row xs hx
  refine⟨_,[some (.sh (tR R)),some (.sh (tS xs)),none],setI 1 xs _,.inl ?_,some (.sh (tS xs)),rfl⟩
  unfold bodyF1
  show aAh _ _ [some (.sh (tR R)),some (.sh (tS xs)),none]=_
  have t1:test (isi "tuple" (look 1)) [some (.sh (tR R)),some (.sh (tS xs)),none]=ok true:=test_ok (d:= .bl true) rfl rfl
  have c:=aD4 (m:=1) (k:=3) (it:=itE (look 1)) (fe:=isi "str" (look 3)) (ρ:=[some (.sh (tR R)),some (.sh (tS xs)),none]) (l:=xs) (e:=D.str) (g:=fun _=>D.bl true) rfl (by omega) fun x _=>⟨rfl,rfl⟩
  have t2:=test_ok (f1_ok c (all_const xs)) (b:=true) rfl
  have t3:test (app (fRising t) (aAc (look 1) aAv)) [some (.sh (tR R)),some (.sh (tS xs)),none]=ok true:=test_ok ((aB5 (aAj (d:=tS xs) rfl aA0)).trans (rise_tS t (h.frm xs hx).1 (by omega))) rfl
  rw[aAf ((sIf_f (orB_ok (notB_ok t1) (orB_ok (notB_ok t2) (notB_ok t3)))).trans rfl)]
  rfl)
 obtain⟨ρ1,lp1,o1,rfl⟩:=lp1
 show aAz (aAh (aCb 0 (gN 1) (bodyF1 t)) _ [some (.sh (tR R)),none,none])=_
 rw[aAf (show aCb 0 (gN 1) (bodyF1 t) [some (.sh (tR R)),none,none]=_ from lp1)]
 have lp2:=aCf (G:=gN 1) (F:=bodyF2) (fun p ρ=> ∃o1 o2,ρ=[some (.sh (tR R)),o1,o2]) (R.map tS) [some (.sh (tR R)),o1,none] ⟨o1,none,rfl⟩ (by
  rintro p d q ρ e ⟨o1,o2,rfl⟩
  obtain⟨xs,hx,rfl⟩:=hmem d (by rw[e];exact List.mem_append_right _ List.mem_cons_self)
  have hxl:=hR.row xs hx
  have lp3:=aCf (G:=gN 2) (F:=bodyF3) (fun p ρ=> ∃o2,ρ=[some (.sh (tR R)),some (.sh (tS xs)),o2]) (R.map tS) [some (.sh (tR R)),some (.sh (tS xs)),o2] ⟨o2,rfl⟩ (by
   rintro p d q ρ e ⟨o2,rfl⟩
   obtain⟨ys,hy,rfl⟩:=hmem d (by rw[e];exact List.mem_append_right _ List.mem_cons_self)
   refine⟨_,[some (.sh (tR R)),some (.sh (tS xs)),some (.sh (tS ys))],setI 2 ys _,.inl ?_,some (.sh (tS ys)),rfl⟩
   unfold bodyF3
   show aAh _ _ [some (.sh (tR R)),some (.sh (tS xs)),some (.sh (tS ys))]=_
   have t1:aAy (b2 gNeS (look 1) (look 2)) [some (.sh (tR R)),some (.sh (tS xs)),some (.sh (tS ys))]=ok (!decide (xs=ys)):=testB_ok (aCy (x:=tS xs) (y:=tS ys) rfl rfl (neS_t (fun x q=>ho x (hR.mem xs hx x q)) (fun x q=>ho x (hR.mem ys hy x q))))
   have c:=aD4 (m:=1) (k:=3) (it:=itE (look 1)) (fe:=b2 (gIn false) (look 3) (look 2)) (ρ:=[some (.sh (tR R)),some (.sh (tS xs)),some (.sh (tS ys))]) (l:=xs) (e:=D.str) (g:=fun x=>D.bl (ys.contains x)) rfl (by omega) fun x _=>⟨aCy (x:= .str x) (y:=tS ys) rfl rfl (in_tS false x ys),rfl⟩
   have t2:=test_ok (f1_ok c (allD_map (fun x=>ys.contains x) xs)) (b:=xs.all fun x=>ys.contains x) rfl
   have t3:=andB_ok t1 t2
   have:(!decide (xs=ys)&&xs.all fun x=>ys.contains x)=false:=by
    by_cases e:xs=ys
    ·rw[decide_eq_true e];rfl
    ·rw[decide_eq_false e,Bool.not_false,Bool.true_and]
     cases q:(xs.all fun x=>ys.contains x) with
     | false=>rfl
     | true=>exact absurd (h.anti xs hx ys hy fun z hz=>List.contains_iff_mem.mp (List.all_eq_true.mp q z hz)) e
   rw[this] at t3
   rw[aAf ((sIf_f t3).trans rfl)]
   rfl)
  obtain⟨ρ3,lp3,o2',rfl⟩:=lp3
  refine⟨_,[some (.sh (tR R)),some (.sh (tS xs)),o2'],setI 1 xs _,.inl ?_,_,_,rfl⟩
  unfold bodyF2
  show aAh _ _ [some (.sh (tR R)),some (.sh (tS xs)),o2]=_
  rw[aAf (show aCb 0 (gN 2) bodyF3 [some (.sh (tR R)),some (.sh (tS xs)),o2]=_ from lp3)]
  rfl)
 obtain⟨ρ2,lp2,o1',o2',rfl⟩:=lp2
 show aAz (aAh (aCb 0 (gN 1) bodyF2) _ [some (.sh (tR R)),o1,none])=_
 rw[aAf (show aCb 0 (gN 1) bodyF2 [some (.sh (tR R)),o1,none]=_ from lp2)]
 rw[aB2 (aCz ((aB5 (aAj (f:=look 0) (d:=tR R) rfl aA0)).trans (rise_tR t h.asc (by have:=hR.len;omega))))]
 rfl
noncomputable def fTuple (t:Adr):List D→M D:=viaD 2 fun ds=>aAz (aDy t fMix (aCo aD5 ds))
noncomputable def bodyT:Rho→Option Out:=(aAh (sOwn lApp 3 (aAc (b2 gIx (look 1) (b2 gMod (look 2) (con (.int 5)))) aAv))
  (aAh (aC3 2 (b2 aD8 (look 2) (con (.int 5))))
  aAp))
theorem tuple_sp (t:Adr) (c:Int) {nm:List Str} (hn:nm.length=5): ∃xs:List Str,xs.length≤4∧(∀x∈xs,x∈nm)∧fTuple t [.int c,lS nm]=ok (tS xs):=by
 obtain⟨j,hj,hj4⟩: ∃j:Nat,mix c%5=(j:Int)∧j≤4:=⟨(mix c%5).toNat,by omega,by omega⟩
 have lp:=aCf (G:=gN 5) (F:=bodyT) (fun p ρ=> ∃(xs:List Str) (b:Int) (o:Option SV),xs.length=p.length∧(∀x∈xs,x∈nm)∧ρ=[some (.sh (.int c)),some (.sh (lS nm)),some (.sh (.int b)),some (.own (xs.map D.str)),some (.sh (.int (j:Int))),o]) (rng 0 j) [some (.sh (.int c)),some (.sh (lS nm)),some (.sh (.int (mix c/5))),some (.own []),some (.sh (.int (j:Int))),none]
  ⟨[],_,none,rfl,by simp,rfl⟩ (by
   rintro p d q ρ e ⟨xs,b,o,hl,hm,rfl⟩
   have hr:(rng 0 j).length=j:=by unfold rng;rw[List.length_map,List.length_range]
   have hpl:p.length<j:=by rw[←hr,e,List.length_append,List.length_cons];omega
   have hd:d∈rng 0 j:=by rw[e];exact List.mem_append_right _ List.mem_cons_self
   unfold rng at hd
   obtain⟨i,hi,rfl⟩:=List.mem_map.mp hd
   obtain⟨y,hy,ey⟩:=ixL_ok (f:=look 1) (g:=b2 gMod (look 2) (con (.int 5))) (ρ:=[some (.sh (.int c)),some (.sh (lS nm)),some (.sh (.int b)),some (.own (xs.map D.str)),some (.sh (.int (j:Int))),some (.sh (.int (0+(i:Int))))]) (x:=nm) (.inl rfl) (mod_ok (i:=b) (j:=5) rfl rfl (by decide)) (by omega) (by omega)
   refine⟨_,[some (.sh (.int c)),some (.sh (lS nm)),some (.sh (.int (b/5))),some (.own ((xs++ [y]).map D.str)),some (.sh (.int (j:Int))),some (.sh (.int (0+(i:Int))))],rfl,.inl ?_,xs++ [y],b/5,some (.sh (.int (0+(i:Int)))),by simp[hl],fun x hx=> ?_,rfl⟩
   ·unfold bodyT
    show aAh _ _ [some (.sh (.int c)),some (.sh (lS nm)),some (.sh (.int b)),some (.own (xs.map D.str)),some (.sh (.int (j:Int))),some (.sh (.int (0+(i:Int))))]=_
    rw[aAf (own_app (i:=3) (acc:=xs.map D.str) (d:= .str y) rfl ey rfl (by rw[List.length_map];omega) rfl)]
    show aAh _ _ [some (.sh (.int c)),some (.sh (lS nm)),some (.sh (.int b)),some (.own (xs.map D.str++ [D.str y])),some (.sh (.int (j:Int))),some (.sh (.int (0+(i:Int))))]=_
    rw[aAf (aBp (fdiv_ok (i:=b) (j:=5) rfl rfl (by decide) (by decide)) rfl),List.map_append]
    rfl
   ·rcases List.mem_append.mp hx with hx | hx
    ·exact hm x hx
    ·rw[List.mem_singleton.mp hx];exact hy)
 obtain⟨ρ',lp,xs,b,o,hl,hm,rfl⟩:=lp
 have hr:(rng 0 j).length=j:=by unfold rng;rw[List.length_map,List.length_range]
 refine⟨xs,by omega,hm,aCp rfl ?_⟩
 have e0:aCo aD5 [.int c,lS nm]=[some (.sh (.int c)),some (.sh (lS nm)),none,none,none,none]:=rfl
 rw[e0]
 unfold aDy
 have f1:app fMix (aAc (look 0) aAv) [some (.sh (.int c)),some (.sh (lS nm)),none,none,none,none]=ok (.int (mix c)):=(aB5 (aAj (d:= .int c) rfl aA0)).trans rfl
 rw[aAf (aBp f1 rfl)]
 show aAz (aAh _ _ [some (.sh (.int c)),some (.sh (lS nm)),some (.sh (.int (mix c))),none,none,none])=_
 rw[aAf (show sNew 3 aAv [some (.sh (.int c)),some (.sh (lS nm)),some (.sh (.int (mix c))),none,none,none]=some (.nx [some (.sh (.int c)),some (.sh (lS nm)),some (.sh (.int (mix c))),some (.own []),none,none]) from rfl)]
 rw[aAf (aBp (mod_ok (f:=look 2) (i:=mix c) (j:=5) rfl rfl (by decide)) rfl),hj]
 show aAz (aAh _ _ [some (.sh (.int c)),some (.sh (lS nm)),some (.sh (.int (mix c))),some (.own []),some (.sh (.int (j:Int))),none])=_
 rw[aAf (aBp (fdiv_ok (f:=look 2) (i:=mix c) (j:=5) rfl rfl (by decide) (by decide)) rfl)]
 show aAz (aAh (sForR1 (look 4) (gN 5) bodyT) _ [some (.sh (.int c)),some (.sh (lS nm)),some (.sh (.int (mix c/5))),some (.own []),some (.sh (.int (j:Int))),none])=_
 have e2:=sForR1_ok (f:=look 4) (G:=gN 5) (F:=bodyT) (ρ:=[some (.sh (.int c)),some (.sh (lS nm)),some (.sh (.int (mix c/5))),some (.own []),some (.sh (.int (j:Int))),none]) (j:=(j:Int)) rfl (by omega) (by omega)
 rw[Int.toNat_natCast] at e2
 rw[aAf (e2.trans lp)]
 rfl
theorem nam_ok (st k:Int):PyData.strOk (nam st k)=true:=by
 have a1:0≤(5*k+st)%23∧(5*k+st)%23<23:=by omega
 have hz: ∀(z:Str) (o:Option Int),(∀c∈L z,c<1114112)→∀c∈L (aDq z none o),c<1114112:=fun z o h c hc=>h c (L_cut z none o c hc)
 have z1: ∀c∈L "zz",c<1114112:=by decide+kernel
 have z2: ∀c∈L "zyzy",c<1114112:=by decide+kernel
 have z3: ∀c∈L "yzzy",c<1114112:=by decide+kernel
 have z4: ∀c∈L "a",c<1114112:=by decide+kernel
 have z5: ∀c∈L chs,c<1114112:=by decide+kernel
 have hh: ∀c∈L (nam st k),c<1114112:=by
  unfold nam
  split
  ·intro c hc
   rw[L_app] at hc
   rcases List.mem_append.mp hc with hc | hc
   ·exact hz _ _ z1 c hc
   ·exact z4 c (L_rep _ _ c hc)
  ·intro c hc
   rw[L_app,L_app] at hc
   rcases List.mem_append.mp hc with hc | hc
   ·rcases List.mem_append.mp hc with hc | hc
    ·exact hz _ _ z2 c hc
    ·have e:c=(L chs).getD ((5*k+st)%23).toNat 0:=by simpa[chr] using hc
     exact z5 c (by rw[e];exact List.mem_of_getElem? (chr_at (by omega)))
   ·exact hz _ _ z3 c hc
 unfold PyData.strOk
 rw[←Array.all_toList]
 exact List.all_eq_true.mpr fun c hc=>decide_eq_true (hh c hc)
open Classical in
noncomputable def mP (t:Adr):Addr→Option (List D→M D):=fun C=>if C=t.aAm then some (fPlus t) else none
open Classical in
noncomputable def mT (t:Adr):Addr→Option (List D→M D):=fun C=>if C=t.aAm then some (fTimes t) else none
open Classical in
noncomputable def mM (t:Adr):Addr→Option (List D→M D):=fun C=>if C=t.aAm then some (fMark t) else none
noncomputable def sLawS:List D→Prop:=fun ds=> ∃ns:List Int,ds=[.lst (ns.map D.int)]∧ns.length≤63
noncomputable abbrev Rl (ns:List Int) (s1 s2 s3 s4 s5 s6 s7 s8 s9 s10 s11 s12 s13:Option SV):Rho:=[some (.sh (.lst (ns.map D.int))),s1,s2,s3,s4,s5,s6,s7,s8,s9,s10,s11,s12,s13]
noncomputable abbrev sN (nm:List Str):Option SV:=some (.sh (lS nm))
noncomputable abbrev sR (R:List (List Str)):Option SV:=some (.sh (tR R))
noncomputable abbrev nl2 (A B:List (List Str)):Option SV:=some (.nl .l [A.map tS,B.map tS])
noncomputable abbrev ll2 (A B:List (List Str)):D:= .lst [.lst (A.map tS),.lst (B.map tS)]
noncomputable def bodyS (t:Adr):Rho→Option Out:=(aAh (sIxA 2 (b2 gMod (look 3) (con (.int 2))) (aAc (app (fTuple t) (aAc (b2 gIx (look 0) (look 3)) (aAc (look 1) aAv))) aAv))
  aAp)
theorem ixA_ok {i j:Nat} {fk:Rho→M D} {ga:Rho→M (List D)} {ρ:Rho} {ls:List (List D)} {n:Int} {d:D} {ds:List D} (h1:ρ[i]? =some (some (.nl .l ls))) (h2:fk ρ=ok (.int n)) (h3:ixN ls.length n=some j) (h6:ga ρ=ok [d]) (h7:ls[j]? =some ds) (h8:d.imm=true) (h9:ds.length<100000):
  sIxA i fk ga ρ=some (.nx (ρ.set i (some (.nl .l (ls.set j (ds++ [d])))))):=by
 unfold sIxA
 simp only[h1,h2,lft_ok,h3,h6,h7,h8,h9,and_self,if_true]
theorem ix_int {ns:List Int} {n:Nat} (h:n<ns.length):gIx (.lst (ns.map D.int)) (.int (n:Int))=ok (.int (atZ ns n)):=by
 show (match atI (ns.map D.int) (n:Int) with | some d=>ok d | none=>none)=_
 have:atI (ns.map D.int) (n:Int)=some (.int (atZ ns n)):=by
  unfold atI ixN
  rw[if_pos (by omega),List.length_map,if_pos (by omega),Int.toNat_natCast]
  show (ns.map D.int)[n]? =_
  rw[List.getElem?_map,List.getElem?_eq_getElem h]
  unfold atZ
  rw[List.getD_eq_getElem?_getD,List.getElem?_eq_getElem h]
  rfl
 rw[this]
theorem sets_loop (t:Adr) {ns:List Int} {nm:List Str} (hn:nm.length=5) (m:Nat) (hm:m+1≤ns.length∨m=0) (hm16:m≤16):
  ∃(A B:List (List Str)) (o3:Option SV),Rows nm A∧Rows nm B∧A.length+B.length≤16∧loop (gN 3) (bodyS t) (rng 1 m) (Rl ns (sN nm) (nl2 [] []) none none none none none none none none none none none)=some (.nx (Rl ns (sN nm) (nl2 A B) o3 none none none none none none none none none none)):=by
 have hr:(rng 1 m).length=m:=by unfold rng;rw[List.length_map,List.length_range]
 have lp:=aCf (G:=gN 3) (F:=bodyS t) (fun p ρ=> ∃(A B:List (List Str)) (o3:Option SV),Rows nm A∧Rows nm B∧A.length+B.length=p.length∧ρ=Rl ns (sN nm) (nl2 A B) o3 none none none none none none none none none none) (rng 1 m) (Rl ns (sN nm) (nl2 [] []) none none none none none none none none none none none)
  ⟨[],[],none,⟨by simp,by simp,by simp⟩,⟨by simp,by simp,by simp⟩,rfl,rfl⟩ (by
   rintro p d q ρ e ⟨A,B,o3,hA,hB,hl,rfl⟩
   have hpl:p.length<m:=by rw[←hr,e,List.length_append,List.length_cons];omega
   have hd:d∈rng 1 m:=by rw[e];exact List.mem_append_right _ List.mem_cons_self
   unfold rng at hd
   obtain⟨i,hi,rfl⟩:=List.mem_map.mp hd
   have hi':=List.mem_range.mp hi
   obtain⟨xs,x1,x2,x3⟩:=tuple_sp t (atZ ns (i+1)) hn
   generalize hρ:Rl ns (sN nm) (nl2 A B) (some (.sh (.int (1+(i:Int))))) none none none none none none none none none none=ρ1
   have l3:look 3 ρ1=ok (.int ((i+1:Nat):Int)):=by rw[←hρ];exact look_eq (d:= .int (1+(i:Int))) rfl (congrArg D.int (by omega:1+(i:Int)=((i+1:Nat):Int)))
   have l0:look 0 ρ1=ok (.lst (ns.map D.int)):=by rw[←hρ];rfl
   have l1:look 1 ρ1=ok (lS nm):=by rw[←hρ];rfl
   have g1:app (fTuple t) (aAc (b2 gIx (look 0) (look 3)) (aAc (look 1) aAv)) ρ1=ok (tS xs):=(aB5 (aAj (aCy l0 l3 (ix_int (by omega))) (aAj l1 aA0))).trans x3
   have g2:b2 gMod (look 3) (con (.int 2)) ρ1=ok (.int (((i+1:Nat):Int)%2)):=mod_ok l3 rfl (by decide)
   have hRow: ∀{S:List (List Str)},Rows nm S→S.length≤16→Rows nm (S++ [xs]):=fun hS h16=>⟨by rw[List.length_append,List.length_singleton];omega,fun y hy=>(List.mem_append.mp hy).elim (hS.row y) fun z=>by rw[List.mem_singleton.mp z];omega,fun y hy=>(List.mem_append.mp hy).elim (hS.mem y) fun z=>by rw[List.mem_singleton.mp z];exact x2⟩
   have hst: ∀S:List (List Str),(S++ [xs]).map tS=S.map tS++ [tS xs]:=fun S=>by rw[List.map_append];rfl
   have h2:((i+1:Nat):Int)%2=0∨((i+1:Nat):Int)%2=1:=by omega
   rcases h2 with h2 | h2
   ·rw[h2] at g2
    have s:=ixA_ok (i:=2) (j:=0) (ls:=[A.map tS,B.map tS]) (by rw[←hρ];rfl) g2 rfl (aAj g1 aA0) rfl (aEd xs) (by rw[List.length_map];omega)
    refine⟨ρ1,Rl ns (sN nm) (nl2 (A++ [xs]) B) (some (.sh (.int (1+(i:Int))))) none none none none none none none none none none,by rw[←hρ];rfl,.inl ?_,A++ [xs],B,some (.sh (.int (1+(i:Int)))),hRow hA (by omega),hB,by simp;omega,rfl⟩
    unfold bodyS
    rw[aAf s,←hρ]
    show some (Out.nx _)=some (Out.nx (Rl ns (sN nm) (some (.nl .l [(A++ [xs]).map tS,B.map tS])) _ none none none none none none none none none none))
    rw[hst]
    rfl
   ·rw[h2] at g2
    have s:=ixA_ok (i:=2) (j:=1) (ls:=[A.map tS,B.map tS]) (by rw[←hρ];rfl) g2 rfl (aAj g1 aA0) rfl (aEd xs) (by rw[List.length_map];omega)
    refine⟨ρ1,Rl ns (sN nm) (nl2 A (B++ [xs])) (some (.sh (.int (1+(i:Int))))) none none none none none none none none none none,by rw[←hρ];rfl,.inl ?_,A,B++ [xs],some (.sh (.int (1+(i:Int)))),hA,hRow hB (by omega),by simp;omega,rfl⟩
    unfold bodyS
    rw[aAf s,←hρ]
    show some (Out.nx _)=some (Out.nx (Rl ns (sN nm) (some (.nl .l [A.map tS,(B++ [xs]).map tS])) _ none none none none none none none none none none))
    rw[hst]
    rfl)
 obtain⟨ρ',lp,A,B,o3,hA,hB,hl,rfl⟩:=lp
 exact⟨A,B,o3,hA,hB,by omega,lp⟩
theorem pl_rows: ∀{S:List (List Str)},(∀xs∈S,xs.length≤1000)→plL (S.map tS)=true
 | [],_=>rfl
 | x::S,h=>by
  show ((tS x).pl&&plL (S.map tS))=true
  rw[pl_tS x (h x List.mem_cons_self),pl_rows fun y hy=>h y (List.mem_cons_of_mem _ hy)]
  rfl
theorem dep_rows: ∀(S:List (List Str)),depL (S.map tS)≤1
 | []=>Nat.zero_le _
 | x::S=>by
  show max (tS x).dep (depL (S.map tS))≤1
  have h1:=dep_tS x
  have h2:=dep_rows S
  omega
theorem pl_ll2 {nm:List Str} {A B:List (List Str)} (hA:Rows nm A) (hB:Rows nm B):(ll2 A B).pl=true:=by
 have p: ∀{S:List (List Str)},Rows nm S→(D.lst (S.map tS)).pl=true:=fun {S} h=>by
  show (decide ((S.map tS).length≤100000)&&plL (S.map tS))=true
  rw[pl_rows fun xs hx=>by have:=h.row xs hx;omega,decide_eq_true (by rw[List.length_map];have:=h.len;omega)]
  rfl
 show (decide (2≤100000)&&((D.lst (A.map tS)).pl&&((D.lst (B.map tS)).pl&&true)))=true
 rw[p hA,p hB]
 rfl
theorem dep_ll2 (A B:List (List Str)):(ll2 A B).dep≤3:=by
 show max (depL (A.map tS)+1) (max (depL (B.map tS)+1) 0)+1≤3
 have h1:=dep_rows A
 have h2:=dep_rows B
 omega
noncomputable def bodyX (t:Adr):Rho→Option Out:=(aAh (sIf (orB (notB (test (app (fFormed t) (aAc (look 10) aAv)))) (notB (test (appM "is_mark" (mM t) (look 7) (aAc (look 10) aAv))))) (aAh (aBy (con (.bl false)))
  aAp) aAp)
  aAp)
noncomputable def bodyM (t:Adr):Rho→Option Out:=(aAh (aC3 12 (app (fHits t) (aAc (b2 gIx (look 2) (con (.int 0))) (aAc (look 11) (aAc (look 1) aAv)))))
  (aAh (aC3 13 (app (fHits t) (aAc (b2 gIx (look 2) (con (.int 1))) (aAc (look 11) (aAc (look 1) aAv)))))
  (aAh (sIf (orB (aAy (b2 gNe (app (fHits t) (aAc (look 5) (aAc (look 11) (aAc (look 1) aAv)))) (look 12))) (aAy (b2 gNe (app (fHits t) (aAc (look 6) (aAc (look 11) (aAc (look 1) aAv)))) (look 13)))) (aAh (aBy (con (.bl false)))
  aAp) aAp)
  (aAh (sIf (orB (aAy (b2 gNe (app (fHits t) (aAc (look 8) (aAc (look 11) (aAc (look 1) aAv)))) (orV (look 12) (look 13)))) (aAy (b2 gNe (app (fHits t) (aAc (look 9) (aAc (look 11) (aAc (look 1) aAv)))) (andV (look 12) (look 13))))) (aAh (aBy (con (.bl false)))
  aAp) aAp)
  aAp))))
theorem ne_bl {f g:Rho→M D} {ρ:Rho} {a:Bool} (h1:f ρ=ok (.bl a)) (h2:g ρ=ok (.bl a)):aAy (b2 gNe f g) ρ=ok false:=by
 refine testB_ok (aCy h1 h2 ?_)
 show ok (D.bl (!decide (a=a)))=_
 rw[decide_eq_true rfl]
 rfl
theorem mask_ok (t:Adr) {ns:List Int} {nm:List Str} (hn:nm.length=5) {A B R1 R2 R3 R4:List (List Str)} (hA:Rows nm A) (hB:Rows nm B) (r1:Rows nm R1) (r2:Rows nm R2) (r3:Rows nm R3) (r4:Rows nm R4)
  (l1:aCd (· ∈A) R1) (l2:aCd (· ∈B) R2) (l3:aCd (· ∈R1++R2) R3) (l4:aCd (fun xs=> ∃x∈R1,∃y∈R2,xs=x++y) R4) (m:Int) (o3 o10 o12 o13:Option SV):
  ∃o12' o13',bodyM t (Rl ns (sN nm) (some (.sh (ll2 A B))) o3 (some (.sh (ll2 A B))) (sR R1) (sR R2) (some (.sh (oR t))) (sR R3) (sR R4) o10 (some (.sh (.int m))) o12 o13)=some (.nx (Rl ns (sN nm) (some (.sh (ll2 A B))) o3 (some (.sh (ll2 A B))) (sR R1) (sR R2) (some (.sh (oR t))) (sR R3) (sR R4) o10 (some (.sh (.int m))) o12' o13')):=by
 have hS: ∀{S:List (List Str)} {f:Rho→M D} {ρ:Rho} {d:D},Rows nm S→itD d=ok (S.map tS)→f ρ=ok d→look 11 ρ=ok (.int m)→look 1 ρ=ok (lS nm)→app (fHits t) (aAc f (aAc (look 11) (aAc (look 1) aAv))) ρ=ok (.bl (hit S (th m nm))):=fun hR hd hf h11 h1=>
  (aB5 (aAj hf (aAj h11 (aAj h1 aA0)))).trans (hits_sp t m hd (by have:=hR.len;omega) (fun xs hx=>by have:=hR.row xs hx;omega) (by omega))
 refine⟨some (.sh (.bl (hit A (th m nm)))),some (.sh (.bl (hit B (th m nm)))),?_⟩
 unfold bodyM
 rw[aAf (aBp (hS (f:=b2 gIx (look 2) (con (.int 0))) (d:= .lst (A.map tS)) hA rfl rfl rfl rfl) rfl)]
 show aAh _ _ (Rl ns (sN nm) (some (.sh (ll2 A B))) o3 (some (.sh (ll2 A B))) (sR R1) (sR R2) (some (.sh (oR t))) (sR R3) (sR R4) o10 (some (.sh (.int m))) (some (.sh (.bl (hit A (th m nm))))) o13)=_
 rw[aAf (aBp (hS (f:=b2 gIx (look 2) (con (.int 1))) (d:= .lst (B.map tS)) hB rfl rfl rfl rfl) rfl)]
 show aAh _ _ (Rl ns (sN nm) (some (.sh (ll2 A B))) o3 (some (.sh (ll2 A B))) (sR R1) (sR R2) (some (.sh (oR t))) (sR R3) (sR R4) o10 (some (.sh (.int m))) (some (.sh (.bl (hit A (th m nm))))) (some (.sh (.bl (hit B (th m nm))))))=_
 have e1:=hit_of l1 (th m nm)
 have e2:=hit_of l2 (th m nm)
 have e3:=hit_plus l3 (th m nm)
 have e4:=hit_times l4 (th m nm)
 generalize hρ:Rl ns (sN nm) (some (.sh (ll2 A B))) o3 (some (.sh (ll2 A B))) (sR R1) (sR R2) (some (.sh (oR t))) (sR R3) (sR R4) o10 (some (.sh (.int m))) (some (.sh (.bl (hit A (th m nm))))) (some (.sh (.bl (hit B (th m nm)))))=ρ
 have k11:look 11 ρ=ok (.int m):=by rw[←hρ];rfl
 have k1:look 1 ρ=ok (lS nm):=by rw[←hρ];rfl
 have k5:look 5 ρ=ok (tR R1):=by rw[←hρ];rfl
 have k6:look 6 ρ=ok (tR R2):=by rw[←hρ];rfl
 have k8:look 8 ρ=ok (tR R3):=by rw[←hρ];rfl
 have k9:look 9 ρ=ok (tR R4):=by rw[←hρ];rfl
 have k12:look 12 ρ=ok (.bl (hit A (th m nm))):=by rw[←hρ];rfl
 have k13:look 13 ρ=ok (.bl (hit B (th m nm))):=by rw[←hρ];rfl
 have h1:=hS r1 rfl k5 k11 k1
 have h2:=hS r2 rfl k6 k11 k1
 have h3:=hS r3 rfl k8 k11 k1
 have h4:=hS r4 rfl k9 k11 k1
 rw[e1] at h1
 rw[e2] at h2
 rw[e3,e1,e2] at h3
 rw[e4,e1,e2] at h4
 have kor:orV (look 12) (look 13) ρ=ok (.bl (hit A (th m nm) || hit B (th m nm))):=by
  unfold orV
  rw[k12,k13]
  cases hit A (th m nm)<;>rfl
 have kand:andV (look 12) (look 13) ρ=ok (.bl (hit A (th m nm)&&hit B (th m nm))):=by
  unfold andV
  rw[k12,k13]
  cases hit A (th m nm)<;>rfl
 rw[aAf ((sIf_f (orB_ok (ne_bl h1 k12) (ne_bl h2 k13))).trans rfl),aAf ((sIf_f (orB_ok (ne_bl h3 kor) (ne_bl h4 kand))).trans rfl)]
 rfl
theorem found_ok (t:Adr) {nm:List Str} (hn:nm.length=5) (ho: ∀x∈nm,PyData.strOk x=true) {P:List Str→Prop} {R:List (List Str)} (hR:Rows nm R) (h:aCd P R) {ρ:Rho} (k7:look 7 ρ=ok (oR t)) (k10:look 10 ρ=ok (tR R)):bodyX t ρ=some (.nx ρ):=by
 have t1:=test_ok ((aB5 (F:=fFormed t) (aAj k10 aA0)).trans (formed_sp t ho hR h)) (b:=true) rfl
 have t2:=test_ok ((appM_ok (m:="is_mark") (FM:=mM t) (C:=t.aAm) k7 (if_pos rfl) rfl (aAj k10 aA0)).trans (mark_of t hn hR h)) (b:=true) rfl
 unfold bodyX
 rw[aAf ((sIf_f (orB_ok (notB_ok t1) (notB_ok t2))).trans rfl)]
 rfl
theorem law_den {K:PySem.W.Frag} {mg:Str→Option Value} {t:Adr} (X:Txt K mg t): ∀ds r,tt sLawS ds=some r→∃d,r= .ok d∧aAz (den_law t fAt (fFormed t) (fHits t) fName (aD3 8) (fTuple t) (fLO t) iR (mM t) (mP t) (mT t) (aCo N_law ds))=ok d:=by
 intro ds r hr
 obtain⟨hS,e⟩:=tt_inv hr
 clear hr
 subst e
 obtain⟨ns,rfl,hns⟩:=hS
 refine⟨_,rfl,?_⟩
 have e0:aCo N_law [.lst (ns.map D.int)]=Rl ns none none none none none none none none none none none none none:=rfl
 rw[e0]
 unfold den_law
 have hst:0≤atZ ns 0%2000∧atZ ns 0%2000<2000:=by omega
 generalize hst':atZ ns 0%2000=st at hst
 obtain⟨nm,hnm⟩: ∃nm:List Str,nm=(List.range 5).map fun (k:Nat)=>nam st (k:Int):=⟨_,rfl⟩
 have hn:nm.length=5:=by rw[hnm,List.length_map,List.length_range]
 have ho: ∀x∈nm,PyData.strOk x=true:=fun x hx=>by
  rw[hnm] at hx
  obtain⟨k,_,rfl⟩:=List.mem_map.mp hx
  exact nam_ok st k
 have c1:=aD4 (m:=1) (k:=14) (it:=itR (con (.int 5))) (fe:=app fName (aAc (b2 gMod (app fAt (aAc (look 0) (aAc (con (.int 0)) aAv))) (con (.int 2000))) (aAc (look 14) aAv))) (ρ:=Rl ns none none none none none none none none none none none none none) (l:=List.range 5) (e:=fun (k:Nat)=>D.int (0+(k:Int))) (g:=fun (k:Nat)=>D.str (nam st (k:Int))) rfl (by simp) fun k hk=>by
  refine⟨?_,rfl⟩
  have hk':=List.mem_range.mp hk
  have g1:=mod_ok (f:=app fAt (aAc (look 0) (aAc (con (.int 0)) aAv))) (g:=con (.int 2000)) (ρ:=(ext 1 (free (Rl ns none none none none none none none none none none none none none))).set 14 (some (.sh (.int (0+(k:Int)))))) (j:=2000) (at_app 0) rfl (by decide)
  rw[hst'] at g1
  exact (aB5 (aAj g1 (aAj (look_eq (d:= .int (0+(k:Int))) rfl (congrArg D.int (by omega:0+(k:Int)=(k:Int)))) aA0))).trans (fName_ok ⟨by omega,by omega,by omega,by omega⟩)
 have c2:((List.range 5).map fun (k:Nat)=>D.str (nam st (k:Int)))=nm.map D.str:=by rw[hnm,List.map_map];rfl
 rw[c2] at c1
 rw[aAf (sSet_any c1 rfl)]
 show aAz (aAh _ _ (Rl ns (sN nm) none none none none none none none none none none none none))=_
 rw[aAf (show sNew2 2 (Rl ns (sN nm) none none none none none none none none none none none none)=some (.nx (Rl ns (sN nm) (nl2 [] []) none none none none none none none none none none none)) from rfl)]
 obtain⟨m,hm,hm16,hmN⟩: ∃m:Nat,(min (17:Int) (ns.length:Int)-1).toNat=m∧m≤16∧(m+1≤ns.length∨m=0):=⟨_,rfl,by omega,by omega⟩
 obtain⟨A,B,o3,hA,hB,hAB,lp⟩:=sets_loop t hn m hmN hm16 (ns:=ns)
 have s3:sForR2 (con (.int 1)) (b2 gMin (con (.int 17)) (f1 lenD (look 0))) (gN 3) (bodyS t) (Rl ns (sN nm) (nl2 [] []) none none none none none none none none none none none)=some (.nx (Rl ns (sN nm) (nl2 A B) o3 none none none none none none none none none none)):=by
  have g1:b2 gMin (con (.int 17)) (f1 lenD (look 0)) (Rl ns (sN nm) (nl2 [] []) none none none none none none none none none none none)=ok (.int (min (17:Int) (ns.length:Int))):=by
   have gl:f1 lenD (look 0) (Rl ns (sN nm) (nl2 [] []) none none none none none none none none none none none)=ok (.int (ns.length:Int)):=by
    show ok (D.int ((ns.map D.int).length:Int))=_
    rw[List.length_map]
   refine aCy (x:= .int 17) rfl gl ?_
   show ok (D.int (if (ns.length:Int)<17 then (ns.length:Int) else 17))=_
   congr 2
   split<;>omega
  unfold sForR2
  rw[g1]
  show (if (-(2^62)≤(1:Int)∧(1:Int)<2^62∧ -(2^62)≤min (17:Int) (ns.length:Int)∧min (17:Int) (ns.length:Int)<2^62) then loop (gN 3) (bodyS t) (rng 1 (min (17:Int) (ns.length:Int)-1).toNat) _ else none)=_
  rw[if_pos ⟨by decide,by decide,by omega,by omega⟩,hm]
  exact lp
 show aAz (aAh (sForR2 (con (.int 1)) (b2 gMin (con (.int 17)) (f1 lenD (look 0))) (gN 3) (bodyS t)) _ _)=_
 rw[aAf s3]
 have g4:mkL (aAc (f1 toL (b2 gIx (look 2) (con (.int 0)))) (aAc (f1 toL (b2 gIx (look 2) (con (.int 1)))) aAv)) (Rl ns (sN nm) (nl2 A B) o3 none none none none none none none none none none)=ok (ll2 A B):=rfl
 obtain⟨o3',ho3⟩: ∃o3',aC3 4 (mkL (aAc (f1 toL (b2 gIx (look 2) (con (.int 0)))) (aAc (f1 toL (b2 gIx (look 2) (con (.int 1)))) aAv))) (Rl ns (sN nm) (nl2 A B) o3 none none none none none none none none none none)=some (.nx (Rl ns (sN nm) (some (.sh (ll2 A B))) o3' (some (.sh (ll2 A B))) none none none none none none none none none))∧o3'.map SV.rel=o3':=by
  refine⟨o3.map SV.rel,?_,?_⟩
  ·rw[sSet_ok g4]
   rfl
  ·cases o3 with
   | none=>rfl
   | some sv=>cases sv<;>rfl
 obtain⟨ho3,hf3⟩:=ho3
 rw[aAf ho3]
 obtain⟨R1,p1,p2,p3,p4,p5⟩:=lo_of t hn hA
 obtain⟨R2,q1,q2,q3,q4,q5⟩:=lo_of t hn hB
 rw[aAf (aBp ((aB5 (aAj (f:=b2 gIx (look 4) (con (.int 0))) (d:= .lst (A.map tS)) rfl aA0)).trans p5) (imm_tR R1))]
 show aAz (aAh _ _ (Rl ns (sN nm) (some (.sh (ll2 A B))) o3' (some (.sh (ll2 A B))) (sR R1) none none none none none none none none))=_
 rw[aAf (aBp ((aB5 (aAj (f:=b2 gIx (look 4) (con (.int 1))) (d:= .lst (B.map tS)) rfl aA0)).trans q5) (imm_tR R2))]
 show aAz (aAh _ _ (Rl ns (sN nm) (some (.sh (ll2 A B))) o3' (some (.sh (ll2 A B))) (sR R1) (sR R2) none none none none none none none))=_
 have s7:aC3 7 (fun _=>mkO t.aAm iR []) (Rl ns (sN nm) (some (.sh (ll2 A B))) o3' (some (.sh (ll2 A B))) (sR R1) (sR R2) none none none none none none none)=some (.nx (Rl ns (sN nm) (some (.sh (ll2 A B))) o3' (some (.sh (ll2 A B))) (sR R1) (sR R2) (some (.sh (oR t))) none none none none none none)):=by
  refine (sSet_any (d:=oR t) rfl ?_).trans rfl
  show Rl ns (sN nm) (some (.sh (ll2 A B))) (o3'.map SV.rel) (some (.sh (ll2 A B))) (sR R1) (sR R2) none none none none none none none=_
  rw[hf3]
 rw[aAf s7]
 obtain⟨R3,u1,u2,u3,u4⟩:=plus_of t hn p4 q4 (by omega)
 have hmul:R1.length*R2.length≤16*16:=Nat.mul_le_mul (by omega) (by omega)
 obtain⟨R4,v1,v2,v3,v4⟩:=times_of t hn p4 q4 (by omega) (by omega)
 rw[aAf (aBp ((appM_ok (m:="plus") (FM:=mP t) (C:=t.aAm) (fo:=look 7) (ds:=[tR R1,tR R2]) rfl (if_pos rfl) rfl rfl).trans u4) (imm_tR R3))]
 show aAz (aAh _ _ (Rl ns (sN nm) (some (.sh (ll2 A B))) o3' (some (.sh (ll2 A B))) (sR R1) (sR R2) (some (.sh (oR t))) (sR R3) none none none none none))=_
 rw[aAf (aBp ((appM_ok (m:="times") (FM:=mT t) (C:=t.aAm) (fo:=look 7) (ds:=[tR R1,tR R2]) rfl (if_pos rfl) rfl rfl).trans v4) (imm_tR R4))]
 show aAz (aAh (sForX _ (gN 10) (bodyX t)) _ (Rl ns (sN nm) (some (.sh (ll2 A B))) o3' (some (.sh (ll2 A B))) (sR R1) (sR R2) (some (.sh (oR t))) (sR R3) (sR R4) none none none none))=_
 have lpX:=aCf (G:=gN 10) (F:=bodyX t) (fun p ρ=> ∃o10,ρ=Rl ns (sN nm) (some (.sh (ll2 A B))) o3' (some (.sh (ll2 A B))) (sR R1) (sR R2) (some (.sh (oR t))) (sR R3) (sR R4) o10 none none none) [tR R1,tR R2,tR R3,tR R4] (Rl ns (sN nm) (some (.sh (ll2 A B))) o3' (some (.sh (ll2 A B))) (sR R1) (sR R2) (some (.sh (oR t))) (sR R3) (sR R4) none none none none) ⟨none,rfl⟩ (by
  rintro p d q ρ e ⟨o10,rfl⟩
  have hd:d∈[tR R1,tR R2,tR R3,tR R4]:=by rw[e];exact List.mem_append_right _ List.mem_cons_self
  have hd': ∃(R:List (List Str)) (P:List Str→Prop),d=tR R∧Rows nm R∧aCd P R:=by
   rcases List.mem_cons.mp hd with h | hd
   ·exact⟨R1,_,h,p4,p1⟩
   rcases List.mem_cons.mp hd with h | hd
   ·exact⟨R2,_,h,q4,q1⟩
   rcases List.mem_cons.mp hd with h | hd
   ·exact⟨R3,_,h,u3,u1⟩
   ·exact⟨R4,_,List.mem_singleton.mp hd,v3,v1⟩
  obtain⟨R,P,rfl,h1,h2⟩:=hd'
  refine⟨Rl ns (sN nm) (some (.sh (ll2 A B))) o3' (some (.sh (ll2 A B))) (sR R1) (sR R2) (some (.sh (oR t))) (sR R3) (sR R4) (sR R) none none none,_,?_,.inl (found_ok t hn ho h1 h2 rfl rfl),_,rfl⟩
  show some (setV 10 (tR R) _)=_
  rw[aEa (imm_tR R)]
  rfl)
 obtain⟨ρX,lpX,o10,rfl⟩:=lpX
 have sX:sForX (mkL (aAc (look 5) (aAc (look 6) (aAc (look 8) (aAc (look 9) aAv))))) (gN 10) (bodyX t) (Rl ns (sN nm) (some (.sh (ll2 A B))) o3' (some (.sh (ll2 A B))) (sR R1) (sR R2) (some (.sh (oR t))) (sR R3) (sR R4) none none none none)=some (.nx (Rl ns (sN nm) (some (.sh (ll2 A B))) o3' (some (.sh (ll2 A B))) (sR R1) (sR R2) (some (.sh (oR t))) (sR R3) (sR R4) o10 none none none)):=by
  unfold sForX
  show (if ap (.lst [tR R1,tR R2,tR R3,tR R4]) (Rl ns (sN nm) (some (.sh (ll2 A B))) o3' (some (.sh (ll2 A B))) (sR R1) (sR R2) (some (.sh (oR t))) (sR R3) (sR R4) none none none none)=true then loop (gN 10) (bodyX t) [tR R1,tR R2,tR R3,tR R4] _ else none)=_
  have hap:ap (.lst [tR R1,tR R2,tR R3,tR R4]) (Rl ns (sN nm) (some (.sh (ll2 A B))) o3' (some (.sh (ll2 A B))) (sR R1) (sR R2) (some (.sh (oR t))) (sR R3) (sR R4) none none none none)=true:=by
   have i4:immL [tR R1,tR R2,tR R3,tR R4]=true:=by
    show ((tR R1).imm&&((tR R2).imm&&((tR R3).imm&&((tR R4).imm&&true))))=true
    rw[imm_tR,imm_tR,imm_tR,imm_tR]
    rfl
   have i3:apL [tR R1,tR R2,tR R3,tR R4] o3'=true:=by
    cases o3' with
    | none=>rfl
    | some sv=>cases sv<;>first | rfl |(cases hf3)
   show (immL [tR R1,tR R2,tR R3,tR R4]&&(true&&(true&&(true&&(apL [tR R1,tR R2,tR R3,tR R4] o3'&&true)))))=true
   rw[i4,i3]
   rfl
  rw[if_pos hap]
  exact lpX
 rw[aAf sX]
 have lpM:=aCf (G:=gN 11) (F:=bodyM t) (fun p ρ=> ∃o11 o12 o13,ρ=Rl ns (sN nm) (some (.sh (ll2 A B))) o3' (some (.sh (ll2 A B))) (sR R1) (sR R2) (some (.sh (oR t))) (sR R3) (sR R4) o10 o11 o12 o13) (rng 0 32) (Rl ns (sN nm) (some (.sh (ll2 A B))) o3' (some (.sh (ll2 A B))) (sR R1) (sR R2) (some (.sh (oR t))) (sR R3) (sR R4) o10 none none none) ⟨none,none,none,rfl⟩ (by
  rintro p d q ρ e ⟨o11,o12,o13,rfl⟩
  have hd:d∈rng 0 32:=by rw[e];exact List.mem_append_right _ List.mem_cons_self
  unfold rng at hd
  obtain⟨i,_,rfl⟩:=List.mem_map.mp hd
  obtain⟨o12',o13',hb⟩:=mask_ok t (ns:=ns) hn hA hB p4 q4 u3 v3 p1 q1 u1 v1 (0+(i:Int)) o3' o10 o12 o13
  exact⟨_,_,rfl,.inl hb,_,_,_,rfl⟩)
 obtain⟨ρM,lpM,o11,o12,o13,rfl⟩:=lpM
 show aAz (aAh (sForR1 (con (.int 32)) (gN 11) (bodyM t)) _ _)=_
 rw[aAf ((sForR1_ok (f:=con (.int 32)) (j:=32) rfl (by decide) (by decide)).trans lpM)]
 generalize hρ:Rl ns (sN nm) (some (.sh (ll2 A B))) o3' (some (.sh (ll2 A B))) (sR R1) (sR R2) (some (.sh (oR t))) (sR R3) (sR R4) o10 o11 o12 o13=ρ
 have k7:look 7 ρ=ok (oR t):=by rw[←hρ];rfl
 have k2:look 2 ρ=ok (ll2 A B):=by rw[←hρ];rfl
 have k4:look 4 ρ=ok (ll2 A B):=by rw[←hρ];rfl
 have fN:fld (cs t) "nought" (look 7) ρ=ok (.tup []):=fld_ok (C:=t.aAm) k7 (csR t) rfl
 have fO:fld (cs t) "one" (look 7) ρ=ok (.tup [.tup []]):=fld_ok (C:=t.aAm) k7 (csR t) rfl
 have z1:app (aD3 8) (aAc (mkT (aAc (fld (cs t) "nought" (look 7)) (aAc (fld (cs t) "one" (look 7)) aAv))) (aAc (mkT (aAc (mkT aAv) (aAc (mkT (aAc (mkT aAv) aAv)) aAv))) aAv)) ρ=ok (.bl true):=by
  rw[aB5 (aAj (mkT_ok (aAj fN (aAj fO aA0))) (aAj (d:= .tup [.tup [],.tup [.tup []]]) rfl aA0))]
  exact fSame_self rfl (by decide)
 have z2:app (aD3 8) (aAc (look 4) (aAc (look 2) aAv)) ρ=ok (.bl true):=by
  rw[aB5 (aAj k4 (aAj k2 aA0))]
  exact fSame_self (pl_ll2 hA hB) (by have:=dep_ll2 A B;omega)
 have z3:andV (app (aD3 8) (aAc (mkT (aAc (fld (cs t) "nought" (look 7)) (aAc (fld (cs t) "one" (look 7)) aAv))) (aAc (mkT (aAc (mkT aAv) (aAc (mkT (aAc (mkT aAv) aAv)) aAv))) aAv))) (app (aD3 8) (aAc (look 4) (aAc (look 2) aAv))) ρ=ok (.bl true):=by
  unfold andV
  rw[z1]
  exact z2
 rw[aB2 (aCz z3)]
 rfl
section
variable {P:Program} {w:World} {K:PySem.W.Frag} {mg:Str→Option Value} {base:Heap} {t:Adr}
theorem same_ok (X:Txt K mg t): ∀k,Def P w K mg base k "_law_same" (aD3 k)
 | 0=>by
  obtain⟨fd,Fu,bi⟩:=X.aAw
  exact⟨_,_,_,X.g_law_same,Fu.kp,bi,fSame_len 0,fn_none fSame_zero⟩
 | k+1=>ok_law_same X (same_ok X k) (fSame_len _) (same_den N_law_same rfl)
theorem lb_ok (X:Txt K mg t) (k:Nat):Def P w K mg base (k+2) "least_bits" (fLB t):=ok_least_bits X (ok_has_within X aB3 aD9) aB3 aD9
theorem bits_ok (X:Txt K mg t) (k:Nat):Def P w K mg base (k+1) "bits_of" (fBits t):=ok_bits_of X aB3 aD9
theorem nums_ok (X:Txt K mg t) (k:Nat):Def P w K mg base (k+1) "numbers_of" (fNums t):=ok_numbers_of X aB3 aD9
theorem lo_ok (X:Txt K mg t) (k:Nat):Def P w K mg base (k+3) "least_of" (fLO t):=ok_least_of X (bits_ok X (k+1)) (lb_ok X k) (nums_ok X (k+1)) aB3 aD9
theorem mP_ok (X:Txt K mg t) (k:Nat): ∀C F,mP t C=some F→Mth P w K mg base (k+4) C "plus" F:=by
 intro C F h
 unfold mP at h
 split at h
 ·rename_i e;subst e;cases h
  exact ok_Reasons_plus X (lo_ok X k) aB3 aD9
 ·cases h
theorem mT_ok (X:Txt K mg t) (k:Nat): ∀C F,mT t C=some F→Mth P w K mg base (k+4) C "times" F:=by
 intro C F h
 unfold mT at h
 split at h
 ·rename_i e;subst e;cases h
  exact ok_Reasons_times X (bits_ok X (k+2)) (lb_ok X (k+1)) (nums_ok X (k+2)) (ok_union_of X (k:=k+2) aB3 aD9) aB3 aD9
 ·cases h
theorem mM_ok (X:Txt K mg t) (k:Nat): ∀C F,mM t C=some F→Mth P w K mg base (k+4) C "is_mark" F:=by
 intro C F h
 unfold mM at h
 split at h
 ·rename_i e;subst e;cases h
  exact ok_Reasons_is_mark X (ok_is_texts X (k:=k+2) aB3 aD9) (lo_ok X k) aB3 aD9
 ·cases h
theorem ini_ok (X:Txt K mg t) (k:Nat):Ctor P w K mg base (k+1) "Reasons" t.aAm iR:=
 ok_Reasons___init__ X (by intro ds r h;unfold iR at h;split at h;rfl;cases h) (iR_den t)
theorem law_fn (X:Txt K mg t) {fd:FuncData} (Fu:Fun K "law" "law" s_law t.f_law fd):FnD P w K mg base 9 t.f_law fd ["_law_script"] (tt sLawS):=
 fnd_law X Fu (k:=8) (k':=5) (by decide) (ok_law_at X (k:=7) fAt_len (at_den N_law_at rfl)) (ok_law_formed X (k:=7) (ok_law_rising X (k:=6) aB3 aD9) aB3 aD9) (ok_law_hits X (k:=7) aB3 aD9) (ok_law_name X (k:=7) fName_len (name_den N_law_name rfl)) (same_ok X 8)
  (ok_law_tuple X (k:=7) (ok_law_mix X (k:=6) fMix_len (mix_den N_law_mix rfl)) aB3 aD9) (lo_ok X 5) (ini_ok X 4) (mM_ok X 4) (mP_ok X 4) (mT_ok X 4)
  (by intro ds r h;obtain⟨ns,rfl,_⟩:=(tt_inv h).1;rfl) (law_den X)
end
end K12
namespace K12
open PySem PySem.W L2 L2.HD
noncomputable def frag:Params→Frag:=fun P=>
 (nat_lit 2,⟨.none,none,.dict #[] 0,#[]⟩)::
 (nat_lit 3,od 26 [de P "__name__" 165 (vs "law_whence_k12_least_reasons" 302),
  de P "__doc__" 166 .none,
  de P "__package__" 167 .none,
  de P "__loader__" 168 (.builtin "__main__.__loader__#opaque"),
  de P "__spec__" 169 .none,
  de P "__annotations__" 170 (.ref 6),
  de P "__builtins__" 171 (.ref 4),
  de P "__file__" 173 (vs "/claim/cut.py" 172),
  de P "__cached__" 174 .none,
  de P "is_texts" 194 (.ref 19),
  de P "Reasons" 246 (.ref 53),
  de P "union_of" 253 (.ref 64),
  de P "least_of" 259 (.ref 69),
  de P "numbers_of" 269 (.ref 76),
  de P "bits_of" 279 (.ref 83),
  de P "least_bits" 290 (.ref 90),
  de P "has_within" 301 (.ref 97),
  de P "_law_at" 311 (.ref 104),
  de P "_law_same" 320 (.ref 111),
  de P "_law_mix" 327 (.ref 118),
  de P "_law_name" 336 (.ref 125),
  de P "_law_hits" 342 (.ref 130),
  de P "_law_rising" 348 (.ref 135),
  de P "_law_formed" 354 (.ref 140),
  de P "_law_tuple" 366 (.ref 147),
  de P "law" 372 (.ref 152)])::
 (nat_lit 18,oc "is_texts" 189 "is_texts" 190 191 2 1 3 [(.ref 15),(.bool true),(vi 181),(.ref 16),.none,.none,.none,(.ref 17)] 192 2 193)::
 (nat_lit 19,of "is_texts" "is_texts" (top 1) "whence.plain" 187 18)::
 (nat_lit 32,oc "__init__" 209 "Reasons.__init__" 210 211 7 1 3 [(.ref 27),(.bool true),(vi 181),(.ref 28),.none,(.ref 29),(.ref 30),(.ref 31)] 213 7 214)::
 (nat_lit 33,of "__init__" "Reasons.__init__" (inClass (top 3) 0) "whence.reasons" 195 32)::
 (nat_lit 39,oc "plus" 216 "Reasons.plus" 217 218 11 3 3 [(.ref 34),(.bool true),(vi 181),(.ref 35),.none,(.ref 36),(.ref 37),(.ref 38)] 222 11 223)::
 (nat_lit 40,of "plus" "Reasons.plus" (inClass (top 3) 1) "whence.reasons" 195 39)::
 (nat_lit 44,oc "times" 225 "Reasons.times" 226 227 14 3 3 [(.ref 41),(.bool true),(vi 181),(.ref 42),.none,.none,.none,(.ref 43)] 228 14 229)::
 (nat_lit 45,of "times" "Reasons.times" (inClass (top 3) 2) "whence.reasons" 195 44)::
 (nat_lit 49,oc "is_mark" 231 "Reasons.is_mark" 232 233 24 2 3 [(.ref 46),(.bool true),(vi 181),(.ref 47),.none,.none,.none,(.ref 48)] 234 24 235)::
 (nat_lit 50,of "is_mark" "Reasons.is_mark" (inClass (top 3) 3) "whence.reasons" 195 49)::
 (nat_lit 52,od 4 [de P "__module__" 204 (vs "whence.reasons" 195),
  de P "__firstlineno__" 208 (.int 5 207),
  de P "__init__" 215 (.ref 33),
  de P "plus" 224 (.ref 40),
  de P "times" 230 (.ref 45),
  de P "is_mark" 236 (.ref 50),
  de P "__static_attributes__" 239 (.ref 51),
  de P "__dict__" 241 (.ref 54),
  de P "__weakref__" 243 (.ref 55),
  de P "__doc__" 244 .none])::
 (nat_lit 53,⟨(.type "type"),none,.cls ⟨"Reasons",[(.type "object")],[(.ref 53),(.type "object")],52,"Reasons",true,[],[],false,none,false⟩,#[none,none,some (vs "Reasons" 197),some (vs "Reasons" 205),some (.builtin "object.__new__"),some (.bool true)]⟩)::
 (nat_lit 54,ofd "getset_descriptor" [(vs "__dict__" 240),(.ref 53),(.builtin "function.__dict__"),(.builtin "function.__dict__#set")])::
 (nat_lit 55,ofd "getset_descriptor" [(vs "__weakref__" 242),(.ref 53),(.builtin "ExceptionGroup.__weakref__"),.none])::
 (nat_lit 63,oc "union_of" 247 "union_of" 248 249 28 1 3 [(.ref 58),(.bool true),(vi 181),(.ref 59),.none,(.ref 60),(.ref 61),(.ref 62)] 251 28 252)::
 (nat_lit 64,of "union_of" "union_of" (top 4) "whence.reasons" 195 63)::
 (nat_lit 68,oc "least_of" 254 "least_of" 255 256 30 1 3 [(.ref 65),(.bool true),(vi 181),(.ref 66),.none,.none,.none,(.ref 67)] 257 30 258)::
 (nat_lit 69,of "least_of" "least_of" (top 5) "whence.reasons" 195 68)::
 (nat_lit 75,oc "numbers_of" 260 "numbers_of" 261 262 36 1 3 [(.ref 70),(.bool true),(vi 181),(.ref 71),.none,(.ref 72),(.ref 73),(.ref 74)] 267 36 268)::
 (nat_lit 76,of "numbers_of" "numbers_of" (top 6) "whence.reasons" 195 75)::
 (nat_lit 82,oc "bits_of" 270 "bits_of" 271 272 42 2 3 [(.ref 77),(.bool true),(vi 181),(.ref 78),.none,(.ref 79),(.ref 80),(.ref 81)] 277 42 278)::
 (nat_lit 83,of "bits_of" "bits_of" (top 7) "whence.reasons" 195 82)::
 (nat_lit 89,oc "least_bits" 280 "least_bits" 281 282 47 1 3 [(.ref 84),(.bool true),(vi 181),(.ref 85),.none,(.ref 86),(.ref 87),(.ref 88)] 288 47 289)::
 (nat_lit 90,of "least_bits" "least_bits" (top 8) "whence.reasons" 195 89)::
 (nat_lit 96,oc "has_within" 291 "has_within" 292 293 56 2 3 [(.ref 91),(.bool true),(vi 181),(.ref 92),.none,(.ref 93),(.ref 94),(.ref 95)] 299 56 300)::
 (nat_lit 97,of "has_within" "has_within" (top 9) "whence.reasons" 195 96)::
 (nat_lit 103,oc "_law_at" 304 "_law_at" 305 306 68 2 3 [(.ref 98),(.bool true),(vi 181),(.ref 99),.none,(.ref 100),(.ref 101),(.ref 102)] 309 68 310)::
 (nat_lit 104,of "_law_at" "_law_at" (top 11) "law_whence_k12_least_reasons" 302 103)::
 (nat_lit 110,oc "_law_same" 312 "_law_same" 313 314 72 2 3 [(.ref 105),(.bool true),(vi 181),(.ref 106),.none,(.ref 107),(.ref 108),(.ref 109)] 318 72 319)::
 (nat_lit 111,of "_law_same" "_law_same" (top 12) "law_whence_k12_least_reasons" 302 110)::
 (nat_lit 117,oc "_law_mix" 321 "_law_mix" 322 323 87 1 3 [(.ref 112),(.bool true),(vi 181),(.ref 113),.none,(.ref 114),(.ref 115),(.ref 116)] 325 87 326)::
 (nat_lit 118,of "_law_mix" "_law_mix" (top 13) "law_whence_k12_least_reasons" 302 117)::
 (nat_lit 124,oc "_law_name" 328 "_law_name" 329 330 89 2 3 [(.ref 119),(.bool true),(vi 181),(.ref 120),.none,(.ref 121),(.ref 122),(.ref 123)] 334 89 335)::
 (nat_lit 125,of "_law_name" "_law_name" (top 14) "law_whence_k12_least_reasons" 302 124)::
 (nat_lit 129,oc "_law_hits" 337 "_law_hits" 338 339 94 3 3 [(.ref 126),(.bool true),(vi 181),(.ref 127),.none,.none,.none,(.ref 128)] 340 94 341)::
 (nat_lit 130,of "_law_hits" "_law_hits" (top 15) "law_whence_k12_least_reasons" 302 129)::
 (nat_lit 134,oc "_law_rising" 343 "_law_rising" 344 345 101 1 3 [(.ref 131),(.bool true),(vi 181),(.ref 132),.none,.none,.none,(.ref 133)] 346 101 347)::
 (nat_lit 135,of "_law_rising" "_law_rising" (top 16) "law_whence_k12_least_reasons" 302 134)::
 (nat_lit 139,oc "_law_formed" 349 "_law_formed" 350 351 103 1 3 [(.ref 136),(.bool true),(vi 181),(.ref 137),.none,.none,.none,(.ref 138)] 352 103 353)::
 (nat_lit 140,of "_law_formed" "_law_formed" (top 17) "law_whence_k12_least_reasons" 302 139)::
 (nat_lit 146,oc "_law_tuple" 355 "_law_tuple" 356 357 114 2 3 [(.ref 141),(.bool true),(vi 181),(.ref 142),.none,(.ref 143),(.ref 144),(.ref 145)] 364 114 365)::
 (nat_lit 147,of "_law_tuple" "_law_tuple" (top 18) "law_whence_k12_least_reasons" 302 146)::
 (nat_lit 151,oc "law" 367 "law" 368 369 123 1 3 [(.ref 148),(.bool true),(vi 181),(.ref 149),.none,.none,.none,(.ref 150)] 370 123 371)::
 (nat_lit 152,of "law" "law" (top 19) "law_whence_k12_least_reasons" 302 151)::[]
noncomputable def fas:List Addr:=[2,3,18,19,32,33,39,40,44,45,49,50,52,53,54,55,63,64,68,69,75,76,82,83,89,90,96,97,103,104,110,111,117,118,124,125,129,130,134,135,139,140,146,147,151,152]
theorem fas_ok: ∀P,fas=(frag P).map (·.1):=fun P=>by kernel_rfl
noncomputable def vw:Program:=view PySem.Challenge.pw_whence_k12_least_reasons [1,3,4,5,6,7,8,9,11,12,13,14,15,16,17,18,19]
noncomputable abbrev hook:Hook:=kHook frag fas fas_ok
set_option maxHeartbeats 0 in
theorem left:LeftO PySem.Challenge.pw_whence_k12_least_reasons vw [] (fun s=>xlAt vw [] s&&recOk (RowW.records PySem.Challenge.rw_whence_k12_least_reasons.row.toRowW) s) (Hook.obs hook) (Hook.val hook) 1742:=by
 refine left_of (boot_open (by kernel_rfl) (by decide+kernel) (fun s=>by kernel_rfl)) fun w=> ?_
 rw[Fast.te5923862056798008813,Fast.te4187177175401517315,Fast.te6613529449190102663,Fast.te10156331382660048174,Fast.te11892475500146522536,Fast.te14364793385576792824]
 kernel_rfl
noncomputable def adr:Adr:={aAm:=53,f_is_texts:=19,aBl:=33,aCg:=40,aB8:=45,aBs:=50,f_union_of:=64,f_least_of:=69,aDf:=76,f_bits_of:=83,aDg:=90,aDj:=97,f_law_at:=104,f_law_same:=111,f_law_mix:=118,f_law_name:=125,f_law_hits:=130,aDh:=135,aDi:=140,aD2:=147,f_law:=152}
set_option maxHeartbeats 0 in
theorem txt {P:Params} {h:Heap} {mg:Str→Option Value} (X:(frag P).In h) (G:h.Ns mainGlobals mg):Txt (frag P) mg adr where
 g_Reasons:=mg_of X G (by kernel_rfl)
 cl_Reasons:=⟨by kernel_rfl,by kernel_rfl,by kernel_rfl,by kernel_rfl⟩
 mk_Reasons:=⟨by kernel_rfl,by kernel_rfl,by kernel_rfl,by kernel_rfl⟩
 me_Reasons_plus:=⟨by kernel_rfl,by kernel_rfl,by kernel_rfl⟩
 me_Reasons_times:=⟨by kernel_rfl,by kernel_rfl,by kernel_rfl⟩
 aEc:=⟨by kernel_rfl,by kernel_rfl,by kernel_rfl⟩
 nf_nought:=fun C hC=>by
  simp only[cs,decide_eq_true_eq] at hC
  subst hC
  all_goals exact⟨⟨by kernel_rfl,by kernel_rfl,by kernel_rfl,by kernel_rfl⟩,by unfold NoAttr;kernel_rfl⟩
 nf_one:=fun C hC=>by
  simp only[cs,decide_eq_true_eq] at hC
  subst hC
  all_goals exact⟨⟨by kernel_rfl,by kernel_rfl,by kernel_rfl,by kernel_rfl⟩,by unfold NoAttr;kernel_rfl⟩
 aB1:=fo (m:="whence.plain") (mt:=187) (c:=18) ["thing"] (by kernel_rfl) (by kernel_rfl) (by kernel_rfl) fun _ _ _ _ _ _ us hl=>by obtain⟨_,rfl⟩:=PU.ar1 us hl;rfl
 g_is_texts:=mg_of X G (by kernel_rfl)
 F_Reasons___init__:=fo (m:="whence.reasons") (mt:=195) (c:=32) ["self"] (by kernel_rfl) (by kernel_rfl) (by kernel_rfl) fun _ _ _ _ _ _ us hl=>by obtain⟨_,rfl⟩:=PU.ar1 us hl;rfl
 F_Reasons_plus:=fo (m:="whence.reasons") (mt:=195) (c:=39) ["self","a","b"] (by kernel_rfl) (by kernel_rfl) (by kernel_rfl) fun _ _ _ _ _ _ us hl=>by obtain⟨_,_,_,rfl⟩:=PU.ar3 us hl;rfl
 F_Reasons_times:=fo (m:="whence.reasons") (mt:=195) (c:=44) ["self","a","b"] (by kernel_rfl) (by kernel_rfl) (by kernel_rfl) fun _ _ _ _ _ _ us hl=>by obtain⟨_,_,_,rfl⟩:=PU.ar3 us hl;rfl
 F_Reasons_is_mark:=fo (m:="whence.reasons") (mt:=195) (c:=49) ["self","thing"] (by kernel_rfl) (by kernel_rfl) (by kernel_rfl) fun _ _ _ _ _ _ us hl=>by obtain⟨_,_,rfl⟩:=PU.ar2 us hl;rfl
 aBz:=fo (m:="whence.reasons") (mt:=195) (c:=63) ["pair"] (by kernel_rfl) (by kernel_rfl) (by kernel_rfl) fun _ _ _ _ _ _ us hl=>by obtain⟨_,rfl⟩:=PU.ar1 us hl;rfl
 g_union_of:=mg_of X G (by kernel_rfl)
 aAo:=fo (m:="whence.reasons") (mt:=195) (c:=68) ["some"] (by kernel_rfl) (by kernel_rfl) (by kernel_rfl) fun _ _ _ _ _ _ us hl=>by obtain⟨_,rfl⟩:=PU.ar1 us hl;rfl
 g_least_of:=mg_of X G (by kernel_rfl)
 aAr:=fo (m:="whence.reasons") (mt:=195) (c:=75) ["some"] (by kernel_rfl) (by kernel_rfl) (by kernel_rfl) fun _ _ _ _ _ _ us hl=>by obtain⟨_,rfl⟩:=PU.ar1 us hl;rfl
 g_numbers_of:=mg_of X G (by kernel_rfl)
 aA3:=fo (m:="whence.reasons") (mt:=195) (c:=82) ["names","numbers"] (by kernel_rfl) (by kernel_rfl) (by kernel_rfl) fun _ _ _ _ _ _ us hl=>by obtain⟨_,_,rfl⟩:=PU.ar2 us hl;rfl
 g_bits_of:=mg_of X G (by kernel_rfl)
 aAs:=fo (m:="whence.reasons") (mt:=195) (c:=89) ["sets"] (by kernel_rfl) (by kernel_rfl) (by kernel_rfl) fun _ _ _ _ _ _ us hl=>by obtain⟨_,rfl⟩:=PU.ar1 us hl;rfl
 g_least_bits:=mg_of X G (by kernel_rfl)
 aBf:=fo (m:="whence.reasons") (mt:=195) (c:=96) ["kept","one"] (by kernel_rfl) (by kernel_rfl) (by kernel_rfl) fun _ _ _ _ _ _ us hl=>by obtain⟨_,_,rfl⟩:=PU.ar2 us hl;rfl
 g_has_within:=mg_of X G (by kernel_rfl)
 aC8:=fo (m:="law_whence_k12_least_reasons") (mt:=302) (c:=103) ["_law_script","_law_k"] (by kernel_rfl) (by kernel_rfl) (by kernel_rfl) fun _ _ _ _ _ _ us hl=>by obtain⟨_,_,rfl⟩:=PU.ar2 us hl;rfl
 g_law_at:=mg_of X G (by kernel_rfl)
 aAw:=fo (m:="law_whence_k12_least_reasons") (mt:=302) (c:=110) ["_law_found","_law_due"] (by kernel_rfl) (by kernel_rfl) (by kernel_rfl) fun _ _ _ _ _ _ us hl=>by obtain⟨_,_,rfl⟩:=PU.ar2 us hl;rfl
 g_law_same:=mg_of X G (by kernel_rfl)
 aCi:=fo (m:="law_whence_k12_least_reasons") (mt:=302) (c:=117) ["_law_cell"] (by kernel_rfl) (by kernel_rfl) (by kernel_rfl) fun _ _ _ _ _ _ us hl=>by obtain⟨_,rfl⟩:=PU.ar1 us hl;rfl
 g_law_mix:=mg_of X G (by kernel_rfl)
 aB0:=fo (m:="law_whence_k12_least_reasons") (mt:=302) (c:=124) ["_law_style","_law_k"] (by kernel_rfl) (by kernel_rfl) (by kernel_rfl) fun _ _ _ _ _ _ us hl=>by obtain⟨_,_,rfl⟩:=PU.ar2 us hl;rfl
 g_law_name:=mg_of X G (by kernel_rfl)
 aA5:=fo (m:="law_whence_k12_least_reasons") (mt:=302) (c:=129) ["_law_sets","_law_mask","_law_names"] (by kernel_rfl) (by kernel_rfl) (by kernel_rfl) fun _ _ _ _ _ _ us hl=>by obtain⟨_,_,_,rfl⟩:=PU.ar3 us hl;rfl
 g_law_hits:=mg_of X G (by kernel_rfl)
 aA6:=fo (m:="law_whence_k12_least_reasons") (mt:=302) (c:=134) ["_law_row"] (by kernel_rfl) (by kernel_rfl) (by kernel_rfl) fun _ _ _ _ _ _ us hl=>by obtain⟨_,rfl⟩:=PU.ar1 us hl;rfl
 g_law_rising:=mg_of X G (by kernel_rfl)
 aBe:=fo (m:="law_whence_k12_least_reasons") (mt:=302) (c:=139) ["_law_found"] (by kernel_rfl) (by kernel_rfl) (by kernel_rfl) fun _ _ _ _ _ _ us hl=>by obtain⟨_,rfl⟩:=PU.ar1 us hl;rfl
 g_law_formed:=mg_of X G (by kernel_rfl)
 aBn:=fo (m:="law_whence_k12_least_reasons") (mt:=302) (c:=146) ["_law_cell","_law_names"] (by kernel_rfl) (by kernel_rfl) (by kernel_rfl) fun _ _ _ _ _ _ us hl=>by obtain⟨_,_,rfl⟩:=PU.ar2 us hl;rfl
 g_law_tuple:=mg_of X G (by kernel_rfl)
 F_law:=fo (m:="law_whence_k12_least_reasons") (mt:=302) (c:=151) ["_law_script"] (by kernel_rfl) (by kernel_rfl) (by kernel_rfl) fun _ _ _ _ _ _ us hl=>by obtain⟨_,rfl⟩:=PU.ar1 us hl;rfl
 g_law:=mg_of X G (by kernel_rfl)
 b_all:=mg_none_of X G (by kernel_rfl)
 b_any:=mg_none_of X G (by kernel_rfl)
 b_bool:=mg_none_of X G (by kernel_rfl)
 b_int:=mg_none_of X G (by kernel_rfl)
 aAq:=mg_none_of X G (by kernel_rfl)
 b_len:=mg_none_of X G (by kernel_rfl)
 b_list:=mg_none_of X G (by kernel_rfl)
 b_min:=mg_none_of X G (by kernel_rfl)
 b_range:=mg_none_of X G (by kernel_rfl)
 b_set:=mg_none_of X G (by kernel_rfl)
 b_sorted:=mg_none_of X G (by kernel_rfl)
 b_str:=mg_none_of X G (by kernel_rfl)
 aC2:=mg_none_of X G (by kernel_rfl)
end K12
namespace K12
open PySem PySem.Spec PyProof.Rows L2 L2.PU
noncomputable def spLaw (K:PySem.W.Frag):Sp:=fun vs H Q _=> ∃(a:Addr) (ns:List Int),vs=[.ref a]∧SqL K H a (ns.map V.int)∧ns.length≤63∧∀H',Q (.bl true) H'
theorem walk {l:PySem.W.OpenLaw} {q:Program} {loose:List Str} {XP:(Str→Option Value)→Heap→Prop} {YP:World→Heap→Prop} {d:DefRec} {K:Params→PySem.W.Frag} (hn:l.most=some 63) (hdf:d.params.defaults=[]) (hnm:d.name="law")
  (hY: ∀(w:World) (h:Heap),YP w h→(K w.params).In h)
  (T: ∀(w:World) (mg:Str→Option Value) (h:Heap),(K w.params).In h→h.Ns mainGlobals mg→∃t,Txt (K w.params) mg t):
  PySem.W.WalkO q loose XP YP l.row.toRowW d [] (fun f vs=>PySem.call f vs):=by
 refine L2.walk_of (n:=63) (k:=9) (x:="_law_script") (CX:=fun w=>CXD l.prog w) (sp:=fun w=>spLaw (K w.params)) hn (by decide) hdf ⟨rfl,by decide,by decide⟩ hY (fun w mg fa h KX G hmg=> ?_) (fun _ _ a ns hl _ hS=>⟨a,ns,rfl,hS,hl,fun _=>rfl⟩) (fun w H s e s' ⟨_,_,_,_,_,_,_,_,z⟩=>z)
 obtain⟨t,T⟩:=T w mg h KX G
 have e:=hmg.symm.trans ((congrArg mg hnm).trans T.g_law)
 cases e
 obtain⟨fd,Fu,bi⟩:=T.F_law
 refine⟨fd,fun s v=> ?_,fun base _ _=> ?_⟩
 ·obtain⟨oc,od,kV,doc,pm,an,cdv,ct,osl,rfl,lk,hcd⟩:=Fu.ex
  exact .of_eq rfl
 ·refine (law_fn (P:=l.prog) (w:=w) (base:=base) T Fu).imp fun vs H Q E ⟨a,ns,e1,hS,hl,q⟩=> ?_
  subst e1
  refine⟨[.lst (ns.map D.int)],.cons (.lst hS (isL_ints ns)) .nil,rfl,?_⟩
  rw[tt_ok (show sLawS _ from⟨ns,rfl,hl⟩)]
  intro v H' s' i'
  cases i'
  exact q H'
end K12
open PySem PySem.W PyProof.Rows
set_option maxRecDepth 100000 in
set_option maxHeartbeats 0 in
theorem PySem.Challenge.cw_whence_k12_least_reasons_holds : PySem.Challenge.rw_whence_k12_least_reasons.Holds := by
 w_on;o_law
 refine L2.HD.holds_of (l:=PySem.Challenge.rw_whence_k12_least_reasons) (q:=K12.vw) K12.left (by first | assumption | decide+kernel) (by rfl) (by rfl) (by rfl) (by rfl) (by decide+kernel) ⟨rfl,rfl,rfl,rfl,rfl,by decide+kernel⟩ ?hw ?hc
 (case hw=>w_witness2)
 exact K12.walk (l:=PySem.Challenge.rw_whence_k12_least_reasons) rfl rfl rfl (fun w h Y=>PySem.W.kIn_of Y) fun w mg h KX G=>⟨_,K12.txt KX G⟩
