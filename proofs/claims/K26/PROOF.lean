import PyProof.Rows.All
import Wide.All
import OpenK.AllK
import Wide.FinOn
import Lean
import PyProof.EqAt
import PyProof.EqKinds
import PyProof.TupleCall
import PySem.Challenge.RW_whence_k26_refusals_apart
noncomputable section
set_option Elab.async false
set_option linter.all false
set_option bootstrap.genMatcherCode false
set_option maxRecDepth 100000
open PySem.W renaming kitOne→Qa,Frag→Qb,exmOne→Qi,excIn→Zg,emptyDict→Zk,findIn→Zo,Looks→Zv,instObj→Zy,hideAll→Z7,hideAll_get→Y4,looks_findIn→Jg,fnOf→Jl,of_hideAll→Jn,keepIn→Jo,callWith_K→Jp,plainGet→Js,lookIn→Jz,plainGet_of→J2,methodObj→J6,hasDictIn→J7,takerIn→Ug,codeIn→Ul,isFn→Ut,funFrames_hide→Uu,cellsFrom_some→Uv,methodCall_KW→Uw,looks_mroIn→U0,callWith_K0→U4,plainOver→U7,kitx_dict→U8,handedIn→Wb,makesIn→Wd,kit_cls→We,OpenLaw→Wf
open PySem renaming wpAny_bind→Qc,Value→Qd,wpAny_pure→Qe,Shared→Qf,strKind→Qk,model→Ql,wpAny→Qm,sizeLine→Qq,Program→Qr,starEach→Qz,World→Q2,Around→Za,wpAny_setEntries_of→Zh,rawInt→Zm,wpAny_call_entry→Zn,foldedSetIterable→Zs,SetTable→Zw,reprText→Z3,FuncData→Z5,wpAny_holding→Z8,wpAny_setState_of→Yc,wpAny_newObj_type→Yd,wpAny_callSpecial?_slot→Ye,compareOp→Yl,mainGlobals→Yp,bootBuiltins→Yq,wpAny_mono→Ys,behindInMarks→Yt,wpAny_Call_Name_kw→Y1,codeAny_builtin→Y3,mem_of_lookup→Y8,call→Up,Within→Uy
open False renaming elim→Qg
open PySem.Heap renaming get?_push_of_some→Qh,lt_size→Qp,get?_push_size→Qs,SameBut→Yg,get?_update_other→Yv,get?_update_self→Y0
open List renaming getElem?_set_ne→Qj,size_toArray→Qo,mem_cons_self→Qt,length_map→Qv,mem_cons_of_mem→Qw,length_append→Qx,getElem?_set_self→Q1,getElem?_eq_getElem→Q3,length_cons→Q4,length_set→Q5,replicate→Q8,map_cons→Q9,mem_append_right→Zd,append_nil→Zl,getElem?_map→Zp,length_take→Zu,getD_eq_getElem?_getD→Zz,find?_cons→Z0,getElem?_append_left→Z4,set_eq_of_length_le→Z6,getElem?_replicate→Z9,range→Yb,getElem?_append_right→Yj,mem_append_left→Yn,append_assoc→Yo,not_mem_nil→Yr,length_replicate→Yz,length_range→Y2,mem_cons→Y9,all_cons→Ja,getElem?_eq_none→Jh,any_cons→Jj,lookup→Jk,foldl_cons→Jm,drop_eq_getElem_cons→Jr,length_drop→Jx,getElem?_cons_succ→Jy,length_nil→J1,length→J3,replicate_succ→J4,filterMap_cons→J5,lookup_cons→Uj,all_eq_true→Uk,of_mem_zip→Um,map_append→Uo,perm_ext_iff_of_nodup→Uq,length_eraseIdx_of_lt→Ur,map_nil→U5,drop_eq_nil_of_le→U6,mem_of_getElem?→U9
open Nat renaming le_refl→Qn,ne_of_lt→Qy,lt_of_lt_of_le→Q0,le_trans→Zi,zero_le→Y5,lt_irrefl→Jc,le_succ→Jf,lt_succ_self→Ji,le_of_lt→J0,ne_of_gt→Uh,lt_succ_of_lt→Ui
open Bool renaming false_ne_true→Qu,and_eq_true→Q6,or_eq_true→Z1,noConfusion→Yi,eq_iff_iff→Jd,false_eq_true→Je,not_true→J9,false_and→Us,true_and→Ux
open PySem.F renaming excBase_ValueError→Q7,args_tuple_add_2→Jq,entry_tuple_add→Jt,slot_tuple_add→Jw
open PySem.AutoSeq1 renaming wpAny_loadPart'→Zb
open PySem.Value renaming ref→Zc,isStrOf_shape→Zx,str→Ym
open Int renaming toNat_natCast→Ze
open Or renaming inl→Zf,inr→Ud
open Array renaming length_toList→Zj,getElem?_eq_getElem→Y7,size_append→Uc,getElem?_eq_none→Uz,toList_append→Wa,append_assoc→Wc,toList_push→Wg
open Sum renaming inr→Zq,inl→Ue
open PySem.Str renaming empty→Zr,ofString→Yh
open PySem.Heap.SameBut renaming update→Zt
open PySem.SetTable renaming sizeAbove→Z2
open PyProof.Rows renaming slot_tuple_getitem→Yk,callWith_type1→J8
open PySem.Builtin.List renaming listExtendWith→Yu
open PySem.Obj renaming data_mapFields→Yw
open PyProof.Rows.F renaming plain_set_update_loop→Yx,entry_set_update_loop→Ju
open PySem.Builtin.Slice renaming slicePlaces→Yy
open PySem.Spec renaming sameAll→Y6,same→Ua
open PySem.W.Looks renaming ld→Jb
open Option renaming getD_none→Jv,isSome_map→Ub
namespace L2
open PySem PySem.Spec PyProof.Rows
abbrev Key:=Sum Int Str
def aUx:Key->Qd->Bool
 | .inl k,v=>Value.isInt k v
 | .inr x,v=>Value.isStrOf x v
def bM8 (w:Q2):Key->Int
 | .inl k=>hashInt k
 | .inr x=>hashStr w x
theorem aBw: ∀{k:Key} {v:Qd},aUx k v=true->(∃i t,k=Ue i/\v=Value.int i t)\/(∃x t,k=Zq x/\v=Ym x t)
 | .inl i,v,h=>by
  obtain⟨t,e⟩:=Value.isInt_shape (k:=i) (v:=v) h;exact .inl ⟨i,t,rfl,e⟩
 | .inr x,v,h=>by
  obtain⟨t,e⟩:=Zx (x:=x) (v:=v) h;exact .inr ⟨x,t,rfl,e⟩
theorem aX1 (i:Int)(t:Tok):aUx (.inl i) (.int i t)=true:=by simp[aUx,Value.isInt]
theorem aX0 (x:Str)(t:Tok):aUx (.inr x) (.str x t)=true:=by simp[aUx,Value.isStrOf]
theorem bId (a b:Int):decide ((Ue a:Key)=Ue b)=(a==b):=by
 by_cases e:a=b
 ·subst e;simp
 ·have h:¬(Ue a:Key)=Ue b:=fun q=>e (Sum.inl.inj q)
  rw[decide_eq_false h];exact (beq_eq_false_iff_ne.mpr e).symm
theorem bIa (a b:Str):decide ((Zq a:Key)=Zq b)=decide (a=b):=by
 by_cases e:a=b
 ·subst e;simp
 ·have h:¬(Zq a:Key)=Zq b:=fun q=>e (Sum.inr.inj q)
  rw[decide_eq_false h,decide_eq_false e]
theorem bIc (a:Int)(b:Str):decide ((Ue a:Key)=Zq b)=false:=decide_eq_false (fun q=>nomatch q)
theorem bIb (a:Str)(b:Int):decide ((Zq a:Key)=Ue b)=false:=decide_eq_false (fun q=>nomatch q)
def aCk (prog:Qr)(w:Q2):PySem.KeyKind prog w Key where
 is:=aUx
 hash:=bM8 w
 inj:=fun v a b ha hb=>by
  rcases aBw ha with⟨i,t,rfl,rfl⟩ |⟨x,t,rfl,rfl⟩
  ·rcases aBw hb with⟨j,u,rfl,e⟩ |⟨y,u,rfl,e⟩
   ·injection e with e1 _;rw[e1]
   ·exact nomatch e
  ·rcases aBw hb with⟨j,u,rfl,e⟩ |⟨y,u,rfl,e⟩
   ·exact nomatch e
   ·injection e with e1 _;rw[e1]
 byValue:=fun k v h=>by
  rcases aBw h with⟨i,t,rfl,rfl⟩ |⟨x,t,rfl,rfl⟩<;>rfl
 pyHash:=fun hv h=>by
  rcases aBw hv with⟨i,t,rfl,rfl⟩ |⟨x,t,rfl,rfl⟩
  ·exact wpAny_pyHash_int h
  ·exact wpAny_pyHash_str h
 eqBool:=fun hu hv h=>by
  rcases aBw hu with⟨i,t,rfl,rfl⟩ |⟨x,t,rfl,rfl⟩
  ·rcases aBw hv with⟨j,u,rfl,rfl⟩ |⟨y,u,rfl,rfl⟩
   ·rw[bId] at h;exact wpAny_eqBool_int h
   ·rw[bIc] at h;exact SeqAt.EqAt.int_str i t y u _ _ _ _ h
  ·rcases aBw hv with⟨j,u,rfl,rfl⟩ |⟨y,u,rfl,rfl⟩
   ·rw[bIb] at h;exact SeqAt.EqAt.str_int x t j u _ _ _ _ h
   ·rw[bIa] at h;exact wpAny_eqBool_str h
 «strs»:=fun k x t v h=>by
  rcases aBw h with⟨i,u,rfl,e⟩ |⟨y,u,rfl,e⟩
  ·exact nomatch e
  ·injection e with e1 _
   subst e1;cases v<;>rfl
theorem aRp (prog:Qr)(w:Q2)(i:Int)(t:Tok):(aCk prog w).is (.inl i) (.int i t)=true:=aX1 i t
theorem aRo (prog:Qr)(w:Q2)(x:Str)(t:Tok):(aCk prog w).is (.inr x) (.str x t)=true:=aX0 x t
inductive V where
 | non | bl (b:Bool) | int (i:Int) | str (x:Str) | byt (b:Array UInt8) | flt (b:UInt64) | ref (a:Addr) | ty (n:String)
 deriving DecidableEq
def RelV:V->Qd->Prop
 | .non,u=>u=Value.none
 | .bl b,u=>u=Value.bool b
 | .int i,u=> ∃t,u=Value.int i t
 | .str x,u=> ∃t,u=Ym x t
 | .byt b,u=> ∃t,u=Value.bytes b t
 | .flt b,u=> ∃t,u=Value.float b t
 | .ref a,u=>u=Zc a
 | .ty n,u=>u=Value.type n
abbrev Vals:List V->List Qd->Prop:=Paired RelV
theorem Vals.length {xs:List V}{us:List Qd}(r:Vals xs us):xs.length=us.length:=Paired.length r
theorem Vals.get: ∀{xs:List V} {us:List Qd} {i:Nat} {x:V},Vals xs us->xs[i]? =some x->∃u,us[i]? =some u/\RelV x u
 | _,_,_,_,.nil,e=>by simp at e
 | _,_,0,_,.cons r _,e=>by simp at e;subst e;exact⟨_,rfl,r⟩
 | _,_,i+1,x,.cons _ t,e=>by
  obtain⟨u,h1,h2⟩:=Vals.get (i:=i) (x:=x) t (by simpa using e);exact⟨u,by simpa using h1,h2⟩
theorem Vals.append: ∀{xs ys:List V} {us ws:List Qd},Vals xs us->Vals ys ws->Vals (xs++ys) (us++ws)
 | _,_,_,_,.nil,s=>s
 | _,_,_,_,.cons r t,s=> .cons r (Vals.append t s)
theorem Vals.take: ∀{xs:List V} {us:List Qd} (n:Nat),Vals xs us->Vals (xs.take n) (us.take n)
 | _,_,0,_=> .nil
 | _,_,_+1,.nil=> .nil
 | _,_,n+1,.cons r t=> .cons r (Vals.take n t)
theorem Vals.drop: ∀{xs:List V} {us:List Qd} (n:Nat),Vals xs us->Vals (xs.drop n) (us.drop n)
 | _,_,0,r=>r
 | _,_,_+1,.nil=> .nil
 | _,_,n+1,.cons _ t=>Vals.drop n t
def aTy:Option V->Option Qd->Prop
 | some v,some u=>RelV v u
 | none,none=>True
 | _,_=>False
def KV {κ:Type}:List (κ×V)->List (κ×Qd)->Prop:=Paired fun (p:κ×V) (q:κ×Qd)=>p.1=q.1/\RelV p.2 q.2
def kV:Key->V
 | .inl i=> .int i
 | .inr x=> .str x
inductive HO where
 | lst (xs:List V)
 | tup (xs:List V)
 | dK (kvs:List (Key×V)) | dT (kvs:List (List Key×V))
 | set (S:Str->Bool) (n:Nat)
 | ins (C dx:Addr) (fs:List (Str×V))
 | own (x:Addr)
 | xd (fs:List (Str×V))
 | met (f x:Addr)
 | rng (lo hi:Int)
 | frz (o:Obj) (u:HO)
 | tbl (ps:Array Qd)
 | ext (φ:Heap->Prop)
abbrev Hp:=Addr->Option HO
def upd (H:Hp)(a:Addr)(o:HO):Hp:=fun b=>if b=a then some o else H b
theorem aAs {H:Hp}{a:Addr}{o:HO}:upd H a o a=some o:=by unfold upd;rw[if_pos rfl]
theorem aAq {H:Hp}{a b:Addr}{o:HO}(h:b≠a):upd H a o b=H b:=by unfold upd;rw[if_neg h]
theorem bKu {H:Hp}{a b:Addr}{o u:HO}(h:H a=some o)(h':H b=some u)(d:o≠u):a≠b:=by
 intro e;subst e;rw[h] at h';exact d (Option.some.inj h')
theorem aBi {H:Hp}{a b:Addr}{o:HO}(h:H a=some o)(h':H b=none):a≠b:=by
 intro e;subst e;rw[h] at h';cases h'
def bNj (w:Q2)(o:Obj):Prop:= ∃es ep t,o.data= .set es ep t/\(w.params.followText "set-order"=true\/t.led=true)/\(es.size=0\/t.plain=false)
def aVc (w:Q2)(h:Heap)(a:Addr):Prop:= ∃o,h.get? a=some o/\bNj w o
def aZy (h:Heap)(a:Addr)(its:Array Qd):Prop:= ∃o,h.get? a=some o/\o.cls= .type "tuple"/\(∃n,o.data= .seq its n)/\o.dict=none
theorem aZy.tup {h:Heap}{a:Addr}{its:Array Qd}(x:aZy h a its):IsTup h a its:=let ⟨o,e,c,d,_⟩:=x;⟨o,e,c,d⟩
theorem aZy.lt {h:Heap}{a:Addr}{its:Array Qd}(x:aZy h a its):a<h.objs.size:=let ⟨_,e,_⟩:=x;Qp e
theorem aZy.new (h:Heap)(its:Array Qd):aZy (h.push {cls:= .type "tuple",data:= .seq its}) h.objs.size its:=⟨_,Qs _ rfl,rfl,⟨_,rfl⟩,rfl⟩
section
variable (P:Qr)(w:Q2)
def aCn (H:Hp)(h:Heap)(a:Addr):HO->Prop
 | .lst xs=>xs.length<=Qq/\∃(its:List Qd) (n:Nat),Vals xs its/\h.get? a=some {cls:= .type "list",data:= .seq its.toArray n}
 | .tup xs=>xs.length<=Qq/\∃its:List Qd,Vals xs its/\aZy h a its.toArray
 | .dK kvs=>kvs.length<=Qq/\(a==sysModules)=false/\∃vs,KV kvs vs/\h.DictOf (aCk P w) a vs
 | .dT kvs=>kvs.length<=Qq/\(a==sysModules)=false/\∃xs:List (List Key×Addr×Qd),
   Paired (fun (p:List Key×V) (q:List Key×Addr×Qd)=>p.1=q.1/\H q.2.1=some (.tup (p.1.map kV))/\RelV p.2 q.2.2) kvs xs/\
   ∃o es ep,h.get? a=some o/\o.ExactDict/\o.data= .dict es ep/\es.toList=xs.map (entryOfKey (tupleKind (aCk P w)))/\(xs.map (·.1)).Nodup
 | .set S n=>h.SetOf (Qk P w) a S n/\aVc w h a
 | .ins C dx fs=>H dx=some (.own a)/\fs.length<=1000/\dx≠a/\h.get? a=some (Zy C dx)/\
   ∃mA,h.Ns1 dx mA/\(∀f,aTy (fs.lookup f) (mA f))/\Uy mA (fs.map (·.1))
 | .own _=> ∃o,h.get? a=some o
 | .xd fs=> ∃mA,h.Ns1 a mA/\∀f,aTy (fs.lookup f) (mA f)
 | .rng lo hi=> ∃t u v,h.get? a=some {cls:= .type "range",data:= .fields #[.int lo t,.int hi u,.int 1 v]}
 | .frz o u=>h.get? a=some o/\aCn H h a u
 | .tbl ps=>h.get? a=some {cls:= .none,data:= .fields ps}
 | .met f x=>h.get? a=some (J6 (.ref f) (.ref x))
 | .ext φ=>φ h/\(∃o,h.get? a=some o)/\∀h1 h2:Heap,φ h1->(∀o,h1.get? a=some o->h2.get? a=some o)->φ h2
def HOk (H:Hp)(h:Heap):Prop:= ∀a o,H a=some o->aCn P w H h a o
end
section
variable {P:Qr}{w:Q2}{H H':Hp}{h h':Heap}{a:Addr}{o:HO}
theorem aCn.lt (x:aCn P w H h a o):a<h.objs.size:=by
 cases o with
 | lst xs=>obtain⟨_,_,_,_,e⟩:=x;exact Qp e
 | tup xs=>obtain⟨_,_,_,p⟩:=x;exact p.lt
 | dK kvs=>obtain⟨_,_,_,_,o,_,_,e,_⟩:=x;exact Qp e
 | dT kvs=>obtain⟨_,_,_,_,o,_,_,e,_⟩:=x;exact Qp e
 | set S n=>obtain⟨⟨o,_,_,_,e,_⟩,_⟩:=x;exact Qp e
 | ins C dx fs=>obtain⟨_,_,_,e,_⟩:=x;exact Qp e
 | own y=>obtain⟨_,e⟩:=x;exact Qp e
 | xd fs=>obtain⟨_,⟨_,_,_,e,_⟩,_⟩:=x;exact Qp e
 | rng lo hi=>obtain⟨_,_,_,e⟩:=x;exact Qp e
 | frz ob u=>obtain⟨e,_⟩:=x;exact Qp e
 | tbl ps=>exact Qp (show h.get? a=some _ from x)
 | met f y=>exact Qp (show h.get? a=some _ from x)
 | ext φ=>obtain⟨_,⟨_,e⟩,_⟩:=x;exact Qp e
theorem Paired.bKy {α β:Type}{F G:α->β->Prop}: ∀{l₁:List α} {l₂:List β},Paired F l₁ l₂->(∀a b,F a b->G a b)->Paired G l₁ l₂
 | _,_,.nil,_=> .nil
 | _,_,.cons r t,f=> .cons (f _ _ r) (Paired.bKy t f)
theorem aCn.stay (x:aCn P w H h a o)(k: ∀b u,(b=a\/H b=some (.own a))->h.get? b=some u->h'.get? b=some u)
  (ho: ∀b,H b=some (.own a)->H' b=some (.own a)) (ht: ∀b xs,H b=some (.tup xs)->H' b=some (.tup xs)):aCn P w H' h' a o:=by
 induction o with
 | lst xs=>obtain⟨z,its,n,r,e⟩:=x;exact⟨z,its,n,r,k _ _ (.inl rfl) e⟩
 | tup xs=>obtain⟨z,its,r,ob,e,c⟩:=x;exact⟨z,its,r,ob,k _ _ (.inl rfl) e,c⟩
 | dK kvs=>obtain⟨z,y,vs,r,ob,es,ep,e,c⟩:=x;exact⟨z,y,vs,r,ob,es,ep,k _ _ (.inl rfl) e,c⟩
 | dT kvs=>
  obtain⟨z,y,xs,r,ob,es,ep,e,c⟩:=x;exact⟨z,y,xs,Paired.bKy r fun p q z=>⟨z.1,ht _ _ z.2.1,z.2.2⟩,ob,es,ep,k _ _ (.inl rfl) e,c⟩
 | set S n=>obtain⟨⟨ob,es,ep,t,e,c⟩,o',e',c'⟩:=x;exact⟨⟨ob,es,ep,t,k _ _ (.inl rfl) e,c⟩,o',k _ _ (.inl rfl) e',c'⟩
 | ins C dx fs=>
  obtain⟨d,z,ne,e,mA,⟨od,es,ep,e2,c⟩,r⟩:=x;exact⟨ho _ d,z,ne,k _ _ (.inl rfl) e,mA,⟨od,es,ep,k _ _ (.inr d) e2,c⟩,r⟩
 | own y=>obtain⟨ob,e⟩:=x;exact⟨ob,k _ _ (.inl rfl) e⟩
 | xd fs=>obtain⟨mA,⟨od,es,ep,e,c⟩,r⟩:=x;exact⟨mA,⟨od,es,ep,k _ _ (.inl rfl) e,c⟩,r⟩
 | rng lo hi=>obtain⟨t,u,v,e⟩:=x;exact⟨t,u,v,k _ _ (.inl rfl) e⟩
 | frz ob u ih=>obtain⟨e,q⟩:=x;exact⟨k _ _ (.inl rfl) e,ih q⟩
 | tbl ps=>
  have e:h.get? a=some {cls:= .none,data:= .fields ps}:=x;show h'.get? a=some {cls:= .none,data:= .fields ps};exact k a _ (.inl rfl) e
 | met f y=>
  have e:h.get? a=some (J6 (.ref f) (.ref y)):=x;show h'.get? a=some (J6 (.ref f) (.ref y));exact k a _ (.inl rfl) e
 | ext φ=>obtain⟨p,⟨o,e⟩,st⟩:=x;exact⟨st _ _ p fun o q=>k _ _ (.inl rfl) q,⟨o,k _ _ (.inl rfl) e⟩,st⟩
theorem HOk.lt (x:HOk P w H h)(e:H a=some o):a<h.objs.size:=(x a o e).lt
theorem HOk.fresh (x:HOk P w H h)(e:h.objs.size<=a):H a=none:=by
 cases q:H a with
 | none=>rfl
 | some u=>exact absurd (Q0 (x.lt q) e) (Jc _)
theorem HOk.kept (x:HOk P w H h)(k: ∀b u,h.get? b=some u->h'.get? b=some u):HOk P w H h':=fun a o e=>
 (x a o e).stay (fun b u _ q=>k b u q) (fun _ q=>q) fun _ _ q=>q
theorem HOk.laid (x:HOk P w H h)(k: ∀b u,h.get? b=some u->h'.get? b=some u)(hp:h.objs.size<=a)(new:aCn P w (upd H a o) h' a o):HOk P w (upd H a o) h':=fun b u e=>by
 have hn:=x.fresh hp;by_cases hb:b=a
 ·subst hb;rw[aAs] at e;cases e;exact new
 ·rw[aAq hb] at e
  exact (x b u e).stay (fun c v _ q=>k c v q) (fun c q=>by rw[aAq (aBi q hn)];exact q) fun c xs q=>by rw[aAq (aBi q hn)];exact q
end
def Rd (H:Hp)(a:Addr)(u:HO):Prop:=H a=some u\/∃o,H a=some (.frz o u)
theorem Rd.ok {P:Qr}{w:Q2}{H:Hp}{h:Heap}{a:Addr}{u:HO}(r:Rd H a u)(x:HOk P w H h):aCn P w H h a u:=by
 rcases r with r |⟨o,r⟩
 ·exact x a u r
 ·obtain⟨_,q⟩:=x a _ r
  exact q
def Mut:Option HO->Prop
 | some (.lst _)=>True
 | some (.dK _)=>True
 | some (.dT _)=>True
 | some (.set _ _)=>True
 | some (.ins _ _ _)=>True
 | some (.ext _)=>True
 | _=>False
section
variable {P:Qr}{w:Q2}{H:Hp}{h h':Heap}{x e:Addr}{o':HO}
theorem HOk.write (ok:HOk P w H h)(mu:Mut (H x))(he:e=x\/H e=some (.own x))(k: ∀b u,b≠e->h.get? b=some u->h'.get? b=some u)(heo: ∃u,h'.get? e=some u)
  (new:aCn P w (upd H x o') h' x o'):HOk P w (upd H x o') h':=fun b u q=>by
 have bL0: ∀c y,H c=some (.own y)->c≠x:=fun c y r z=>by subst z;rw[r] at mu;exact mu
 have bMz: ∀c xs,H c=some (.tup xs)->c≠x:=fun c xs r z=>by subst z;rw[r] at mu;exact mu
 by_cases hb:b=x
 ·subst hb;rw[aAs] at q;cases q;exact new
 ·rw[aAq hb] at q
  by_cases hbe:b=e
  ·have q':H b=some (.own x):=by
    rcases he with z | z
    ·exact absurd (hbe.trans z) hb
    ·rw[hbe];exact z
   rw[q] at q';cases q';obtain⟨v,hv⟩:=heo;exact⟨v,by rw[hbe];exact hv⟩
  ·refine (ok b u q).stay (fun c v hc r=>k c v ?_ r) (fun c r=>by rw[aAq (bL0 c b r)];exact r) fun c xs r=>by rw[aAq (bMz c xs r)];exact r
   rcases hc with rfl | hc
   ·exact hbe
   ·rintro rfl
    rcases he with z | z
    ·exact bL0 c b hc z
    ·rw[hc] at z;cases z;exact hb rfl
end
structure Un (fs ex:List Addr)(H H':Hp)(h h':Heap):Prop where
 keep: ∀b o,h.get? b=some o->H b=none->b∉fs->b∉ex->h'.get? b=some o
 slot: ∀b o,h.get? b=some o->H b=none->b∈fs->b∉ex->∃sl,h'.get? b=some {o with slots:=sl}
 free: ∀b o,h.get? b=some o->H b=none->b∉ex->H' b=none
 there: ∀b o,h.get? b=some o->b∉ex->∃o',h'.get? b=some o'
 tups: ∀b xs,H b=some (.tup xs)->H' b=some (.tup xs)
 aQe: ∀b o u,H b=some (.frz o u)->H' b=some (.frz o u)
 aQz: ∀b ps,H b=some (.tbl ps)->∃more,H' b=some (.tbl (ps++more))
section
variable {fs fs' ex ex':List Addr}{H H1 H2:Hp}{h h1 h2 h':Heap}{a x e:Addr}{o:HO}
theorem Un.any (u:Un fs ex H H1 h h1){b:Addr}{ob:Obj}(q:h.get? b=some ob)(n:H b=none)(hx:b∉ex): ∃sl,h1.get? b=some {ob with slots:=sl}:=by
 by_cases hb:b∈fs
 ·exact u.slot b ob q n hb hx
 ·exact⟨ob.slots,u.keep b ob q n hb hx⟩
theorem Un.trans (a:Un fs ex H H1 h h1)(b:Un fs ex H1 H2 h1 h2):Un fs ex H H2 h h2 where
 keep:=fun c ob q n hc hx=>b.keep c ob (a.keep c ob q n hc hx) (a.free c ob q n hx) hc hx
 slot:=fun c ob q n hc hx=>by
  obtain⟨sl,e1⟩:=a.slot c ob q n hc hx;obtain⟨sl',e2⟩:=b.slot c _ e1 (a.free c ob q n hx) hc hx;exact⟨sl',e2⟩
 free:=fun c ob q n hx=>by
  obtain⟨o',e1⟩:=a.there c ob q hx;exact b.free c o' e1 (a.free c ob q n hx) hx
 there:=fun c ob q hx=>by
  obtain⟨o',e1⟩:=a.there c ob q hx;exact b.there c o' e1 hx
 tups:=fun c xs q=>b.tups c xs (a.tups c xs q)
 aQe:=fun c ob xs q=>b.aQe c ob xs (a.aQe c ob xs q)
 aQz:=fun c ps q=>by
  obtain⟨m1,e1⟩:=a.aQz c ps q;obtain⟨m2,e2⟩:=b.aQz c _ e1;exact⟨m1++m2,by rw[e2,Wc]⟩
theorem Un.kept (k: ∀b u,h.get? b=some u->h'.get? b=some u):Un fs ex H H h h':=
 ⟨fun b ob q _ _ _=>k b ob q,fun b ob q _ _ _=>⟨ob.slots,k b ob q⟩,fun _ _ _ n _=>n,fun b ob q _=>⟨ob,k b ob q⟩,fun _ _ q=>q,fun _ _ _ q=>q,fun _ ps q=>⟨#[],by rw[q];simp⟩⟩
theorem Un.refl:Un fs ex H H h h:=Un.kept fun _ _ q=>q
theorem Un.laid (k: ∀b u,h.get? b=some u->h'.get? b=some u)(hp:h.objs.size<=a)(hn:H a=none):Un fs ex H (upd H a o) h h' where
 keep:=fun b u q _ _ _=>k b u q
 slot:=fun b u q _ _ _=>⟨u.slots,k b u q⟩
 free:=fun b u q n _=>by rw[aAq (Qy (Q0 (Qp q) hp))];exact n
 there:=fun b u q _=>⟨u,k b u q⟩
 tups:=fun b xs q=>by rw[aAq (aBi q hn)];exact q
 aQe:=fun b u xs q=>by rw[aAq (aBi q hn)];exact q
 aQz:=fun b ps q=>⟨#[],by rw[aAq (aBi q hn),q];simp⟩
theorem Un.write (mu:Mut (H x))(he:e=x\/H e=some (.own x))(k: ∀b u,b≠e->h.get? b=some u->h'.get? b=some u)(heo: ∃u,h'.get? e=some u):Un fs ex H (upd H x o) h h':=by
 have hx: ∀b,H b=none->b≠x:=fun b n z=>by subst z;rw[n] at mu;exact mu
 have hb: ∀b,H b=none->b≠e:=fun b n z=>by
  subst z;rcases he with r | r
  ·exact hx b n r
  ·rw[n] at r;cases r
 have hm: ∀b u,H b=some u->¬Mut (some u)->b≠x:=fun b u q nm z=>by subst z;rw[q] at mu;exact nm mu
 refine⟨fun b u q n _ _=>k b u (hb b n) q,fun b u q n _ _=>⟨u.slots,k b u (hb b n) q⟩,fun b u q n _=>by rw[aAq (hx b n)];exact n,fun b u q _=> ?_,
  fun b xs q=>by rw[aAq (hm b _ q fun z=>z)];exact q,fun b u xs q=>by rw[aAq (hm b _ q fun z=>z)];exact q,fun b ps q=>⟨#[],by rw[aAq (hm b _ q fun z=>z),q];simp⟩⟩
 by_cases hbe:b=e
 ·subst hbe;exact heo
 ·exact⟨u,k b u hbe q⟩
theorem Un.mono (u:Un fs ex H H1 h h1)(hs: ∀b∈fs,b∈fs')(hx: ∀b∈ex,b∈ex'):Un fs' ex' H H1 h h1:=
 ⟨fun b ob q n hb he=>u.keep b ob q n (fun z=>hb (hs b z)) fun z=>he (hx b z),fun _ _ q n _ he=>u.any q n fun z=>he (hx _ z),fun b ob q n he=>u.free b ob q n fun z=>he (hx b z),fun b ob q he=>u.there b ob q fun z=>he (hx b z),u.tups,u.aQe,u.aQz⟩
end
def trk (h:Heap)(H:Hp):List Addr:=(Yb h.objs.size).filter fun a=>(H a).isSome
def bBq (h:Heap)(H:Hp):Heap:=Z7 h (trk h H)
theorem aYg (h:Heap)(H:Hp):(bBq h H).objs.size=h.objs.size:=PySem.W.hideAll_size _ _
theorem bBp {h:Heap}{H:Hp}{b:Addr}{o:Obj}(e:h.get? b=some o)(n:H b=none):(bBq h H).get? b=some o:=
 Y4 _ e fun hm=>by
  have q:(H b).isSome=true:=(List.mem_filter.mp hm).2;rw[n] at q;simp at q
theorem bEs {h:Heap}{H:Hp}{b:Addr}{o:Obj}(e:(bBq h H).get? b=some o):h.get? b=some o/\H b=none:=by
 have e':h.get? b=some o:=Jn (trk h H) e;refine⟨e',?_⟩;cases q:H b with
 | none=>rfl
 | some x=>
  have hm:b∈trk h H:=List.mem_filter.mpr ⟨List.mem_range.mpr (Qp e'),by simp[q]⟩;have z:(bBq h H).get? b=none:=PySem.W.hideAll_none (trk h H) hm;rw[z] at e;cases e
def bF8 (g h:Heap)(L:Addr):List (Addr×Obj):=(Yb h.objs.size).filterMap fun a=>if a=L\/(g.get? a).isSome=true then none else (h.get? a).map fun o=>(a,o)
def rest (g h:Heap)(L d:Addr):List (Addr×Obj):=(bF8 g h L).filter fun p=>decide (p.1≠d)
structure Mod (K:Qb)(mg:Str->Option Qd)(base:Heap):Prop where
 kin:K.In base
 glob:base.Ns Yp mg
 blt: ∃mb,base.Ns builtinsNs mb/\∀x:Str,x≠"__name__"->mb x=Yq x
 nolimit:base.NoLimit
structure Cx where
 prog:Qr
 w:Q2
 K:Qb
 mg:Str->Option Qd
 base:Heap
 A:Za
 N:List Str
 s₀:Qf
 H₀:Hp
 env:Env
 outer:List Env
 stack:List Env
 ex:List Addr
 fn:Str->Bool
 calm:Bool
 pn:List (Addr×Obj)
 xe:Qd->Qf->Prop
def frs (l:List Env):List Addr:=l.filterMap (·.frame)
abbrev Cx.fs (X:Cx):List Addr:=frs X.outer
def Vis (sc:Scope)(x:Str):Prop:=sc.names.lookup x=some .local\/sc.names.lookup x=some .cell\/sc.names.lookup x=some .free
def Loc (sc:Scope)(x:Str):Prop:=sc.names.lookup x=some .local\/sc.names.lookup x=some .cell
def Look (env:Env)(h:Heap)(m:Str->Option Qd)(x:Str)(u:Qd):Prop:=
 (env.kindOf x=some .local/\m x=some u)\/((env.kindOf x=some .cell\/env.kindOf x=some .free)/\∃c,env.cells.lookup x=some c/\h.IsCell c (some u))
structure Cx.Ok (X:Cx):Prop where
 mod:Mod X.K X.mg X.base
 kind:X.env.scope.kind= .function
 glob:X.env.globals=Yp
 blt:X.env.builtins=builtinsNs
 above:X.s₀.heap.objs.size<=X.env.locals
 inj: ∀x y c,X.env.cells.lookup x=some c->X.env.cells.lookup y=some c->x=y
 has: ∀x,(X.env.kindOf x=some .cell\/X.env.kindOf x=some .free)->∃c,X.env.cells.lookup x=some c
 cab: ∀x c,X.fn x=true->X.env.cells.lookup x=some c->X.s₀.heap.objs.size<=c
 hd:X.calm=true->X.A.handled=none
 frames:X.A.frames=some X.stack
 stk:X.stack=X.outer\/(X.stack=X.env::X.outer/\X.env.frame=some X.env.locals)
 exf: ∀b∈X.ex,b≠X.env.locals/\∀x c,X.env.cells.lookup x=some c->c≠b
 bs: ∀b o,X.base.get? b=some o->X.s₀.heap.get? b=some o/\X.H₀ b=none
 bsz:X.base.objs.size<=X.s₀.heap.objs.size
 bCv: ∀b o,X.base.get? b=some o->b∉X.ex
 bC9: ∀b∈X.ex,b∉X.fs
 aRz:X.s₀.heap.FunFrames X.base X.outer
 frf: ∀b∈X.fs,X.H₀ b=none
structure Inv (X:Cx)(pins:List (Addr×Obj))(σ:List (Option V))(H:Hp)(s:Qf):Prop where
 ok:X.Ok
 os:s.os=X.s₀.os
 bare:AllBare s.gens
 base:Un X.fs X.ex X.H₀ H X.s₀.heap s.heap
 loc: ∃m,s.heap.Ns X.env.locals m/\∀(i:Nat) (x:Str) (v:V),X.N[i]? =some x->σ[i]? =some (some v)->Vis X.env.scope x->∃u,RelV v u/\Look X.env s.heap m x u
 cell: ∀x c,X.env.cells.lookup x=some c->∃v,s.heap.IsCell c v
 free:H X.env.locals=none
 aF5: ∀x c,X.env.cells.lookup x=some c->H c=none
 pin: ∀p∈X.pn++pins,s.heap.get? p.1=some p.2/\H p.1=none/\p.1≠X.env.locals/\p.1∉X.fs/\∀v,p.2.data≠ .cell v
 hok:HOk X.prog X.w H s.heap
 len:σ.length=X.N.length
section
variable {X:Cx}{pins:List (Addr×Obj)}{σ:List (Option V)}{H H':Hp}{s:Qf}{h':Heap}
theorem Cx.Ok.bM1 (ok:X.Ok){b:Addr}{o:Obj}(e:X.base.get? b=some o):b∉X.fs:=fun hb=>by
 have:=(ok.aRz.mem hb).1;rw[e] at this;cases this
theorem Inv.bs (I:Inv X pins σ H s): ∀b o,X.base.get? b=some o->s.heap.get? b=some o/\H b=none:=fun b o e=>
 ⟨I.base.keep b o (I.ok.bs b o e).1 (I.ok.bs b o e).2 (I.ok.bM1 e) (I.ok.bCv b o e),I.base.free b o (I.ok.bs b o e).1 (I.ok.bs b o e).2 (I.ok.bCv b o e)⟩
theorem Inv.bk (I:Inv X pins σ H s): ∀b o,X.base.get? b=some o->s.heap.get? b=some o:=fun b o e=>(I.bs b o e).1
theorem Inv.mod (I:Inv X pins σ H s):Mod X.K X.mg X.base:=I.ok.mod
theorem Inv.kIn (I:Inv X pins σ H s):X.K.In s.heap:=I.ok.mod.kin.keeps I.bk
theorem Inv.lt (I:Inv X pins σ H s):X.env.locals<s.heap.objs.size:=let ⟨_,hn,_⟩:=I.loc;hn.lt
theorem Inv.sz (I:Inv X pins σ H s):X.s₀.heap.objs.size<=s.heap.objs.size:=Zi I.ok.above (J0 I.lt)
theorem Inv.bM0 (I:Inv X pins σ H s){a:Addr}(h:s.heap.objs.size<=a):a∉X.fs:=fun hb=>by
 obtain⟨_,o,ho,_⟩:=I.ok.aRz.mem hb;exact absurd (Q0 (Qp ho) (Zi I.sz h)) (Jc _)
theorem Inv.cne (I:Inv X pins σ H s): ∀x c,X.env.cells.lookup x=some c->c≠X.env.locals:=fun x c e z=>by
 obtain⟨v,o,ho,hd⟩:=I.cell x c e;obtain⟨m,⟨o',es,ep,ho',hd',_⟩,_⟩:=I.loc;rw[z,ho'] at ho;cases ho;rw[hd'] at hd;cases hd
theorem Inv.aRz (I:Inv X pins σ H s):s.heap.FunFrames X.base X.outer:=by
 have all: ∀(l:List Env),(∀b∈frs l,b∈X.fs)->X.s₀.heap.FunFrames X.base l->s.heap.FunFrames X.base l:=by
  intro l
  induction l with
  | nil=>intro _ _;trivial
  | cons env r ih=>
   intro hs hl;obtain⟨hk,⟨L,o,hf,hn,ho,hd⟩,hr⟩:=hl;have hL:L∈X.fs:=hs L (by unfold frs;rw[J5,hf];exact Qt);obtain⟨sl,e⟩:=I.base.slot L o ho (I.ok.frf L hL) hL fun z=>I.ok.bC9 L z hL
   exact⟨hk,⟨L,_,hf,hn,e,hd⟩,ih (fun b hb=>hs b (by unfold frs;rw[J5,hf];exact Qw _ hb)) hr⟩
 exact all X.outer (fun _ hb=>hb) I.ok.aRz
theorem Inv.stack (I:Inv X pins σ H s):s.heap.FunFrames X.base X.stack:=by
 rcases I.ok.stk with e |⟨e,hf⟩
 ·rw[e];exact I.aRz
 ·rw[e]
  obtain⟨m,hn,_⟩:=I.loc;refine .cons (by rw[I.ok.kind];decide) hf hn ?_ I.aRz;exact Heap.get?_none_of_le (Zi I.ok.bsz I.ok.above)
theorem Inv.aSt (I:Inv X pins σ H s): ∀b∈frs X.stack,b∈X.env.locals::X.fs:=fun b hb=>by
 rcases I.ok.stk with e |⟨e,hf⟩
 ·rw[e] at hb;exact Qw _ hb
 ·rw[e] at hb
  unfold frs at hb;rw[J5,hf] at hb;exact hb
theorem Inv.aI7 (I:Inv X pins σ H s): ∀b∈frs X.stack,H b=none:=fun b hb=>by
 rcases List.mem_cons.mp (I.aSt b hb) with e | hb
 ·rw[e];exact I.free
 ·obtain⟨_,o,ho,_⟩:=I.ok.aRz.mem hb
  exact I.base.free b o ho (I.ok.frf b hb) fun z=>I.ok.bC9 b z hb
theorem Inv.step {g':Array GenState}{t':Nat}{d':Drawn}{ch:List Addr}(I:Inv X pins σ H s)
  (hch: ∀b∈ch,(b∈X.ex\/X.s₀.heap.objs.size<=b)/\b≠X.env.locals/\(∀x c,X.env.cells.lookup x=some c->c≠b)/\∀p∈X.pn++pins,p.1≠b)
  (keep: ∀b o,b≠X.env.locals->b∉X.fs->b∉ch->s.heap.get? b=some o->H b=none->h'.get? b=some o)
  (slot: ∀b o,b≠X.env.locals->b∈X.fs->b∉ch->s.heap.get? b=some o->H b=none->∃sl,h'.get? b=some {o with slots:=sl}) (free: ∀b o,b∉ch->s.heap.get? b=some o->H b=none->H' b=none)
  (there: ∀b o,b∉ch->s.heap.get? b=some o->∃o',h'.get? b=some o')
  (tups: ∀b xs,H b=some (.tup xs)->H' b=some (.tup xs)) (aQe: ∀b o u,H b=some (.frz o u)->H' b=some (.frz o u)) (aQz: ∀b ps,H b=some (.tbl ps)->∃more,H' b=some (.tbl (ps++more)))
  (ns: ∀m,s.heap.Ns X.env.locals m->h'.Ns X.env.locals m) (hok:HOk X.prog X.w H' h') (hg:AllBare g'):
  Inv X pins σ H' {s with heap:=h',gens:=g',drawn:=d',toks:=t'}:=by
 have neL: ∀b o,X.s₀.heap.get? b=some o->b≠X.env.locals:=fun b o e=>Qy (Q0 (Qp e) I.ok.above)
 have neC: ∀b o,X.s₀.heap.get? b=some o->b∉X.ex->b∉ch:=fun b o e hx hb=>by
  rcases (hch b hb).1 with z | z
  ·exact hx z
  ·exact absurd (Q0 (Qp e) z) (Jc _)
 have cellK: ∀x c,X.env.cells.lookup x=some c->∀v,s.heap.IsCell c v->h'.IsCell c v:=fun x c e v ⟨o,ho,hd⟩=>by
  have nch:c∉ch:=fun z=>(hch c z).2.2.1 x c e rfl
  by_cases hc:c∈X.fs
  ·obtain⟨sl,q⟩:=slot c o (I.cne x c e) hc nch ho (I.aF5 x c e)
   exact⟨_,q,hd⟩
  ·exact⟨o,keep c o (I.cne x c e) hc nch ho (I.aF5 x c e),hd⟩
 refine⟨I.ok,I.os,hg,⟨fun b o e n hb hx=> ?_,fun b o e n hb hx=> ?_,fun b o e n hx=> ?_,fun b o e hx=> ?_,fun b xs e=>tups b xs (I.base.tups b xs e),fun b o xs e=>aQe b o xs (I.base.aQe b o xs e),fun b ps e=> ?_⟩,?_,fun x c e=> ?_,?_,fun x c e=> ?_,fun p hp=> ?_,hok,I.len⟩
 ·exact keep b o (neL b o e) hb (neC b o e hx) (I.base.keep b o e n hb hx) (I.base.free b o e n hx)
 ·obtain⟨sl,e1⟩:=I.base.slot b o e n hb hx
  obtain⟨sl',e2⟩:=slot b _ (neL b o e) hb (neC b o e hx) e1 (I.base.free b o e n hx);exact⟨sl',e2⟩
 ·obtain⟨o',e1⟩:=I.base.there b o e hx
  exact free b o' (neC b o e hx) e1 (I.base.free b o e n hx)
 ·obtain⟨o',e1⟩:=I.base.there b o e hx
  exact there b o' (neC b o e hx) e1
 ·obtain⟨m1,e1⟩:=I.base.aQz b ps e
  obtain⟨m2,e2⟩:=aQz b _ e1;exact⟨m1++m2,by rw[e2,Wc]⟩
 ·obtain⟨m,hn,hl⟩:=I.loc
  refine⟨m,ns m hn,fun i x v e1 e2 e3=> ?_⟩;obtain⟨u,r,l⟩:=hl i x v e1 e2 e3;refine⟨u,r,?_⟩;rcases l with l |⟨k,c,e,z⟩
  ·exact .inl l
  ·exact .inr ⟨k,c,e,cellK x c e _ z⟩
 ·obtain⟨v,z⟩:=I.cell x c e
  exact⟨v,cellK x c e v z⟩
 ·obtain⟨m,⟨o,_,_,ho,_⟩,_⟩:=I.loc
  exact free _ o (fun z=>(hch _ z).2.1 rfl) ho I.free
 ·obtain⟨v,o,ho,hd⟩:=I.cell x c e
  exact free c o (fun z=>(hch c z).2.2.1 x c e rfl) ho (I.aF5 x c e)
 ·obtain⟨e,n,ne,nf,d⟩:=I.pin p hp
  have nch:p.1∉ch:=fun z=>(hch p.1 z).2.2.2 p hp rfl
  exact⟨keep p.1 p.2 ne nf nch e n,free p.1 p.2 nch e n,ne,nf,d⟩
theorem Inv.un {t':Nat}(I:Inv X pins σ H s)(u:Un X.fs [] H H' s.heap h')(hok:HOk X.prog X.w H' h'):Inv X pins σ H' {s with heap:=h',toks:=t'}:=by
 obtain⟨m,⟨o,es,ep,ho,r⟩,_⟩:=id I.loc;obtain⟨sl,hL⟩:=u.any ho I.free (by simp);exact I.step (g':=s.gens) (d':=s.drawn) (ch:=[]) (fun _ z=>nomatch z) (fun b o _ hb _ e n=>u.keep b o e n hb (by simp)) (fun b o _ hb _ e n=>u.slot b o e n hb (by simp)) (fun b o _ e n=>u.free b o e n (by simp)) (fun b o _ e=>u.there b o e (by simp)) u.tups u.aQe u.aQz (fun m' hm=>by
  obtain⟨o',es',ep',ho',r'⟩:=hm;rw[ho] at ho';cases ho';exact⟨_,es',ep',hL,r'⟩) hok I.bare
theorem Inv.call {g':Array GenState}{t':Nat}{d':Drawn}{ch:List Addr}(I:Inv X pins σ H s)(u:Un (frs X.stack) ch H H' s.heap h')(hok:HOk X.prog X.w H' h')(hg:AllBare g')
  (hch: ∀b∈ch,(b∈X.ex\/X.s₀.heap.objs.size<=b)/\b≠X.env.locals/\(∀x c,X.env.cells.lookup x=some c->c≠b)/\∀p∈X.pn++pins,p.1≠b):
  Inv X pins σ H' {s with heap:=h',gens:=g',drawn:=d',toks:=t'}:=by
 obtain⟨m,⟨o,es,ep,ho,r⟩,_⟩:=id I.loc;obtain⟨sl,hL⟩:=u.any ho I.free fun z=>(hch _ z).2.1 rfl
 exact I.step (ch:=ch) hch (fun b o hL hb hc e n=>u.keep b o e n (fun z=>(List.mem_cons.mp (I.aSt b z)).elim hL hb) hc) (fun b o _ _ hc e n=>u.any e n hc) (fun b o hc e n=>u.free b o e n hc) (fun b o hc e=>u.there b o e hc) u.tups u.aQe u.aQz (fun m' hm=>by
  obtain⟨o',es',ep',ho',r'⟩:=hm;rw[ho] at ho';cases ho';exact⟨_,es',ep',hL,r'⟩) hok hg
theorem Inv.turned {t':Nat}{it:Addr}(I:Inv X pins σ H s)(k: ∀b o,b≠it->s.heap.get? b=some o->h'.get? b=some o)(hn:H it=none)(hL:it≠X.env.locals)
  (h1:it∈X.ex\/X.s₀.heap.objs.size<=it) (h2: ∀x c,X.env.cells.lookup x=some c->c≠it) (h3: ∀p∈X.pn++pins,p.1≠it):Inv X pins σ H {s with heap:=h',toks:=t'}:=by
 have nit: ∀b u,H b=some u->b≠it:=fun b u e z=>by rw[z,hn] at e;cases e
 refine I.step (g':=s.gens) (d':=s.drawn) (ch:=[it]) (fun b hb=> ?_) (fun b o _ _ hc e _=>k b o (fun z=>hc (by simp[z])) e) (fun b o _ _ hc e _=>⟨o.slots,k b o (fun z=>hc (by simp[z])) e⟩) (fun _ _ _ _ n=>n)
  (fun b o hc e=>⟨o,k b o (fun z=>hc (by simp[z])) e⟩) (fun _ _ e=>e) (fun _ _ _ e=>e) (fun b ps e=>⟨#[],by rw[e];simp⟩) (fun m hm=> ?_) (fun b u e=> ?_) I.bare
 ·have e:b=it:=by simpa using hb
  subst e;exact⟨h1,hL,h2,h3⟩
 ·obtain⟨o,es,ep,ho,r⟩:=hm
  exact⟨o,es,ep,k _ o (Ne.symm hL) ho,r⟩
 ·refine (I.hok b u e).stay (fun c v hc q=>k c v ?_ q) (fun _ q=>q) fun _ _ q=>q
  rcases hc with z | z
  ·rw[z];exact nit b u e
  ·exact nit c _ z
theorem Inv.tok (I:Inv X pins σ H s)(t:Nat):Inv X pins σ H {s with toks:=t}:=I.un (h':=s.heap) (t':=t) Un.refl I.hok
theorem Inv.kept {t':Nat}(I:Inv X pins σ H s)(k: ∀b u,s.heap.get? b=some u->h'.get? b=some u):Inv X pins σ H {s with heap:=h',toks:=t'}:=I.un (Un.kept k) (I.hok.kept k)
theorem Inv.laid {a:Addr}{o:HO}{t':Nat}(I:Inv X pins σ H s)(k: ∀b u,s.heap.get? b=some u->h'.get? b=some u)(hp:s.heap.objs.size<=a)(new:aCn X.prog X.w (upd H a o) h' a o):
  Inv X pins σ (upd H a o) {s with heap:=h',toks:=t'}:=I.un (Un.laid k hp (I.hok.fresh hp)) (I.hok.laid k hp new)
theorem Inv.write {x e:Addr}{o:HO}{t':Nat}(I:Inv X pins σ H s)(mu:Mut (H x))(he:e=x\/H e=some (.own x))(k: ∀b u,b≠e->s.heap.get? b=some u->h'.get? b=some u)(heo: ∃u,h'.get? e=some u)
  (new:aCn X.prog X.w (upd H x o) h' x o):Inv X pins σ (upd H x o) {s with heap:=h',toks:=t'}:=I.un (Un.write mu he k heo) (I.hok.write mu he k heo new)
theorem Inv.weak {σ':List (Option V)}(I:Inv X pins σ H s)(hl:σ'.length=σ.length)(w: ∀(i:Nat) v,σ'[i]? =some (some v)->σ[i]? =some (some v)):Inv X pins σ' H s:=
 ⟨I.ok,I.os,I.bare,I.base,let ⟨m,hn,hl'⟩:=I.loc;⟨m,hn,fun i x v e1 e2 e3=>hl' i x v e1 (w i v e2) e3⟩,I.cell,I.free,I.aF5,I.pin,I.hok,hl.trans I.len⟩
theorem Inv.aRd {aUi:List (Addr×Obj)}(I:Inv X pins σ H s)(h: ∀p∈aUi,s.heap.get? p.1=some p.2/\H p.1=none/\p.1≠X.env.locals/\p.1∉X.fs/\∀v,p.2.data≠ .cell v):Inv X aUi σ H s:=
 ⟨I.ok,I.os,I.bare,I.base,I.loc,I.cell,I.free,I.aF5,fun p hp=>(List.mem_append.mp hp).elim (fun z=>I.pin p (Yn _ z)) (h p),I.hok,I.len⟩
theorem aOn {N:List Str}(hN:N.Nodup){i j:Nat}{x:Str}(a:N[i]? =some x)(b:N[j]? =some x):i=j:=by
 obtain⟨h1,e1⟩:=List.getElem?_eq_some_iff.mp a;obtain⟨h2,e2⟩:=List.getElem?_eq_some_iff.mp b;exact (List.getElem_inj hN).mp (e1.trans e2.symm)
theorem aPi {M:Model}{A:Za}{E:Qd->Qf->Prop}{i:Nat}{x:Str}{v:V}{u:Qd}{Q:Unit->Qf->Prop}(I:Inv X pins σ H s)(hN:X.N.Nodup)(hi:X.N[i]? =some x)(hx:Loc X.env.scope x)(r:RelV v u)
  (h: ∀s',Inv X pins (σ.set i (some v)) H s'->(∃a,Yg a s.heap s'.heap/\(a=X.env.locals\/X.env.cells.lookup x=some a))->Q () s') (hf:X.fn x=true\/X.env.scope.names.lookup x=some .local):Qm M A (storeName X.env x u) Q E s:=by
 obtain⟨m,hn,hl⟩:=id I.loc;have hcls:(X.env.scope.kind== .class ||(X.env.scope.kind== .module&&X.env.locals !=X.env.globals))=false:=by rw[I.ok.kind];rfl
 have hiσ:i<σ.length:=by rw[I.len];exact (List.getElem?_eq_some_iff.mp hi).1
 have cne:=I.cne;have tracked: ∀{a:Addr} {h':Heap},(∃o,s.heap.get? a=some o/\H a=none)->Yg a s.heap h'->HOk X.prog X.w H h':=fun {a h'} ha hs b ob e=>by
  obtain⟨_,_,hfree⟩:=ha;refine (I.hok b ob e).stay (fun c w' hc q=>(hs.2 c ?_).trans q) (fun _ q=>q) fun _ _ q=>q
  rintro rfl
  rcases hc with rfl | hc
  ·rw[hfree] at e;cases e
  ·rw[hfree] at hc;cases hc
 rcases hx with hk | hk
 ·refine wpAny_storeName_local hk hn (fun h' hn' hs=> ?_) hcls
  obtain⟨oL,_,_,hoL,_⟩:=id hn;refine h _ ⟨I.ok,I.os,I.bare,⟨fun b o e n hb hx=> ?_,fun b o e n hb hx=> ?_,I.base.free,fun b o e hx=> ?_,I.base.tups,I.base.aQe,I.base.aQz⟩,⟨_,hn',fun j y v' e1 e2 e3=> ?_⟩,fun y c e=> ?_,I.free,I.aF5,fun p hp=> ?_,tracked ⟨oL,hoL,I.free⟩ hs,by simpa using I.len⟩ ⟨_,hs,.inl rfl⟩
  ·exact (hs.2 b (Qy (Q0 (Qp e) I.ok.above))).trans (I.base.keep b o e n hb hx)
  ·obtain⟨sl,e1⟩:=I.base.slot b o e n hb hx
   exact⟨sl,(hs.2 b (Qy (Q0 (Qp e) I.ok.above))).trans e1⟩
  ·obtain⟨o',e1⟩:=I.base.there b o e hx
   exact⟨o',(hs.2 b (Qy (Q0 (Qp e) I.ok.above))).trans e1⟩
  ·by_cases hj:j=i
   ·subst hj
    rw[hi] at e1;cases e1;rw[Q1 hiσ] at e2;cases e2;exact⟨u,r,.inl ⟨hk,by simp⟩⟩
   ·rw[Qj (Ne.symm hj)] at e2
    obtain⟨u',r',q⟩:=hl j y v' e1 e2 e3;refine⟨u',r',?_⟩;rcases q with⟨k,e⟩ |⟨k,c,e,z⟩
    ·refine .inl ⟨k,?_⟩
     have:y≠x:=fun e=>hj (aOn hN e1 (e▸hi))
     simp[this,e]
    ·exact .inr ⟨k,c,e,z.sameBut hs (cne y c e)⟩
  ·obtain⟨w',z⟩:=I.cell y c e
   exact⟨w',z.sameBut hs (cne y c e)⟩
  ·obtain⟨e,n,ne,nf,d⟩:=I.pin p hp
   exact⟨(hs.2 p.1 ne).trans e,n,ne,nf,d⟩
 ·have hfn:X.fn x=true:=by
   rcases hf with z | z
   ·exact z
   ·rw[z] at hk;cases hk
  obtain⟨c,hc⟩:=I.ok.has x (.inl hk);obtain⟨w',z⟩:=I.cell x c hc;refine wpAny_storeName_cell I.ok.kind hk hc z (fun h' hc' hs=> ?_);obtain⟨oc,hoc,bNa⟩:=id z;refine h {s with heap:=h'} ⟨I.ok,I.os,I.bare,⟨fun b o e n hb hx=> ?_,fun b o e n hb hx=> ?_,I.base.free,fun b o e hx=> ?_,I.base.tups,I.base.aQe,I.base.aQz⟩,⟨m,hn.sameBut hs (Ne.symm (cne x c hc)),fun j y v' e1 e2 e3=> ?_⟩,fun y c' e=> ?_,I.free,I.aF5,fun p hp=> ?_,tracked ⟨oc,hoc,I.aF5 x c hc⟩ hs,by simpa using I.len⟩ ⟨c,hs,.inr hc⟩
  ·exact (hs.2 b (Qy (Q0 (Qp e) (I.ok.cab x c hfn hc)))).trans (I.base.keep b o e n hb hx)
  ·obtain⟨sl,e1⟩:=I.base.slot b o e n hb hx
   exact⟨sl,(hs.2 b (Qy (Q0 (Qp e) (I.ok.cab x c hfn hc)))).trans e1⟩
  ·obtain⟨o',e1⟩:=I.base.there b o e hx
   exact⟨o',(hs.2 b (Qy (Q0 (Qp e) (I.ok.cab x c hfn hc)))).trans e1⟩
  ·by_cases hj:j=i
   ·subst hj
    rw[hi] at e1;cases e1;rw[Q1 hiσ] at e2;cases e2;exact⟨u,r,.inr ⟨.inl hk,c,hc,hc'⟩⟩
   ·rw[Qj (Ne.symm hj)] at e2
    obtain⟨u',r',q⟩:=hl j y v' e1 e2 e3;refine⟨u',r',?_⟩;rcases q with q |⟨k,c',e,z'⟩
    ·exact .inl q
    ·refine .inr ⟨k,c',e,z'.sameBut hs ?_⟩
     rintro rfl
     exact hj (aOn hN e1 (I.ok.inj _ _ _ e hc▸hi))
  ·by_cases hcc:c'=c
   ·subst hcc;exact⟨_,hc'⟩
   ·obtain⟨w2,z2⟩:=I.cell y c' e
    exact⟨w2,z2.sameBut hs hcc⟩
  ·obtain⟨e,n,ne,nf,d⟩:=I.pin p hp
   refine⟨(hs.2 p.1 ?_).trans e,n,ne,nf,d⟩;intro q;rw[q,hoc] at e;have q':oc=p.2:=Option.some.inj e;exact d w' (by rw[<-q'];exact bNa)
theorem aF9 {M:Model}{A:Za}{E:Qd->Qf->Prop}{i:Nat}{x:Str}{v:V}{u:Qd}{Q:Unit->Qf->Prop}(I:Inv X pins σ H s)(hN:X.N.Nodup)(hi:X.N[i]? =some x)(hx:Loc X.env.scope x)(r:RelV v u)
  (h: ∀s',Inv X pins (σ.set i (some v)) H s'->Q () s') (hf:X.fn x=true\/X.env.scope.names.lookup x=some .local:=by first | exact .inl rfl | exact .inr rfl | assumption):Qm M A (storeName X.env x u) Q E s:=
 aPi I hN hi hx r (fun s' I' _=>h s' I') hf
theorem Inv.call' {s':Qf}{ch:List Addr}(I:Inv X pins σ H s)(ho:s'.os=s.os)(u:Un (frs X.stack) ch H H' s.heap s'.heap)(hok:HOk X.prog X.w H' s'.heap)(hg:AllBare s'.gens)
  (hch: ∀b∈ch,(b∈X.ex\/X.s₀.heap.objs.size<=b)/\b≠X.env.locals/\(∀x c,X.env.cells.lookup x=some c->c≠b)/\∀p∈X.pn++pins,p.1≠b):Inv X pins σ H' s':=by
 obtain⟨h',g',d',t',o'⟩:=s';have e:o'=s.os:=ho;subst e;exact I.call (g':=g') (t':=t') (d':=d') u hok hg hch
end
abbrev XK:=Qd->Option Addr->Hp->Prop
abbrev St:=List (Option V)
abbrev VK:=V->Hp->Prop
abbrev TE:=St->Hp->VK->Prop
abbrev TT:=St->Hp->(Bool->Hp->Prop)->Prop
abbrev TA:=St->Hp->(List V->Hp->Prop)->Prop
structure Ends where
 nx:St->Hp->Prop
 rt:VK
 bk:St->Hp->Prop:=fun _ _=>False
 ct:St->Hp->Prop:=fun _ _=>False
abbrev TS:=Ends->St->Hp->Prop
def EP (X:Cx)(pins:List (Addr×Obj))(σ:St)(Q:VK)(u:Qd)(s':Qf):Prop:= ∃v H',Inv X pins σ H' s'/\RelV v u/\Q v H'
def TP (X:Cx)(pins:List (Addr×Obj))(σ:St)(Q:Bool->Hp->Prop)(b:Bool)(s':Qf):Prop:= ∃H',Inv X pins σ H' s'/\Q b H'
def AP (X:Cx)(pins:List (Addr×Obj))(σ:St)(Q:List V->Hp->Prop)(us:List Qd)(s':Qf):Prop:= ∃vs H',Inv X pins σ H' s'/\Vals vs us/\Q vs H'
def SP (X:Cx)(pins:List (Addr×Obj))(D:Ends)(f:Flow)(s':Qf):Prop:=
 match f with
 | .next=> ∃σ' H',Inv X pins σ' H' s'/\D.nx σ' H'
 | .brk=> ∃σ' H',Inv X pins σ' H' s'/\D.bk σ' H'
 | .cont=> ∃σ' H',Inv X pins σ' H' s'/\D.ct σ' H'
 | .ret u=> ∃v σ' H',Inv X pins σ' H' s'/\RelV v u/\D.rt v H'
def PE (X:Cx)(e:Expr)(t:TE):Prop:=
 ∀(pins:List (Addr×Obj)) (s:Qf) (σ:St) (H:Hp) (Q:VK),Inv X pins σ H s->t σ H Q->Qm (Ql X.prog X.w) X.A (eval e X.env) (EP X pins σ Q) X.xe s
def PT (X:Cx)(e:Expr)(t:TT):Prop:=
 ∀(pins:List (Addr×Obj)) (s:Qf) (σ:St) (H:Hp) (Q:Bool->Hp->Prop),Inv X pins σ H s->t σ H Q->Qm (Ql X.prog X.w) X.A (isTrue e X.env (eval e X.env)) (TP X pins σ Q) X.xe s
def PW (X:Cx)(e:Expr)(t:TT):Prop:=
 ∀(whole:Sem Qd) (pins:List (Addr×Obj)) (s:Qf) (σ:St) (H:Hp) (Q:Bool->Hp->Prop),Inv X pins σ H s->t σ H Q->Qm (Ql X.prog X.w) X.A (isTrue e X.env whole) (TP X pins σ Q) X.xe s
def PA (X:Cx)(es:List Expr)(t:TA):Prop:=
 ∀(pos:Pos) (pins:List (Addr×Obj)) (s:Qf) (σ:St) (H:Hp) (Q:List V->Hp->Prop),Inv X pins σ H s->t σ H Q->Qm (Ql X.prog X.w) X.A (spliced (backTo pos (Qz es X.env))) (AP X pins σ Q) X.xe s
def PS (X:Cx)(st:Stmt)(t:TS):Prop:=
 ∀(pins:List (Addr×Obj)) (s:Qf) (σ:St) (H:Hp) (D:Ends),Inv X pins σ H s->t D σ H->Qm (Ql X.prog X.w) X.A (exec st X.env) (SP X pins D) X.xe s
def PSs (X:Cx)(st:List Stmt)(t:TS):Prop:=
 ∀(pins:List (Addr×Obj)) (s:Qf) (σ:St) (H:Hp) (D:Ends),Inv X pins σ H s->t D σ H->Qm (Ql X.prog X.w) X.A (execs st X.env) (SP X pins D) X.xe s
theorem thn {α:Type}{t:Sem α}{Q Q':α->Qf->Prop}{M:Model}{A:Za}{E:Qd->Qf->Prop}{s:Qf}(h:Qm M A t Q E s)(hQ: ∀a s,Q a s->Q' a s):Qm M A t Q' E s:=Ys h hQ fun _ _ x=>x
section
variable {X:Cx}
def bLp (i:Nat):TE:=fun σ H Q=> ∃v,σ[i]? =some (some v)/\Q v H
def tC (v:V):TE:=fun _ H Q=>Q v H
theorem aE8 {i:Nat}{x:Str}{pos:Pos}(hN:X.N[i]? =some x)(hv:Vis X.env.scope x)(hd:(x==("__debug__":Str))=false:=by decide)(hcd:(x==("__classdict__":Str))=false:=by decide):PE X (.Name x pos) (bLp i):=by
 intro pins s σ H Q I h;obtain⟨v,e,h⟩:=h;obtain⟨m,hn,hl⟩:=I.loc;obtain⟨u,r,l⟩:=hl i x v hN e hv;have fin:EP X pins σ Q u s:=⟨v,H,I,r,h⟩;rcases l with⟨hk,hm⟩ |⟨hk,c,hc,hcell⟩
 ·exact wpAny_Name (wpAny_loadName_local I.ok.kind hk hn hm fin) hd
 ·rcases hk with hk | hk
  ·exact wpAny_Name (wpAny_loadName_cell I.ok.kind hk hc hcell fin) hd
  ·exact wpAny_Name (wpAny_loadName_free I.ok.kind hk hc hcell fin hcd) hd
theorem bHe {i j pos}:PE X (.Constant (.int i) j pos) (tC (.int i)):=fun _ _ _ H _ I h=>wpAny_Constant_int ⟨.int i,H,I.tok _,⟨_,rfl⟩,h⟩
theorem bKk {b j pos}:PE X (.Constant (.bool b) j pos) (tC (.bl b)):=fun _ _ _ H _ I h=>Constant_bool ⟨.bl b,H,I,rfl,h⟩
theorem bCn {x j pos}:PE X (.Constant (.str x) j pos) (tC (.str x)):=fun _ _ _ H _ I h=>Calls.Constant_str ⟨.str x,H,I.tok _,⟨_,rfl⟩,h⟩
def Gl (X:Cx)(x:Str):Prop:=X.env.kindOf x=some .globalImplicit
theorem aHh {E:Qd->Qf->Prop}{pins:List (Addr×Obj)}{s:Qf}{σ:St}{H:Hp}{x:Str}{u:Qd}{pos:Pos}{Q:Qd->Qf->Prop}(I:Inv X pins σ H s)(hg:Gl X x)(hm:X.mg x=some u)(h:Q u s)
  (hd:(x==("__debug__":Str))=false:=by decide):Qm (Ql X.prog X.w) X.A (eval (.Name x pos) X.env) Q E s:=
 Calls.Name_function_global I.ok.kind hg (Calls.loadGlobal_global (by rw[I.ok.glob];exact I.mod.glob.keeps I.bk) hm h) hd
theorem aTd {E:Qd->Qf->Prop}{pins:List (Addr×Obj)}{s:Qf}{σ:St}{H:Hp}{x:Str}{u:Qd}{pos:Pos}{Q:Qd->Qf->Prop}(I:Inv X pins σ H s)(hg:Gl X x)(hm:X.mg x=none)(hv:Yq x=some u)(h:Q u s)
  (hn:x≠"__name__":=by decide) (hd:(x==("__debug__":Str))=false:=by decide):Qm (Ql X.prog X.w) X.A (eval (.Name x pos) X.env) Q E s:=by
 obtain⟨mb,h1,h2⟩:=I.mod.blt;exact Calls.Name_function_global I.ok.kind hg (Calls.loadGlobal_builtin (by rw[I.ok.glob];exact I.mod.glob.keeps I.bk) hm (by rw[I.ok.blt];exact h1.keeps I.bk) ((h2 x hn).trans hv) h) hd
theorem bD7 {x:Str}{v:V}{u:Qd}{pos:Pos}(hg:Gl X x)(hm:X.mg x=some u)(r:RelV v u)(hd:(x==("__debug__":Str))=false:=by decide):PE X (.Name x pos) (tC v):=
 fun _ _ _ H _ I h=>aHh I hg hm ⟨v,H,I,r,h⟩ hd
theorem aWy {x:Str}{v:V}{u:Qd}{pos:Pos}(hg:Gl X x)(hm:X.mg x=none)(hv:Yq x=some u)(r:RelV v u)(hn:x≠"__name__":=by decide)(hd:(x==("__debug__":Str))=false:=by decide):PE X (.Name x pos) (tC v):=
 fun _ _ _ H _ I h=>aTd I hg hm hv ⟨v,H,I,r,h⟩ hn hd
variable {a b:Expr}{ta tb:TE}{pos:Pos}
variable {tA tB':TT}{rest:List Expr}
def bMe (t:TT):TT:=fun σ H Q=>t σ H fun c H1=>Q (!c) H1
theorem bG5 (ha:PT X a tA):PT X (.UnaryOp .Not a pos) (bMe tA):=by
 intro pins s σ H Q I h;exact isTrue_not (ha pins s σ H (fun c H1=>Q (!c) H1) I h)
def bJw (ta tb:TE):TE:=fun σ H Q=>ta σ H fun x H1=> ∃c,x= .bl c/\if c=true then tb σ H1 Q else Q (.bl false) H1
def bJq (ta:TE):TE:=fun σ H Q=>ta σ H fun x H1=> ∃c,x= .bl c/\Q (.bl (!c)) H1
theorem bHb {op}{t:TE}(h:PE X a t):PE X (.BoolOp op [a] pos) t:=fun pins s σ H Q I hw=>BoolOp_one (h pins s σ H Q I hw)
theorem bHf (ha:PE X a ta)(hb:PE X (.BoolOp .And (b::rest) pos) tb):PE X (.BoolOp .And (a::b::rest) pos) (bJw ta tb):=by
 intro pins s σ H Q I h;refine BoolOp_and (thn (ha pins s σ H _ I h) fun v s1 ⟨x,H1,I1,r1,q1⟩=> ?_);obtain⟨c,rfl,q1⟩:=q1;cases r1;refine wpAny_truthy_bool ?_;cases c with
 | true=>exact hb pins s1 σ H1 Q I1 q1
 | false=>exact⟨.bl false,H1,I1,rfl,q1⟩
theorem bHc (ha:PE X a ta):PE X (.UnaryOp .Not a pos) (bJq ta):=by
 intro pins s σ H Q I h;refine UnaryOp_ (thn (ha pins s σ H _ I h) fun v s1 ⟨x,H1,I1,r1,q1⟩=> ?_);obtain⟨c,rfl,q1⟩:=q1;cases r1;exact not_of (wpAny_truthy_bool ⟨.bl (!c),H1,I1,rfl,q1⟩)
end
def SqL (K:Qb)(H:Hp)(a:Addr)(xs:List V):Prop:=
 Rd H a (.lst xs)\/
  ∃(o:Obj) (its:Array Qd) (n:Nat),K.lookup a=some o/\o.cls= .type "list"/\o.dict=none/\o.data= .seq its n/\its.size<=Qq/\Vals xs its.toList
def SqT (K:Qb)(H:Hp)(a:Addr)(xs:List V):Prop:=
 Rd H a (.tup xs)\/
  ∃(o:Obj) (its:Array Qd) (n:Nat),K.lookup a=some o/\o.cls= .type "tuple"/\o.dict=none/\o.data= .seq its n/\its.size<=Qq/\Vals xs its.toList
def bNi:Qd->Option V
 | .none=>some .non
 | .bool b=>some (.bl b)
 | .int i _=>some (.int i)
 | .str x _=>some (.str x)
 | .bytes b _=>some (.byt b)
 | .float b _=>some (.flt b)
 | .ref a=>some (.ref a)
 | .type n=>some (.ty n)
 | _=>none
theorem RelV.abs {x:V}{u:Qd}(r:RelV x u):bNi u=some x:=by
 cases x with
 | non=>cases r;rfl
 | bl _=>cases r;rfl
 | int _=>obtain⟨t,rfl⟩:=r;rfl
 | str _=>obtain⟨t,rfl⟩:=r;rfl
 | byt _=>obtain⟨t,rfl⟩:=r;rfl
 | flt _=>obtain⟨t,rfl⟩:=r;rfl
 | ref _=>cases r;rfl
 | ty _=>cases r;rfl
theorem RelV.inj {x y:V}{u:Qd}(r:RelV x u)(q:RelV y u):x=y:=Option.some.inj (r.abs.symm.trans q.abs)
theorem Vals.inj: ∀{xs ys:List V} {us:List Qd},Vals xs us->Vals ys us->xs=ys
 | _,_,_,.nil,.nil=>rfl
 | _,_,_,.cons r t,.cons r' t'=>by rw[r.inj r',Vals.inj t t']
section
variable {X:Cx}{pins:List (Addr×Obj)}{σ:St}{H:Hp}{s:Qf}{a:Addr}{xs ys:List V}
theorem SqL.of {K:Qb}(h:H a=some (.lst xs)):SqL K H a xs:= .inl (.inl h)
theorem SqT.of {K:Qb}(h:H a=some (.tup xs)):SqT K H a xs:= .inl (.inl h)
theorem Inv.list (I:Inv X pins σ H s)(h:SqL X.K H a xs): ∃its:List Qd,Vals xs its/\PlainL s.heap a its.toArray/\xs.length<=Qq:=by
 rcases h with h |⟨o,its,n,hk,hc,hd,hs,hz,r⟩
 ·obtain⟨z,its,n,r,e⟩:=h.ok I.hok
  exact⟨its,r,⟨_,n,e,rfl,rfl,rfl⟩,z⟩
 ·refine⟨its.toList,r,⟨o,n,I.kIn a o hk,hc,hd,by simpa using hs⟩,?_⟩
  have e:=r.length;simp only[Zj] at e;omega
theorem Inv.tuple (I:Inv X pins σ H s)(h:SqT X.K H a xs): ∃its:List Qd,Vals xs its/\IsTup s.heap a its.toArray/\xs.length<=Qq:=by
 rcases h with h |⟨o,its,n,hk,hc,_,hs,hz,r⟩
 ·obtain⟨z,its,r,p⟩:=h.ok I.hok
  exact⟨its,r,p.tup,z⟩
 ·refine⟨its.toList,r,⟨o,I.kIn a o hk,hc,n,by simpa using hs⟩,?_⟩
  have e:=r.length;simp only[Zj] at e;omega
theorem Inv.bBa (I:Inv X pins σ H s)(h:SqL X.K H a xs)(h':SqL X.K H a ys):xs=ys:=by
 obtain⟨its,r,⟨o,n,e,_,_,d⟩,_⟩:=I.list h;obtain⟨its',r',⟨o',n',e',_,_,d'⟩,_⟩:=I.list h';rw[e] at e';cases e';rw[d] at d'
 injection d' with d1 _
 have:its=its':=by simpa using congrArg Array.toList d1
 subst this;exact r.inj r'
theorem Inv.aV8 (I:Inv X pins σ H s)(h:SqT X.K H a xs)(h':SqT X.K H a ys):xs=ys:=by
 obtain⟨its,r,⟨o,e,_,n,d⟩,_⟩:=I.tuple h;obtain⟨its',r',⟨o',e',_,n',d'⟩,_⟩:=I.tuple h';rw[e] at e';cases e';rw[d] at d'
 injection d' with d1 _
 have:its=its':=by simpa using congrArg Array.toList d1
 subst this;exact r.inj r'
end
abbrev Cx.wish (X:Cx)(E:Qd->Qf->Prop):Cx:={X with xe:=E}
abbrev Cx.nox (X:Cx):Cx:=X.wish fun _ _=>False
theorem Cx.Ok.wish {X:Cx}(ok:X.Ok)(E:Qd->Qf->Prop):(X.wish E).Ok:=
 ⟨ok.mod,ok.kind,ok.glob,ok.blt,ok.above,ok.inj,ok.has,ok.cab,ok.hd,ok.frames,ok.stk,ok.exf,ok.bs,ok.bsz,ok.bCv,ok.bC9,ok.aRz,ok.frf⟩
theorem Cx.Ok.aJr {X:Cx}{E:Qd->Qf->Prop}(ok:(X.wish E).Ok):X.Ok:=
 ⟨ok.mod,ok.kind,ok.glob,ok.blt,ok.above,ok.inj,ok.has,ok.cab,ok.hd,ok.frames,ok.stk,ok.exf,ok.bs,ok.bsz,ok.bCv,ok.bC9,ok.aRz,ok.frf⟩
section
variable {X:Cx}{pins:List (Addr×Obj)}{σ:St}{H:Hp}{s:Qf}{E:Qd->Qf->Prop}
theorem Inv.wish (I:Inv X pins σ H s)(E:Qd->Qf->Prop):Inv (X.wish E) pins σ H s:=⟨I.ok.wish E,I.os,I.bare,I.base,I.loc,I.cell,I.free,I.aF5,I.pin,I.hok,I.len⟩
theorem Inv.aJr (I:Inv (X.wish E) pins σ H s):Inv X pins σ H s:=⟨I.ok.aJr,I.os,I.bare,I.base,I.loc,I.cell,I.free,I.aF5,I.pin,I.hok,I.len⟩
theorem SP.aJr {D:Ends}{f:Flow}{s':Qf}(h:SP (X.wish E) pins D f s'):SP X pins D f s':=by
 cases f with
 | next=>obtain⟨σ',H',I,q⟩:=h;exact⟨σ',H',I.aJr,q⟩
 | brk=>obtain⟨σ',H',I,q⟩:=h;exact⟨σ',H',I.aJr,q⟩
 | cont=>obtain⟨σ',H',I,q⟩:=h;exact⟨σ',H',I.aJr,q⟩
 | ret u=>obtain⟨v,σ',H',I,r,q⟩:=h;exact⟨v,σ',H',I.aJr,r,q⟩
theorem PSs.nox {st:List Stmt}{t:TS}(h:PSs X.nox st t):PSs X st t:=fun pins s σ H D I hw=>
 Ys (h pins s σ H D (I.wish _) hw) (fun _ _ q=>q.aJr) fun _ _ z=>Qg z
end
section
variable {X:Cx}{st:Stmt}{rest:List Stmt}{t u:TS}{e:Expr}{te:TE}{pos:Pos}
def bJr:TS:=fun D σ H=>D.nx σ H
def bMc (t u:TS):TS:=fun D σ H=>t {D with nx:=u D} σ H
theorem aDe:PSs X [] bJr:=fun _ _ σ H _ I h=>wpAny_execs_nil ⟨σ,H,I,h⟩
theorem aBo (h1:PS X st t)(h2:PSs X rest u):PSs X (st::rest) (bMc t u):=by
 intro pins s σ H D I h;refine wpAny_execs_cons (thn (h1 pins s σ H {D with nx:=u D} I h) fun f s1 q=> ?_);cases f with
 | next=>
  obtain⟨σ',H',I',q⟩:=q;exact h2 pins s1 σ' H' D I' q
 | ret v=>exact q
 | brk=>exact q
 | cont=>exact q
theorem Inv.quiet {pins:List (Addr×Obj)}{σ:St}{H:Hp}{s:Qf}(I:Inv X pins σ H s):interactive X.env=false:=by simp[interactive,I.ok.kind]
def bJt (te:TE):TS:=fun D σ H=>te σ H fun _ H1=>D.nx σ H1
theorem aLy (he:PE X e te)(hs:swapsWith e none pos.line X.env=pure false:=by rfl):PS X (.Expr e pos) (bJt te):=by
 intro pins s σ H D I h;exact wpAny_Expr_any (thn (he pins s σ H _ I h) fun v s1 ⟨x,H1,I1,r1,q1⟩=>⟨σ,H1,I1,q1⟩) I.quiet hs
def bMd (te:TE):TS:=fun D σ H=>te σ H D.rt
theorem bG6 (he:PE X e te):PS X (.Return (some e) pos) (bMd te):=by
 intro pins s σ H D I h;exact wpAny_Return_some (thn (he pins s σ H _ I h) fun v s1 ⟨x,H1,I1,r1,q1⟩=>⟨x,σ,H1,I1,r1,q1⟩)
def bJs (c:TT)(t u:TS):TS:=fun D σ H=>c σ H fun b H1=>if b=true then t D σ H1 else u D σ H1
theorem aM2 {c:Expr}{a b:List Stmt}{tc:TT}(hc:PT X c tc)(ha:PSs X a t)(hb:PSs X b u):PS X (.If c a b pos) (bJs tc t u):=by
 intro pins s σ H D I h;refine wpAny_If (thn (hc pins s σ H _ I h) fun d s1 ⟨H1,I1,q1⟩=> ?_);cases d with
 | true=>exact ha pins s1 σ H1 D I1 q1
 | false=>exact hb pins s1 σ H1 D I1 q1
def aSq:TS:=fun _ _ _=>False
theorem bAo:PS X st aSq:=fun _ _ _ _ _ _ h=>h.elim
theorem aC2 {sts:List Stmt}:PSs X sts aSq:=fun _ _ _ _ _ _ h=>h.elim
end
abbrev TG:=V->St->Hp->(St->Hp->Prop)->Prop
abbrev TGs:=List V->St->Hp->(St->Hp->Prop)->Prop
def PG (X:Cx)(target:Expr)(t:TG):Prop:=
 ∀(pins:List (Addr×Obj)) (s:Qf) (σ:St) (H:Hp) (v:V) (u:Qd) (Q:St->Hp->Prop),Inv X pins σ H s->RelV v u->t v σ H Q->
  Qm (Ql X.prog X.w) X.A (assign target X.env u) (fun _ s'=> ∃σ' H',Inv X pins σ' H' s'/\Q σ' H') X.xe s
def PGs (X:Cx)(ts:List Expr)(t:TGs):Prop:=
 ∀(pins:List (Addr×Obj)) (s:Qf) (σ:St) (H:Hp) (vs:List V) (us:List Qd) (Q:St->Hp->Prop),Inv X pins σ H s->Vals vs us->t vs σ H Q->
  Qm (Ql X.prog X.w) X.A (assignInOrder ((assignEach ts X.env).map (·.2)) us) (fun _ s'=> ∃σ' H',Inv X pins σ' H' s'/\Q σ' H') X.xe s
abbrev bNl:=V->V->V->Hp->(Hp->Prop)->Prop
section
variable {X:Cx}{pos:Pos}
def bIp (i:Nat):TG:=fun v σ H Q=>Q (σ.set i (some v)) H
theorem aOd {i:Nat}{x:Str}(hN:X.N.Nodup)(hi:X.N[i]? =some x)(hx:Loc X.env.scope x)(hf:X.fn x=true\/X.env.scope.names.lookup x=some .local:=by first | exact .inl rfl | exact .inr rfl | assumption):PG X (.Name x pos) (bIp i):=by
 intro pins s σ H v u Q I r h;exact wpAny_assign_Name (aF9 I hN hi hx r (fun s' I'=>⟨_,H,I',h⟩) hf)
def bNd:TGs:=fun vs σ H Q=>vs=[]/\Q σ H
def bLc (t:TG)(u:TGs):TGs:=fun vs σ H Q=> ∃v r,vs=v::r/\t v σ H fun σ' H'=>u r σ' H' Q
theorem bD6:PGs X [] bNd:=by
 intro pins s σ H vs us Q I r h;obtain⟨e,h⟩:=h;subst e;cases r;exact assignInOrder_nil ⟨σ,H,I,h⟩
theorem aS0 {e:Expr}{es:List Expr}{t:TG}{u:TGs}(h1:PG X e t)(h2:PGs X es u)
  (hs:(assignEach (e::es) X.env).map (·.2)=assign e X.env::(assignEach es X.env).map (·.2):=by rfl):PGs X (e::es) (bLc t u):=by
 intro pins s σ H vs us Q I r h;obtain⟨v,vr,e1,h⟩:=h;subst e1;cases r with
 | cons r rr=>
  rw[hs];refine assignInOrder_cons (thn (h1 pins s σ H _ _ _ I r h) fun _ s1 ⟨σ1,H1,I1,q1⟩=> ?_);exact h2 pins s1 σ1 H1 _ _ Q I1 rr q1
def bNc (K:Qb)(n:Nat)(t:TGs):TG:=fun v σ H Q=> ∃a xs,v= .ref a/\SqT K H a xs/\xs.length=n/\t xs σ H Q
theorem bG9 {es:List Expr}{k:Nat}{t:TGs}{n:Nat}(hc:X.calm=true)(h:PGs X es t)
  (hn:(assignEach es X.env).length=n:=by rfl) (hst:(assignEach es X.env).findIdx? (·.1)=none:=by rfl):PG X (.Tuple es k pos) (bNc X.K n t):=by
 intro pins s σ H v u Q I r hw;obtain⟨a,xs,e1,hq,hl,hw⟩:=hw;subst e1;cases r;obtain⟨its,rv,ht,hz⟩:=I.tuple hq;refine assign_Tuple_tuple (I.ok.hd hc) ht (by simp[hn,<-hl,rv.length]) hst fun h' hx=> ?_
 have I1:Inv X pins σ H {s with heap:=h'}:=I.kept (t':=s.toks) fun b o e=>hx b o (Qy (Qp e)) e
 exact h pins _ σ H xs _ Q I1 (by simpa using rv) hw
def bBx (to ti:TE)(t:bNl):TG:=fun v σ H Q=>to σ H fun o H1=>ti σ H1 fun i H2=>t o i v H2 fun H3=>Q σ H3
def bMk (te:TE)(g:TG):TS:=fun D σ H=>te σ H fun x H1=>g x σ H1 D.nx
theorem aWw {i:Nat}{x:Str}{e:Expr}{te:TE}{pos':Pos}(hN:X.N.Nodup)(hi:X.N[i]? =some x)(hx:Loc X.env.scope x)(he:PE X e te)(hs:swapsWith e (some (.Name x pos')) pos.line X.env=pure false:=by rfl)(hf:X.fn x=true\/X.env.scope.names.lookup x=some .local:=by first | exact .inl rfl | exact .inr rfl | assumption):
  PS X (.Assign [.Name x pos'] e pos) (bMk te (bIp i)):=by
 intro pins s σ H D I h;refine wpAny_Assign_Name (thn (he pins s σ H _ I h) fun v s1 ⟨y,H1,I1,r1,q1⟩=> ?_) hs;exact aF9 I1 hN hi hx r1 (fun s2 I2=>⟨_,H1,I2,q1⟩) hf
end
structure It where
 go:Nat->Hp->Prop
 yld:Nat->Hp->V->Hp->Prop
 stop:Nat->Hp->Prop
def bCf (X:Cx)(pins:List (Addr×Obj))(H:Hp)(b:Addr):Prop:=
 H b=none/\b≠X.env.locals/\b∉X.fs/\(b∈X.ex\/X.s₀.heap.objs.size<=b)/\(∀x c,X.env.cells.lookup x=some c->c≠b)/\∀p∈X.pn++pins,p.1≠b
theorem Inv.bIr {X:Cx}{pins:List (Addr×Obj)}{σ:St}{H H':Hp}{s:Qf}{b:Addr}(I:Inv X pins σ H s)(hb:s.heap.objs.size<=b)(hn:H' b=none):bCf X pins H' b:=by
 refine⟨hn,Uh (Q0 I.lt hb),I.bM0 hb,.inr (Zi I.sz hb),fun x c e z=> ?_,fun p hp z=> ?_⟩
 ·obtain⟨v,q⟩:=I.cell x c e
  exact absurd (Q0 q.lt (by rw[z];exact hb)) (Jc _)
 ·exact absurd (Q0 (Qp (I.pin p hp).1) (by rw[z];exact hb)) (Jc _)
structure Turn (P:Qr)(w:Q2)(K:Qb)(tg:Expr)(J:It)(fp:List Addr)(it:Addr)(tn:Nat->Heap->Prop):Prop where
 mem:it∈fp
 obj: ∀i h,tn i h->∀b∈fp,∃o,h.get? b=some o/\∀v,o.data≠ .cell v
 keep: ∀i h h',tn i h->(∀b∈fp,∀o,h.get? b=some o->h'.get? b=some o)->tn i h'
 item: ∀(X:Cx),X.prog=P->X.w=w->X.K=K->X.calm=true->∀(i:Nat) (pins:List (Addr×Obj)) (s:Qf) (σ:St) (H:Hp) (E:Qd->Qf->Prop),Inv X pins σ H s->(∀b∈fp,bCf X pins H b)->tn i s.heap->J.go i H->
  Qm (Ql P w) X.A (pyNext (.ref it)) (fun r s1=> ∃u,r=some u/\
   Qm (Ql P w) X.A (letOwnedTupleGo tg (.ref it) u) (fun _ s2=> ∃x H',Inv X pins σ H' s2/\RelV x u/\J.yld i H x H'/\tn (i+1) s2.heap/\∀b∈fp,H' b=none) E s1) E s
 done: ∀(X:Cx),X.prog=P->X.w=w->X.K=K->X.calm=true->∀(i:Nat) (pins:List (Addr×Obj)) (s:Qf) (σ:St) (H:Hp) (E:Qd->Qf->Prop),Inv X pins σ H s->(∀b∈fp,bCf X pins H b)->tn i s.heap->J.stop i H->
  Qm (Ql P w) X.A (pyNext (.ref it)) (fun r s1=>r=none/\Inv X pins σ H s1) E s
 self: ∀(A:Za) (i:Nat) (s:Qf) (Q:Qd->Qf->Prop) (E:Qd->Qf->Prop),tn i s.heap->Q (.ref it) s->Qm (Ql P w) A (pyIter (.ref it)) Q E s
abbrev TI:=St->Hp->(It->Hp->Prop)->Prop
def PIE (X:Cx)(pins:List (Addr×Obj))(σ:St)(tg:Expr)(R:It->Hp->Prop)(itv:Qd)(s2:Qf):Prop:=
 ∃(it:Addr) (fp:List Addr) (tn:Nat->Heap->Prop) (J:It) (H':Hp),itv= .ref it/\Inv X pins σ H' s2/\Turn X.prog X.w X.K tg J fp it tn/\tn 0 s2.heap/\(∀b∈fp,bCf X pins H' b)/\R J H'
def PI (X:Cx)(tg iter:Expr)(wi:TI):Prop:=
 ∀(pins:List (Addr×Obj)) (s:Qf) (σ:St) (H:Hp) (R:It->Hp->Prop),Inv X pins σ H s->wi σ H R->
  Qm (Ql X.prog X.w) X.A (eval iter X.env) (fun v s1=>Qm (Ql X.prog X.w) X.A (pyIter v) (PIE X pins σ tg R) X.xe s1) X.xe s
theorem bFf {M:Model}{A:Za}{E:Qd->Qf->Prop}{s:Qf}{tg:Expr}{it:Addr}{u:Qd}{o:Obj}{n:String}{vs:Array Qd}{Q:Unit->Qf->Prop}(ho:s.heap.get? it=some o)(hc:o.cls= .type n)(hd:o.data= .fields vs)
  (hn:["enumerate","zip","dict_itemiterator","dict_reverseitemiterator","odict_iterator","itertools.zip_longest","itertools.pairwise"].contains n=false) (hQ:Q () s):Qm M A (letOwnedTupleGo tg (.ref it) u) Q E s:=by
 unfold letOwnedTupleGo;cases tg<;>first
  | exact Qe hQ
  |(cases u<;>first
    | exact Qe hQ
    |(refine Qc (wpAny_load ho ?_)
      rw[hc,hd];show Qm M A (if (["enumerate","zip","dict_itemiterator","dict_reverseitemiterator","odict_iterator","itertools.zip_longest","itertools.pairwise"].contains n&&vs[0]? ==some (Zm _))=true then _ else _) Q E s;rw[if_neg (by intro h;rw[hn,Us] at h;cases h)];exact Qe hQ))
def Itl (K:Qb)(a:Addr):It:=
 ⟨fun i H=> ∃xs x,SqL K H a xs/\xs[i]? =some x,fun i H x H'=>H'=H/\∀xs,SqL K H a xs->xs[i]? =some x,fun i H=> ∃xs,SqL K H a xs/\xs.length<=i⟩
def Itt (K:Qb)(a:Addr):It:=
 ⟨fun i H=> ∃xs x,SqT K H a xs/\xs[i]? =some x,fun i H x H'=>H'=H/\∀xs,SqT K H a xs->xs[i]? =some x,fun i H=> ∃xs,SqT K H a xs/\xs.length<=i⟩
def Itr (lo:Int)(n:Nat):It:=⟨fun i _=>i<n,fun i H x H'=>H'=H/\x= .int (lo+i),fun i _=>n<=i⟩
theorem aV7 {P:Qr}{w:Q2}{K:Qb}{tg:Expr}(a it:Addr):Turn P w K tg (Itl K a) [it] it (fun i h=>h.IsListIter it a i) where
 mem:=by simp
 obj:=fun i h st b hb=>by
  have e:b=it:=by simpa using hb
  subst e;obtain⟨o,e,c,d⟩:=st;exact⟨o,e,fun v z=>by rw[d] at z;cases z⟩
 keep:=fun i h h' st k=>st.at fun o e=>k it (by simp) o e
 item:=by
  intro X hP hw hK hc i pins s σ H E I hf st hg;subst hP hw hK;obtain⟨xs,x,hq,hx⟩:=hg;obtain⟨its,rv,p,hz⟩:=I.list hq;obtain⟨u,hu,ru⟩:=rv.get hx;obtain⟨f0,f1,f2,f3,f4,f5⟩:=hf it (by simp);refine wpAny_pyNext_list_item st p.isList (x:=u) (by simpa using hu) fun h' st' sb=> ?_
  have I1:Inv X pins σ H {s with heap:=h'}:=I.turned (t':=s.toks) (fun b o hb e=>(sb.2 b hb).trans e) f0 f1 f3 f4 f5;obtain⟨o,e,c,d⟩:=id st';exact⟨u,rfl,bFf (s:={s with heap:=h'}) e c d (by decide) ⟨x,H,I1,ru,⟨rfl,fun ys hy=>by rw[I.bBa hy hq];exact hx⟩,st',fun b hb=>(hf b hb).1⟩⟩
 done:=by
  intro X hP hw hK hc i pins s σ H E I hf st hg;subst hP hw hK;obtain⟨xs,hq,hx⟩:=hg;obtain⟨its,rv,p,hz⟩:=I.list hq;obtain⟨f0,f1,f2,f3,f4,f5⟩:=hf it (by simp);have hl:=rv.length;exact wpAny_pyNext_list_end (I.ok.hd hc) st p.isList (by simp;omega) fun h' eb=>⟨rfl,I.turned (t':=s.toks) (fun b o hb e=>eb b o hb e) f0 f1 f3 f4 f5⟩
 self:=fun _ _ _ _ _ st h=>wpAny_pyIter_listiter st h
theorem aUa {P:Qr}{w:Q2}{K:Qb}{tg:Expr}(a it:Addr):Turn P w K tg (Itt K a) [it] it (fun i h=>h.IsTupleIter it a i) where
 mem:=by simp
 obj:=fun i h st b hb=>by
  have e:b=it:=by simpa using hb
  subst e;obtain⟨o,e,c,d⟩:=st;exact⟨o,e,fun v z=>by rw[d] at z;cases z⟩
 keep:=fun i h h' st k=>st.at fun o e=>k it (by simp) o e
 item:=by
  intro X hP hw hK hc i pins s σ H E I hf st hg;subst hP hw hK;obtain⟨xs,x,hq,hx⟩:=hg;obtain⟨its,rv,p,hz⟩:=I.tuple hq;obtain⟨u,hu,ru⟩:=rv.get hx;obtain⟨f0,f1,f2,f3,f4,f5⟩:=hf it (by simp);refine wpAny_pyNext_tuple_item st (show s.heap.IsTuple a its.toArray from p) (x:=u) (by simpa using hu) fun h' st' sb=> ?_
  have I1:Inv X pins σ H {s with heap:=h'}:=I.turned (t':=s.toks) (fun b o hb e=>(sb.2 b hb).trans e) f0 f1 f3 f4 f5;obtain⟨o,e,c,d⟩:=id st';exact⟨u,rfl,bFf (s:={s with heap:=h'}) e c d (by decide) ⟨x,H,I1,ru,⟨rfl,fun ys hy=>by rw[I.aV8 hy hq];exact hx⟩,st',fun b hb=>(hf b hb).1⟩⟩
 done:=by
  intro X hP hw hK hc i pins s σ H E I hf st hg;subst hP hw hK;obtain⟨xs,hq,hx⟩:=hg;obtain⟨its,rv,p,hz⟩:=I.tuple hq;obtain⟨f0,f1,f2,f3,f4,f5⟩:=hf it (by simp);have hl:=rv.length;exact wpAny_pyNext_tuple_end (I.ok.hd hc) st (show s.heap.IsTuple a its.toArray from p) (by simp;omega) fun h' eb=>⟨rfl,I.turned (t':=s.toks) (fun b o hb e=>eb b o hb e) f0 f1 f3 f4 f5⟩
 self:=fun _ _ _ _ _ st h=>wpAny_pyIter_tupleiter st h
theorem aUb {P:Qr}{w:Q2}{K:Qb}{tg:Expr}(it:Addr)(lo:Int)(n:Nat):Turn P w K tg (Itr lo n) [it] it (fun i h=>IsRangeIter h it (lo+(i:Nat)*1) ((n:Int)-(i:Nat)) 1) where
 mem:=by simp
 obj:=fun i h st b hb=>by
  have e:b=it:=by simpa using hb
  subst e;exact⟨_,st,fun v z=>by
   have z':Data.fields _=Data.cell v:=z;cases z'⟩
 keep:=fun i h h' st k=>k it (by simp) _ st
 item:=by
  intro X hP hw hK hc i pins s σ H E I hf st hg;subst hP hw hK;obtain⟨f0,f1,f2,f3,f4,f5⟩:=hf it (by simp);have W:=Walks.range (prog:=X.prog) (w:=X.w) (I.ok.hd hc) it lo 1 n;refine W.item i s _ _ hg st fun v h' tk hv st' kk=> ?_
  obtain⟨t,rfl⟩:=hv;have I1:Inv X pins σ H {s with heap:=h',toks:=tk}:=I.turned (fun b o hb e=>kk b o (by simpa using hb) e) f0 f1 f3 f4 f5;refine⟨_,rfl,bFf (s:={s with heap:=h',toks:=tk}) (n:="range_iterator") st' rfl rfl (by decide) ⟨.int (lo+i),H,I1,⟨t,?_⟩,⟨rfl,rfl⟩,st',fun b hb=>(hf b hb).1⟩⟩;rw[Int.mul_one]
 done:=by
  intro X hP hw hK hc i pins s σ H E I hf st hg;subst hP hw hK;obtain⟨f0,f1,f2,f3,f4,f5⟩:=hf it (by simp);exact wpAny_pyNext_range_end (I.ok.hd hc) st (by have:n<=i:=hg;omega) fun h' eb=>⟨rfl,I.turned (t':=s.toks) (fun b o hb e=>eb b o hb e) f0 f1 f3 f4 f5⟩
 self:=fun _ _ _ _ _ st h=>wpAny_pyIter_rangeiter st h
section
variable {X:Cx}{tg:Expr}
theorem bAm {pins:List (Addr×Obj)}{σ:St}{H:Hp}{s:Qf}{R:It->Hp->Prop}{E:Qd->Qf->Prop}{lo hi:Int}{t u v:Tok}{tk:Nat}(I:Inv X pins σ H s)(h1: -(2^62)<=lo)(h2:lo<2^62)(h3: -(2^62)<=hi)(h4:hi<2^62)
  (q:R (Itr lo (hi-lo).toNat) H):Qm (Ql X.prog X.w) X.A (pyIter (.ref s.heap.objs.size)) (PIE X pins σ tg R) E {s with heap:=s.heap.push {cls:= .type "range",data:= .fields #[.int lo t,.int hi u,.int 1 v]},toks:=tk}:=by
 refine wpAny_pyIter_range (IsRange.new ..) (small_one h1 h2 h3 h4) ?_;have I1:Inv X pins σ H {s with heap:=s.heap.push {cls:= .type "range",data:= .fields #[.int lo t,.int hi u,.int 1 v]},toks:=tk}:=I.kept fun b o e=>Qh _ e
 refine⟨(s.heap.push {cls:= .type "range",data:= .fields #[.int lo t,.int hi u,.int 1 v]}).objs.size,[(s.heap.push {cls:= .type "range",data:= .fields #[.int lo t,.int hi u,.int 1 v]}).objs.size],_,_,H,rfl,
  I1.kept (t':=tk) fun b o e=>Qh _ e,aUb _ lo (hi-lo).toNat,?_,fun b hb=> ?_,q⟩
 ·have e1:lo+((0:Nat):Int)*1=lo:=by simp
  have e2:(((hi-lo).toNat:Nat):Int)-((0:Nat):Int)=Builtin.Range.rangeSize lo hi 1:=by rw[rangeSize_one];split<;>omega
  show IsRangeIter _ _ (lo+((0:Nat):Int)*1) ((((hi-lo).toNat:Nat):Int)-((0:Nat):Int)) 1;rw[e1,e2];exact Qs _ rfl
 ·have e:b=(s.heap.push {cls:= .type "range",data:= .fields #[.int lo t,.int hi u,.int 1 v]}).objs.size:=by simpa using hb
  subst e;exact I1.bIr (Qn _) (I1.hok.fresh (Qn _))
def bK6 (ta:TA):TI:=fun σ H R=>ta σ H fun vs H1=> ∃j:Int,vs=[.int j]/\ -(2^62)<=j/\j<2^62/\R (Itr 0 j.toNat) H1
theorem aPt {a:Expr}{ta:TA}{p pos:Pos}(hg:Gl X "range")(hm:X.mg "range"=none)(ha:PA X [a] ta)(hs:Qz [a] X.env=[(false,eval a X.env)]:=by rfl):PI X tg (.Call (.Name "range" p) [a] [] pos) (bK6 ta):=by
 intro pins s σ H R I h;refine Call_ (aTd I hg hm boot_range (J8 (thn (ha pos pins s σ H _ I h) fun us s1 ⟨vs,H1,I1,r1,q1⟩=> ?_) hs rfl));obtain⟨j,e,q1,q2,q⟩:=q1;subst e;cases r1 with
 | cons r rr=>
  cases rr;obtain⟨t,rfl⟩:=r;exact call_range_1 (bAm I1 (by omega) (by omega) q1 q2 (by simpa using q))
def bMi (wi:TI)(g:TG)(tb:TS):TS:=fun D σ H=>wi σ H fun J H1=> ∃W:Nat->Nat->St->Hp->Prop,(∃m,W 0 m σ H1)/\∀i m σ H,W i m σ H->
 (J.stop i H/\D.nx σ H)\/(J.go i H/\∃N:St->Hp->Prop,(∀σ' H',N σ' H'->∃m',m'<m/\W (i+1) m' σ' H')/\∀x H',J.yld i H x H'->g x σ H' fun σ2 H2=>tb {D with nx:=N,ct:=N,bk:=D.nx} σ2 H2)
def aNr (fp:List Addr)(h:Heap):List (Addr×Obj):=fp.filterMap fun b=>(h.get? b).map fun o=>(b,o)
theorem aJd {fp:List Addr}{h:Heap}{b:Addr}{o:Obj}(hb:b∈fp)(e:h.get? b=some o):(b,o)∈aNr fp h:=List.mem_filterMap.mpr ⟨b,hb,by rw[e];rfl⟩
theorem aXa {fp:List Addr}{h:Heap}{p:Addr×Obj}(hp:p∈aNr fp h):p.1∈fp/\h.get? p.1=some p.2:=by
 obtain⟨b,hb,e⟩:=List.mem_filterMap.mp hp;cases q:h.get? b with
 | none=>rw[q] at e;cases e
 | some o=>
  rw[q] at e;have e':(b,o)=p:=Option.some.inj e;subst e';exact⟨hb,q⟩
theorem Inv.pinned {pins:List (Addr×Obj)}{σ:St}{H:Hp}{s:Qf}{fp:List Addr}(I:Inv X pins σ H s)(hf: ∀b∈fp,bCf X pins H b)(ho: ∀b∈fp,∃o,s.heap.get? b=some o/\∀v,o.data≠ .cell v):Inv X (pins++aNr fp s.heap) σ H s:=
 I.aRd fun p hp=>(List.mem_append.mp hp).elim (fun z=>I.pin p (Zd _ z)) fun z=>by
  obtain⟨hb,e⟩:=aXa z;obtain⟨f0,f1,f2,_⟩:=hf p.1 hb;obtain⟨o,e',d⟩:=ho p.1 hb;rw[e] at e';cases e';exact⟨e,f0,f1,f2,d⟩
theorem Inv.aN6 {pins pl:List (Addr×Obj)}{σ:St}{H:Hp}{s:Qf}(I:Inv X (pins++pl) σ H s):Inv X pins σ H s:=I.aRd fun p hp=>I.pin p (Zd _ (Yn _ hp))
theorem bG7 {iter:Expr}{body:List Stmt}{wi:TI}{g:TG}{tb:TS}{pos:Pos}(hp:PassesOwn (Ql X.prog X.w) X.A X.env X.xe)(hc:X.calm=true)(hi:PI X tg iter wi)(hg:PG X tg g)(hb:PSs X body tb)
  (hs: ∀x,Zs iter X.env x=pure x:=by intro _;rfl):PS X (.For tg iter body [] pos) (bMi wi g tb):=by
 intro pins s σ H D I h;refine wpAny_For (thn (hi pins s σ H _ I h) fun v s1 h1=>thn h1 fun itv s2 h2=> ?_) hs;obtain⟨it,fp,tn,J,H2,e,I2,T,st2,f2,W,⟨m0,w0⟩,turn⟩:=h2;subst e;have stat: ∀{H':Hp},(∀b∈fp,H' b=none)->∀b∈fp,bCf X pins H' b:=fun hn b hb=>⟨hn b hb,(f2 b hb).2⟩
 refine codeAny_forLoop_any (fun n s'=> ∃i σ' H',Inv X pins σ' H' s'/\tn i s'.heap/\(∀b∈fp,H' b=none)/\W i n σ' H') ?_ m0 ⟨0,σ,H2,I2,st2,fun b hb=>(f2 b hb).1,w0⟩
 rintro n s3 ⟨i,σ3,H3,I3,st3,fr3,w3⟩
 rcases turn i n σ3 H3 w3 with⟨stop,qn⟩ |⟨go,N,hN,step⟩
 ·refine wpAny_passesOwn hp (thn (T.done X rfl rfl rfl hc i pins s3 σ3 H3 X.xe I3 (stat fr3) st3 stop) fun r s4 ⟨hr,I4⟩=> ?_)
  subst hr;exact wpAny_execs_nil ⟨σ3,H3,I4,qn⟩
 ·refine wpAny_passesOwn hp (thn (T.item X rfl rfl rfl hc i pins s3 σ3 H3 X.xe I3 (stat fr3) st3 go) fun r s4 ⟨u,hr,h4⟩=> ?_)
  subst hr;refine wpAny_passesOwn hp (thn h4 fun _ s5 ⟨x,H5,I5,r5,y5,st5,fr5⟩=> ?_);have I5':=I5.pinned (stat fr5) (T.obj _ _ st5);refine wpAny_passesOwn hp (thn (hg _ s5 σ3 H5 x u _ I5' r5 (step x H5 y5)) fun _ s6 ⟨σ6,H6,I6,q6⟩=> ?_);refine wpAny_passesOwn hp (thn (hb _ s6 σ6 H6 _ I6 q6) fun f s7 q7=> ?_);have again: ∀{σ7:St} {H7:Hp},Inv X (pins++aNr fp s5.heap) σ7 H7 s7->N σ7 H7->∃m,m<n/\∃i σ' H',Inv X pins σ' H' s7/\tn i s7.heap/\(∀b∈fp,H' b=none)/\W i m σ' H':=fun {σ7 H7} I7 n7=>by
   obtain⟨m',hm,w7⟩:=hN σ7 H7 n7;refine⟨m',hm,i+1,σ7,H7,I7.aN6,T.keep _ _ _ st5 fun b hb o e=>(I7.pin (b,o) (Zd _ (Zd _ (aJd hb e)))).1,fun b hb=> ?_,w7⟩;obtain⟨o,e,d⟩:=T.obj _ _ st5 b hb;exact (I7.pin (b,o) (Zd _ (Zd _ (aJd hb e)))).2.1
  cases f with
  | next=>obtain⟨σ7,H7,I7,n7⟩:=q7;exact again I7 n7
  | cont=>obtain⟨σ7,H7,I7,n7⟩:=q7;exact again I7 n7
  | brk=>obtain⟨σ7,H7,I7,q7⟩:=q7;exact⟨σ7,H7,I7.aN6,q7⟩
  | ret v=>obtain⟨x7,σ7,H7,I7,r7,q7⟩:=q7;exact⟨x7,σ7,H7,I7.aN6,r7,q7⟩
end
abbrev R2:=V->V->Hp->VK->Prop
def OpR (X:Cx)(f:Qd->Qd->Sem Qd)(r:R2):Prop:=
 ∀(pins:List (Addr×Obj)) (s:Qf) (σ:St) (H:Hp) (x y:V) (v u:Qd) (Q:VK),Inv X pins σ H s->RelV x v->RelV y u->r x y H Q->
  Qm (Ql X.prog X.w) X.A (f v u) (EP X pins σ Q) X.xe s
def UnR (X:Cx)(f:Qd->Sem Qd)(r:V->Hp->VK->Prop):Prop:=
 ∀(pins:List (Addr×Obj)) (s:Qf) (σ:St) (H:Hp) (x:V) (v:Qd) (Q:VK),Inv X pins σ H s->RelV x v->r x H Q->
  Qm (Ql X.prog X.w) X.A (f v) (EP X pins σ Q) X.xe s
def aHp (X:Cx)(f:Qd)(r:List V->Hp->VK->Prop):Prop:=
 ∀(pins:List (Addr×Obj)) (s:Qf) (σ:St) (H:Hp) (xs:List V) (us:List Qd) (Q:VK),Inv X pins σ H s->Vals xs us->r xs H Q->
  Qm (Ql X.prog X.w) X.A (call f us) (EP X pins σ Q) X.xe s
def bNk (X:Cx)(r:V->Hp->(Bool->Hp->Prop)->Prop):Prop:=
 ∀(pins:List (Addr×Obj)) (s:Qf) (σ:St) (H:Hp) (x:V) (v:Qd) (Q:Bool->Hp->Prop),Inv X pins σ H s->RelV x v->r x H Q->
  Qm (Ql X.prog X.w) X.A (truthy v) (TP X pins σ Q) X.xe s
def tOp (r:R2)(ta tb:TE):TE:=fun σ H Q=>ta σ H fun x H1=>tb σ H1 fun y H2=>r x y H2 Q
def tUn (r:V->Hp->VK->Prop)(ta:TE):TE:=fun σ H Q=>ta σ H fun x H1=>r x H1 Q
def rI (C:Int->Int->Prop)(g:Int->Int->V):R2:=fun x y H Q=> ∃i j,x= .int i/\y= .int j/\C i j/\Q (g i j) H
def rI0 (g:Int->Int->V):R2:=fun x y H Q=> ∃i j,x= .int i/\y= .int j/\Q (g i j) H
def rU (g:Int->V):V->Hp->VK->Prop:=fun x H Q=> ∃i,x= .int i/\Q (g i) H
section
variable {X:Cx}{a b c:Expr}{ta tb tc:TE}{pos:Pos}
theorem bLi (ha:PE X a ta)(hb:PE X b tb){pins:List (Addr×Obj)}{s:Qf}{σ:St}{H:Hp}{R:V->V->Hp->Prop}(I:Inv X pins σ H s)
  (h:ta σ H fun x H1=>tb σ H1 fun y H2=>R x y H2) {Q:Qd->Qf->Prop} {f:Qd->Qd->Sem Qd}
  (hf: ∀v u s2 x y H2,Inv X pins σ H2 s2->RelV x v->RelV y u->R x y H2->Qm (Ql X.prog X.w) X.A (f v u) Q X.xe s2):
  Qm (Ql X.prog X.w) X.A (eval a X.env) (fun v s₁=>Qm (Ql X.prog X.w) X.A (eval b X.env) (fun u s₂=>Qm (Ql X.prog X.w) X.A (f v u) Q X.xe s₂) X.xe s₁) X.xe s:=by
 refine thn (ha pins s σ H _ I h) fun v s1 ⟨x,H1,I1,r1,q1⟩=> ?_
 refine thn (hb pins s1 σ H1 _ I1 q1) fun u s2 ⟨y,H2,I2,r2,q2⟩=> ?_
 exact hf v u s2 x y H2 I2 r1 r2 q2
theorem bKh {op:Operator}{r:R2}(ho:OpR X (binaryOp op) r)(ha:PE X a ta)(hb:PE X b tb):PE X (.BinOp a op b pos) (tOp r ta tb):=by
 intro pins s σ H Q I h;exact wpAny_BinOp (bLi ha hb I h fun v u s2 x y H2 I2 rx ry q=>ho pins s2 σ H2 x y v u Q I2 rx ry q)
theorem bKg {op:UnaryOp}{r:V->Hp->VK->Prop}(ho:UnR X (unaryOp op) r)(ha:PE X a ta):PE X (.UnaryOp op a pos) (tUn r ta):=by
 intro pins s σ H Q I h;exact UnaryOp_ (thn (ha pins s σ H _ I h) fun v s1 ⟨x,H1,I1,r1,q1⟩=>ho pins s1 σ H1 x v Q I1 r1 q1)
theorem opI {f:Qd->Qd->Sem Qd}{C:Int->Int->Prop}{g:Int->Int->Int}
  (rule: ∀(i j:Int) (t u:Tok) (s:Qf) (Q:Qd->Qf->Prop) (E:Qd->Qf->Prop),C i j->Q (.int (g i j) s.toks) {s with toks:=s.toks+1}->Qm (Ql X.prog X.w) X.A (f (.int i t) (.int j u)) Q E s):
  OpR X f (rI C fun i j=> .int (g i j)):=by
 intro pins s σ H x y v u Q I rx ry h;obtain⟨i,j,rfl,rfl,hc,q⟩:=h;obtain⟨t,rfl⟩:=rx;obtain⟨t',rfl⟩:=ry;exact rule i j t t' s _ _ hc ⟨.int (g i j),H,I.tok _,⟨_,rfl⟩,q⟩
theorem bLy {f:Qd->Qd->Sem Qd}{g:Int->Int->Int}
  (rule: ∀(i j:Int) (t u:Tok) (s:Qf) (Q:Qd->Qf->Prop) (E:Qd->Qf->Prop),Q (.int (g i j) s.toks) {s with toks:=s.toks+1}->Qm (Ql X.prog X.w) X.A (f (.int i t) (.int j u)) Q E s):
  OpR X f (rI0 fun i j=> .int (g i j)):=by
 intro pins s σ H x y v u Q I rx ry h;obtain⟨i,j,rfl,rfl,q⟩:=h;obtain⟨t,rfl⟩:=rx;obtain⟨t',rfl⟩:=ry;exact rule i j t t' s _ _ ⟨.int (g i j),H,I.tok _,⟨_,rfl⟩,q⟩
theorem bLz {f:Qd->Qd->Sem Qd}{g:Int->Int->Bool}
  (rule: ∀(i j:Int) (t u:Tok) (s:Qf) (Q:Qd->Qf->Prop) (E:Qd->Qf->Prop),Q (.bool (g i j)) s->Qm (Ql X.prog X.w) X.A (f (.int i t) (.int j u)) Q E s):
  OpR X f (rI0 fun i j=> .bl (g i j)):=by
 intro pins s σ H x y v u Q I rx ry h;obtain⟨i,j,rfl,rfl,q⟩:=h;obtain⟨t,rfl⟩:=rx;obtain⟨t',rfl⟩:=ry;exact rule i j t t' s _ _ ⟨.bl (g i j),H,I,rfl,q⟩
def bNn (i j:Int):Prop:=0<j/\j<1073741824
def bNm (i j:Int):Prop:=0<=j/\j<=1000000/\i.natAbs<2^64
theorem bHu:OpR X (binaryOp .Add) (rI0 fun i j=> .int (i+j)):=bLy fun _ _ _ _ _ _ _ q=>add_int q
theorem bHn:OpR X (binaryOp .Sub) (rI0 fun i j=> .int (i-j)):=bLy fun _ _ _ _ _ _ _ q=>sub_int q
theorem bEn:OpR X (binaryOp .FloorDiv) (rI bNn fun i j=> .int (i/j)):=opI fun i j _ _ _ _ _ hc q=>by
 have h1:(0:Int)<j:=hc.1;have h2:j<1073741824:=hc.2;exact floordiv_int (by omega) (by rw[Int.fdiv_eq_ediv_of_nonneg i (by omega)];exact q) (.inl (PyProof.noPylong_small (by omega)))
theorem bHr:OpR X (binaryOp .Mod) (rI (fun _ j=>0<j) fun i j=> .int (i%j)):=opI fun i j _ _ _ _ _ hc q=>by
 have h1:(0:Int)<j:=hc;exact mod_int' (by omega) (by rw[Int.fmod_eq_emod_of_nonneg i (by omega)];exact q)
theorem bHp:OpR X (binaryOp .Pow) (rI bNm fun i j=> .int (i^j.toNat)):=opI fun _ _ _ _ _ _ _ hc q=>pow_int_small hc.1 hc.2.1 hc.2.2 q
theorem unI {f:Qd->Sem Qd}{g:Int->Int}
  (rule: ∀(i:Int) (t:Tok) (s:Qf) (Q:Qd->Qf->Prop) (E:Qd->Qf->Prop),Q (.int (g i) s.toks) {s with toks:=s.toks+1}->Qm (Ql X.prog X.w) X.A (f (.int i t)) Q E s):
  UnR X f (rU fun i=> .int (g i)):=by
 intro pins s σ H x v Q I rx h;obtain⟨i,rfl,q⟩:=h;obtain⟨t,rfl⟩:=rx;exact rule i t s _ _ ⟨.int (g i),H,I.tok _,⟨_,rfl⟩,q⟩
theorem bGm:UnR X (unaryOp .USub) (rU fun i=> .int (-i)):=unI fun _ _ _ _ _ q=>neg_int q
end
def bJz:V->V->Bool
 | .non,.non=>true | .non,.int _=>true | .int _,.non=>true | .non,.bl _=>true | .bl _,.non=>true | .non,.str _=>true | .str _,.non=>true
 | .int _,.int _=>true | .bl _,.bl _=>true | .str _,.str _=>true | .byt _,.byt _=>true
 | .int _,.str _=>true | .str _,.int _=>true | .bl _,.str _=>true | .str _,.bl _=>true
 | _,_=>false
def rEq:R2:=fun x y H Q=>bJz x y=true/\Q (.bl (decide (x=y))) H
def rNe:R2:=fun x y H Q=>bJz x y=true/\Q (.bl (!decide (x=y))) H
theorem aYy {i j:Int}:decide (V.int i=V.int j)=(i==j):=by
 rw[Jd];simp
theorem bDc {i j:Bool}:decide (V.bl i=V.bl j)=(i==j):=by
 rw[Jd];simp
theorem aYx {i j:Str}:decide (V.str i=V.str j)=(i==j):=by
 rw[Jd];simp
theorem aYz {i j:Array UInt8}:decide (V.byt i=V.byt j)=(i.toList==j.toList):=by
 rw[Jd];cases i;cases j;simp
section
variable {X:Cx}{a b c:Expr}{ta tb tc:TE}{pos:Pos}
theorem aBh {pins:List (Addr×Obj)}{σ:St}{H:Hp}{s:Qf}{Q:VK}{k k':Bool}(I:Inv X pins σ H s)(q:Q (.bl k) H)(e:k=k'):EP X pins σ Q (.bool k') s:=by
 subst e;exact⟨.bl k,H,I,rfl,q⟩
theorem bHs:OpR X (Yl .Eq) rEq:=by
 intro pins s σ H x y v u Q I rx ry h;obtain⟨hs,q⟩:=h;cases x with
 | non=>
  cases rx;cases y with
  | non=>cases ry;exact PySem.EqNone.eq_none_none (aBh I q (by simp))
  | bl j=>cases ry;exact PySem.EqNone.eq_none_bool (aBh I q (by simp))
  | int j=>obtain⟨t',rfl⟩:=ry;exact PySem.EqNone.eq_none_int (aBh I q (by simp))
  | str j=>obtain⟨t',rfl⟩:=ry;exact PySem.EqNone.eq_none_str (aBh I q (by simp))
  | _=>exact absurd (show false=true from hs) Qu
 | bl i=>
  cases rx;cases y with
  | non=>cases ry;exact PySem.EqNone.eq_bool_none (aBh I q (by simp))
  | bl j=>cases ry;exact eq_bool (aBh I q bDc)
  | str j=>obtain⟨t',rfl⟩:=ry;exact PySem.EqMixed.eq_bool_str (aBh I q (by simp))
  | _=>exact absurd (show false=true from hs) Qu
 | int i=>
  obtain⟨t,rfl⟩:=rx;cases y with
  | non=>cases ry;exact PySem.EqNone.eq_int_none (aBh I q (by simp))
  | int j=>obtain⟨t',rfl⟩:=ry;exact eq_int (aBh I q aYy)
  | str j=>obtain⟨t',rfl⟩:=ry;exact PySem.EqMixed.eq_int_str (aBh I q (by simp))
  | _=>exact absurd (show false=true from hs) Qu
 | str i=>
  obtain⟨t,rfl⟩:=rx;cases y with
  | non=>cases ry;exact PySem.EqNone.eq_str_none (aBh I q (by simp))
  | bl j=>cases ry;exact PySem.EqMixed.eq_str_bool (aBh I q (by simp))
  | int j=>obtain⟨t',rfl⟩:=ry;exact PySem.EqMixed.eq_str_int (aBh I q (by simp))
  | str j=>obtain⟨t',rfl⟩:=ry;exact eq_str (aBh I q aYx)
  | _=>exact absurd (show false=true from hs) Qu
 | byt i=>
  obtain⟨t,rfl⟩:=rx;cases y with
  | byt j=>obtain⟨t',rfl⟩:=ry;exact PySem.W.eq_bytes (aBh I q aYz)
  | _=>exact absurd (show false=true from hs) Qu
 | _=>cases y<;>exact absurd (show false=true from hs) Qu
theorem bKn:OpR X (Yl .NotEq) rNe:=by
 intro pins s σ H x y v u Q I rx ry h;obtain⟨hs,q⟩:=h;cases x with
 | non=>
  cases rx;cases y with
  | non=>cases ry;exact PySem.EqNone.ne_none_none (aBh I q (by simp))
  | bl j=>cases ry;exact PySem.EqNone.ne_none_bool (aBh I q (by simp))
  | int j=>obtain⟨t',rfl⟩:=ry;exact PySem.EqNone.ne_none_int (aBh I q (by simp))
  | str j=>obtain⟨t',rfl⟩:=ry;exact PySem.EqNone.ne_none_str (aBh I q (by simp))
  | _=>exact absurd (show false=true from hs) Qu
 | bl i=>
  cases rx;cases y with
  | non=>cases ry;exact PySem.EqNone.ne_bool_none (aBh I q (by simp))
  | bl j=>cases ry;exact ne_bool (aBh I q (congrArg not bDc))
  | str j=>obtain⟨t',rfl⟩:=ry;exact PySem.EqMixed.ne_bool_str (aBh I q (by simp))
  | _=>exact absurd (show false=true from hs) Qu
 | int i=>
  obtain⟨t,rfl⟩:=rx;cases y with
  | non=>cases ry;exact PySem.EqNone.ne_int_none (aBh I q (by simp))
  | int j=>obtain⟨t',rfl⟩:=ry;exact ne_int (aBh I q (congrArg not aYy))
  | str j=>obtain⟨t',rfl⟩:=ry;exact PySem.EqMixed.ne_int_str (aBh I q (by simp))
  | _=>exact absurd (show false=true from hs) Qu
 | str i=>
  obtain⟨t,rfl⟩:=rx;cases y with
  | non=>cases ry;exact PySem.EqNone.ne_str_none (aBh I q (by simp))
  | bl j=>cases ry;exact PySem.EqMixed.ne_str_bool (aBh I q (by simp))
  | int j=>obtain⟨t',rfl⟩:=ry;exact PySem.EqMixed.ne_str_int (aBh I q (by simp))
  | str j=>obtain⟨t',rfl⟩:=ry;exact ne_str (aBh I q (congrArg not aYx))
  | _=>exact absurd (show false=true from hs) Qu
 | byt i=>
  obtain⟨t,rfl⟩:=rx;cases y with
  | byt j=>obtain⟨t',rfl⟩:=ry;exact PySem.W.ne_bytes (aBh I q (congrArg not aYz))
  | _=>exact absurd (show false=true from hs) Qu
 | _=>cases y<;>exact absurd (show false=true from hs) Qu
theorem bKo:OpR X (Yl .Lt) (rI0 fun i j=> .bl (decide (i<j))):=bLz fun _ _ _ _ _ _ _ q=>lt_int q
theorem bKp:OpR X (Yl .GtE) (rI0 fun i j=> .bl (decide (j<=i))):=bLz fun _ _ _ _ _ _ _ q=>ge_int q
theorem OpR.or {f:Qd->Qd->Sem Qd}{r r':R2}(h:OpR X f r)(h':OpR X f r'):OpR X f (fun x y H Q=>r x y H Q\/r' x y H Q):=by
 intro pins s σ H x y v u Q I rx ry q;rcases q with q | q
 ·exact h pins s σ H x y v u Q I rx ry q
 ·exact h' pins s σ H x y v u Q I rx ry q
theorem aL0 (b:Expr){op:CmpOp}(h:op≠ .In:=by decide)(h2:op≠ .NotIn:=by decide):Yt op b=false:=by
 have e1:(op==CmpOp.In)=false:=by cases op<;>first | rfl | exact absurd rfl h
 have e2:(op==CmpOp.NotIn)=false:=by cases op<;>first | rfl | exact absurd rfl h2
 cases b<;>simp[Yt,e1,e2]
theorem bD9 {op:CmpOp}{r:R2}(ho:OpR X (Yl op) r)(ha:PE X a ta)(hb:PE X b tb)(hm:Yt op b=false):PE X (.Compare a [op] [b] pos) (tOp r ta tb):=by
 intro pins s σ H Q I h;exact wpAny_Compare1 (bLi ha hb I h fun v u s2 x y H2 I2 rx ry q=>ho pins s2 σ H2 x y v u Q I2 rx ry q) hm
def bJo (t:TE):TT:=fun σ H Q=>t σ H fun x H'=> ∃k,x= .bl k/\Q k H'
theorem bD0 {op:CmpOp}{r:R2}(ho:OpR X (Yl op) r)(ha:PE X a ta)(hb:PE X b tb)(hm:Yt op b=false):PT X (.Compare a [op] [b] pos) (bJo (tOp r ta tb)):=by
 intro pins s σ H Q I h;refine wpAny_isTrue_Compare1 (thn (ha pins s σ H _ I h) fun v s1 ⟨x,H1,I1,r1,q1⟩=>thn (hb pins s1 σ H1 _ I1 q1) fun u s2 ⟨y,H2,I2,r2,q2⟩=>
  thn (ho pins s2 σ H2 x y v u _ I2 r1 r2 q2) fun c s3 ⟨z,H3,I3,r3,k,e,q3⟩=> ?_) hm
 subst e;cases r3;exact wpAny_truthy_bool ⟨H3,I3,q3⟩
def bLk (K:Qb)(x:V)(H:Hp)(k:Bool):Prop:=
 match x with
 | .non=>k=false
 | .bl b=>k=b
 | .int i=>k=(i !=0)
 | .str y=>y.length<=Qq/\k=((y.length:Int) !=0)
 | .byt y=>y.size<=Qq/\k=((y.size:Int) !=0)
 | .ref p=>(∃xs,SqL K H p xs/\k= !xs.isEmpty)\/(∃xs,SqT K H p xs/\k= !xs.isEmpty)\/∃kvs,H p=some (.dK kvs)/\k= !kvs.isEmpty
 | _=>False
theorem aUy {κ:Type}{kvs:List (κ×V)}{vs:List (κ×Qd)}(r:KV kvs vs):(!vs.isEmpty)= !kvs.isEmpty:=by
 cases r<;>rfl
theorem aNv {xs:List V}{its:List Qd}(r:Vals xs its):(!its.toArray.isEmpty)= !xs.isEmpty:=by
 cases r<;>simp
theorem aP2:(Qq:Nat)<2^63:=by rw[sizeLine_eq];decide
theorem bGo:bNk X (fun x H Q=> ∃k,bLk X.K x H k/\Q k H):=by
 intro pins s σ H x v Q I rx h;obtain⟨k,e,q⟩:=h;have hl:=aP2;have hs:Qq=16777216:=sizeLine_eq;cases x with
 | non=>
  cases rx;have e':k=false:=e;subst e';exact truthy_none ⟨H,I,q⟩
 | bl b=>
  cases rx;have e':k=b:=e;subst e';exact wpAny_truthy_bool ⟨H,I,q⟩
 | int i=>
  obtain⟨t,rfl⟩:=rx;have e':k=(i !=0):=e;subst e';exact PySem.P.truthy_int ⟨H,I,q⟩
 | str y=>
  obtain⟨t,rfl⟩:=rx;obtain⟨hy,e'⟩:y.length<=Qq/\k=((y.length:Int) !=0):=e;subst e';exact PySem.P.truthy_str (by omega) ⟨H,I.tok _,q⟩
 | byt y=>
  obtain⟨t,rfl⟩:=rx;obtain⟨hy,e'⟩:y.size<=Qq/\k=((y.size:Int) !=0):=e;subst e';exact PySem.W.truthy_bytes (by omega) ⟨H,I.tok _,q⟩
 | ref p=>
  cases rx;have e':(∃xs,SqL X.K H p xs/\k= !xs.isEmpty)\/(∃xs,SqT X.K H p xs/\k= !xs.isEmpty)\/∃kvs,H p=some (.dK kvs)/\k= !kvs.isEmpty:=e;rcases e' with⟨xs,hx,e'⟩ |⟨xs,hx,e'⟩ |⟨kvs,hx,e'⟩
  ·subst e'
   obtain⟨its,r,pl,hz⟩:=I.list hx;have hlen:=r.length;exact wpAny_truthy_list pl.isList (by simp only[Qo];omega) ⟨H,I.tok _,by rw[aNv r];exact q⟩
  ·subst e'
   obtain⟨its,r,pl,hz⟩:=I.tuple hx;have hlen:=r.length;exact truthy_tuple pl (by simp only[Qo];omega) ⟨H,I.tok _,by rw[aNv r];exact q⟩
  ·subst e'
   obtain⟨hz,hS,vs,r,m⟩:kvs.length<=Qq/\(p==sysModules)=false/\∃vs,KV kvs vs/\s.heap.DictOf (aCk X.prog X.w) p vs:=I.hok p _ hx;have hlen:kvs.length=vs.length:=Paired.length r;exact wpAny_truthy_dict hS m (by omega) ⟨H,I.tok _,by rw[aUy r];exact q⟩
 | _=>exact (show False from e).elim
theorem bAn (ha:PE X a ta)(he: ∀whole,isTrue a X.env whole=(do let v<-whole;standAt a.pos;holding [v] (truthy v))):
  PT X a (fun σ H Q=>ta σ H fun x H'=> ∃k,bLk X.K x H' k/\Q k H'):=by
 intro pins s σ H Q I h;exact isTrue_plain (thn (ha pins s σ H _ I h) fun v s1 ⟨x,H1,I1,r1,q1⟩=>bGo pins s1 σ H1 x v Q I1 r1 q1) (he _)
theorem aUk:OpR X (binaryOp .Add) (fun x y H Q=> ∃i j,x= .str i/\y= .str j/\i.length+j.length<=Qq/\Q (.str (i++j)) H):=by
 intro pins s σ H x y v u Q I rx ry h;obtain⟨i,j,rfl,rfl,hz,q⟩:=h;obtain⟨t,rfl⟩:=rx;obtain⟨t',rfl⟩:=ry;exact add_str (fun t' tk=>⟨.str (i++j),H,I.tok _,⟨_,rfl⟩,q⟩) hz
theorem vals1 {x:V}{us:List Qd}(r:Vals [x] us): ∃u,us=[u]/\RelV x u:=by
 cases r with
 | cons r1 r2=>cases r2;exact⟨_,rfl,r1⟩
theorem vals2 {x y:V}{us:List Qd}(r:Vals [x,y] us): ∃u w',us=[u,w']/\RelV x u/\RelV y w':=by
 cases r with
 | cons r1 r2=>
  cases r2 with
  | cons r3 r4=>cases r4;exact⟨_,_,rfl,r1,r3⟩
end
structure bF9 (h:Heap)(x dx C:Addr)(mA:Str->Option Qd):Prop where
 obj:h.get? x=some (Zy C dx)
 ns:h.Ns1 dx mA
 ne:dx≠x
theorem aXq {h:Heap}{dx:Addr}{mA:Str->Option Qd}(n:h.Ns1 dx mA): ∃od,h.get? dx=some od/\∀name,Jz name od=some (mA name):=by
 obtain⟨o,es,ep,ho,hd,hk,_,hm⟩:=n;refine⟨o,ho,fun name=> ?_⟩;have e:=hm name;unfold nsFind findBy at e;rw[<-Array.find?_toList] at e;unfold Jz;rw[hd]
 dsimp only
 split
 ·rename_i y q
  rw[q] at e;exact congrArg some e
 ·rename_i q
  rw[q] at e;have a:es.toList.any (·.refKey)=false:=by
   rw[List.any_eq_false];intro y hy;obtain⟨z,t,hkey⟩:=hk y (Array.mem_toList_iff.mp hy);simp[DictEntry.refKey,hkey]
  have a':¬es.toList.any (·.refKey)=true:=by rw[a];exact Qu
  rw[if_neg a'];exact congrArg some e
theorem bF9.look {h:Heap}{x dx C:Addr}{mA:Str->Option Qd}(I:bF9 h x dx C mA): ∃od,PySem.W.InstAt h x (Zy C dx) C (some od)/\∀name,Jz name od=some (mA name):=
 let ⟨od,ho,hl⟩:=aXq I.ns
 ⟨od,⟨I.obj,rfl,rfl,ho⟩,hl⟩
section
variable {prog:Qr}{w:Q2}{A:Za}{E:Qd->Qf->Prop}{s:Qf}{K:Qb}{x dx C f:Addr}{mA:Str->Option Qd}{name:Str}{v:Qd}
theorem get_map {expr:Bool}{Q:Qd->Qf->Prop}(X:K.In s.heap)(I:bF9 s.heap x dx C mA)(hg:Js K C name=true)(hh:J7 K C=true)
  (ha:Zo K (.ref C) name=some none) (hv:mA name=some v) (hv':Wb v=true) (h:Q v {s with toks:=s.toks+1}):
  Qm (Ql prog w) A (getAttr (.ref x) name expr) Q E s:=by
 obtain⟨od,J,hl⟩:=I.look;exact PySem.W.get_value X J (J2 hg).1 (PySem.W.findObj_own hh ha rfl (by rw[hl,hv])) hv' h
theorem bBr {pl:Sem Bool}{Q:Qd×List Qd->Qf->Prop}(X:K.In s.heap)(I:bF9 s.heap x dx C mA)(hg:Js K C name=true)
  (hf:Zo K (.ref C) name=some (some (.ref f))) (ht:Ut K (.ref f)=true) (hv:mA name=none) (h:Q (.ref f,[.ref x]) s):
  Qm (Ql prog w) A (getMethod (.ref x) name pl) Q E s:=by
 obtain⟨od,J,hl⟩:=I.look;exact PySem.W.method_fn X J (J2 hg).1 (J2 hg).2 hf (beq_iff_eq.mp ht) (by show (Jz name od).map (·.isSome)=some false;rw[hl,hv];rfl) h
theorem bDu {ns:List Str}{Q:Unit->Qf->Prop}(X:K.In s.heap)(I:bF9 s.heap x dx C mA)
  (hs:Zo K (.ref C) "__setattr__"=some (some (.builtin "object.__setattr__"))) (hp:U7 K C=true) (ht:Ug K C name=some none) (hh:J7 K C=true)
  (hw:Uy mA ns) (hsz:ns.length<=Qq)
  (h: ∀h',bF9 h' x dx C (fun y=>if y=name then some v else mA y)->Yg dx s.heap h'->Q () {s with heap:=h',toks:=s.toks+2}):
  Qm (Ql prog w) A (setAttr (.ref x) name v) Q E s:=by
 obtain⟨od,J,hl⟩:=I.look;refine PySem.W.set_plain X J hs (PySem.W.osa_open (s:={s with toks:=s.toks+1}) (r:=none) X J hp ht fun b=> ?_);obtain⟨cd,hc,hd'⟩:=PySem.W.any_some hh;have hx:s.heap.get? x=some ⟨.ref C,some dx,.plain,#[]⟩:=I.obj;refine Qc (Qe (Qc (Qc (wpAny_loadPart hx (Qc (PySem.W.Looks.here (s:={s with toks:=s.toks+1}) (PySem.W.looks_clsIn X hc) ?_))))));rw[hd'];refine Qe (a:=some dx) (Qc (Qe (Qc ?_)));refine wpAny_nsSet1 (s:={s with toks:=s.toks+1}) I.ns fun h' hn2 hs2=> ?_
 obtain⟨oD,esD,epD,hoD,hdD,hcD⟩:=hn2.count (PySem.Within.cons name v hw);refine Qc (wpAny_lookBehind hoD (by rw[hdD];exact pastItsLine_dict (Zi hcD (by rw[Q4];omega))) ?_);exact Qe (h _ ⟨(hs2.2 _ (Ne.symm I.ne)).trans I.obj,hn2,I.ne⟩ hs2)
theorem aTa {R:Result->Qf->Prop}{vs:List Qd}{kw:List (Str×Qd)}(X:K.In s.heap)(hm:Wd K C=true)
  (hi:Zo K (.ref C) "__init__"=some (some (.ref f))) (hf:PySem.W.typeIn K (.ref f)=some (.type "function"))
  (h:codeAny (Ql prog w) (A.under (.builtin "type.__call__" ⟨.ref C::vs,kw⟩)) (.call (.ref f) ⟨.ref (s.heap.objs.size+1)::vs,kw⟩) (PySem.W.InitBack (s.heap.objs.size+1) R)
   {s with heap:=(s.heap.push Zk).push (Zy C s.heap.objs.size)}):
  codeAny (Ql prog w) A (.call (.ref C) ⟨vs,kw⟩) R s:=by
 obtain⟨hh,g,d,t,os⟩:=s;exact PySem.W.make_core (PySem.W.makes_of X hm) (Jg X hi) (fun self=>PySem.W.bind_fn X self hf) (.inl rfl) h
end
def aNq (f:Str)(v:V):List (Str×V)->List (Str×V)
 | []=> [(f,v)]
 |(g,x)::r=>if g=f then (g,v)::r else (g,x)::aNq f v r
theorem aL3 (f g:Str)(v:V): ∀fs:List (Str×V),(aNq f v fs).lookup g=if g=f then some v else fs.lookup g
 | []=>by
  show Jk g [(f,v)]=_;by_cases h:g=f
  ·have hb:(g==f)=true:=beq_iff_eq.mpr h
   simp only[Jk,hb,if_pos h]
  ·have hb:(g==f)=false:=beq_eq_false_iff_ne.mpr h
   simp only[Jk,hb,if_neg h]
 |(k,x)::r=>by
  have ih:=aL3 f g v r;rw[show aNq f v ((k,x)::r)=(if k=f then (k,v)::r else (k,x)::aNq f v r) from rfl];by_cases hk:k=f
  ·rw[if_pos hk]
   by_cases h:g=k
   ·have hb:(g==k)=true:=beq_iff_eq.mpr h
    simp only[Jk,hb,if_pos (h.trans hk)]
   ·have hb:(g==k)=false:=beq_eq_false_iff_ne.mpr h
    simp only[Jk,hb,if_neg (fun e:g=f=>h (e.trans hk.symm))]
  ·rw[if_neg hk]
   by_cases h:g=k
   ·have hb:(g==k)=true:=beq_iff_eq.mpr h
    simp only[Jk,hb,if_neg (fun e:g=f=>hk (h.symm.trans e))]
   ·have hb:(g==k)=false:=beq_eq_false_iff_ne.mpr h
    simp only[Jk,hb];exact ih
theorem aL6 (f:Str)(v:V): ∀fs:List (Str×V),f∈(aNq f v fs).map (·.1)/\∀g,g∈fs.map (·.1)->g∈(aNq f v fs).map (·.1)
 | []=>⟨by simp[aNq],fun g h=>by simp at h⟩
 |(k,x)::r=>by
  obtain⟨i1,i2⟩:=aL6 f v r;rw[show aNq f v ((k,x)::r)=(if k=f then (k,v)::r else (k,x)::aNq f v r) from rfl];by_cases hk:k=f
  ·rw[if_pos hk]
   subst hk;exact⟨by simp,fun g h=>by simpa using h⟩
  ·rw[if_neg hk]
   refine⟨?_,fun g h=> ?_⟩
   ·rw[Q9]
    exact Qw _ i1
   ·rw[Q9] at h⊢
    rcases List.mem_cons.mp h with e | e
    ·exact List.mem_cons.mpr (.inl e)
    ·exact Qw _ (i2 g e)
theorem aL4 (f:Str)(v:V): ∀fs:List (Str×V),(aNq f v fs).length<=fs.length+1
 | []=>by simp[aNq]
 |(k,x)::r=>by
  have ih:=aL4 f v r;rw[show aNq f v ((k,x)::r)=(if k=f then (k,v)::r else (k,x)::aNq f v r) from rfl];by_cases hk:k=f
  ·rw[if_pos hk,Q4,Q4];omega
  ·rw[if_neg hk,Q4,Q4];omega
theorem aTy.some_of {v:V}{o:Option Qd}(r:aTy (some v) o): ∃u,o=some u/\RelV v u:=by
 cases o with
 | none=>exact (show False from r).elim
 | some u=>exact⟨u,rfl,r⟩
theorem aTy.none_of {o:Option Qd}(r:aTy none o):o=none:=by
 cases o with
 | none=>rfl
 | some u=>exact (show False from r).elim
theorem aYh {v:V}{u:Qd}(r:RelV v u):Wb u=true:=by
 cases v with
 | non=>cases (show u=Value.none from r);rfl
 | bl b=>cases (show u=Value.bool b from r);rfl
 | int i=>obtain⟨t,e⟩:=(show∃t,u=Value.int i t from r);cases e;rfl
 | str x=>obtain⟨t,e⟩:=(show∃t,u=Ym x t from r);cases e;rfl
 | byt b=>obtain⟨t,e⟩:=(show∃t,u=Value.bytes b t from r);cases e;rfl
 | flt b=>obtain⟨t,e⟩:=(show∃t,u=Value.float b t from r);cases e;rfl
 | ref a=>cases (show u=Zc a from r);rfl
 | ty n=>cases (show u=Value.type n from r);rfl
section
variable {P:Qr}{w:Q2}{H H':Hp}{h h':Heap}{a C dx:Addr}{fs fs':List (Str×V)}
theorem aRu (hok:HOk P w H h)(e:H a=some (.ins C dx fs)): ∃mA,bF9 h a dx C mA/\(∀f,aTy (fs.lookup f) (mA f))/\Uy mA (fs.map (·.1))/\fs.length<=1000/\H dx=some (.own a):=by
 obtain⟨d,z,ne,ob,mA,n,r,q⟩:=(show aCn P w H h a (.ins C dx fs) from hok a _ e);exact⟨mA,⟨ob,n,ne⟩,r,q,z,d⟩
end
structure Cls (K:Qb)(C:Addr):Prop where
 pg:Js K C Zr=true
 hd:J7 K C=true
 po:U7 K C=true
 sa:Zo K (.ref C) "__setattr__"=some (some (.builtin "object.__setattr__"))
theorem Cls.get {K:Qb}{C:Addr}(c:Cls K C)(f:Str):Js K C f=true:=c.pg
def aD8 (K:Qb)(C:Addr)(f:Str):Prop:=Zo K (.ref C) f=some none
theorem aD8.taker {K:Qb}{C:Addr}{f:Str}(n:aD8 K C f):Ug K C f=some none:=by
 unfold Ug;rw[show Zo K (.ref C) f=some none from n];rfl
structure Meth (K:Qb)(C:Addr)(m:Str)(f:Addr):Prop where
 at_:Zo K (.ref C) m=some (some (.ref f))
 fn:Ut K (.ref f)=true
 kp:Jo K (.ref f)=true
section
variable {X:Cx}{pins:List (Addr×Obj)}{σ:St}{H:Hp}{s:Qf}{a C dx:Addr}{fs:List (Str×V)}{f:Str}{v:V}{A:Za}{E:Qd->Qf->Prop}
theorem aUz {b:Bool}{Q:Qd->Qf->Prop}(I:Inv X pins σ H s)(e:H a=some (.ins C dx fs))(c:Cls X.K C)(n:aD8 X.K C f)(l:fs.lookup f=some v)
  (h: ∀u s',Inv X pins σ H s'->RelV v u->Q u s'):Qm (Ql X.prog X.w) A (getAttr (.ref a) f b) Q E s:=by
 obtain⟨mA,O,r,_,_,_⟩:=aRu I.hok e;obtain⟨u,hu,ru⟩:=aTy.some_of (v:=v) (o:=mA f) (by rw[<-l];exact r f);exact get_map I.kIn O (c.get f) c.hd n hu (aYh ru) (h u _ (I.tok _) ru)
theorem aNw {m:Str}{g:Addr}{pl:Sem Bool}{Q:Qd×List Qd->Qf->Prop}(I:Inv X pins σ H s)(e:H a=some (.ins C dx fs))(c:Cls X.K C)(k:Meth X.K C m g)(l:fs.lookup m=none)
  (h:Q (.ref g,[.ref a]) s):Qm (Ql X.prog X.w) A (getMethod (.ref a) m pl) Q E s:=by
 obtain⟨mA,O,r,_,_,_⟩:=aRu I.hok e;have hn:mA m=none:=aTy.none_of (by rw[<-l];exact r m);exact bBr I.kIn O (c.get m) k.at_ k.fn hn h
theorem aUd {y:V}{u:Qd}{Q:Unit->Qf->Prop}(I:Inv X pins σ H s)(e:H a=some (.ins C dx fs))(c:Cls X.K C)(n:aD8 X.K C f)(hl:fs.length<1000)(ry:RelV y u)
  (h: ∀s',Inv X pins σ (upd H a (.ins C dx (aNq f y fs))) s'->Q () s'):Qm (Ql X.prog X.w) A (setAttr (.ref a) f u) Q E s:=by
 obtain⟨mA,O,r,wi,_,ho⟩:=aRu I.hok e;have hz:(fs.map (·.1)).length<=Qq:=by rw[Qv,sizeLine_eq];omega
 refine bDu I.kIn O c.sa c.po n.taker c.hd wi hz fun h' O' sb=>h _ ?_
 have hd: ∃o,h'.get? dx=some o:=let ⟨o,_,_,e',_⟩:=O'.ns;⟨o,e'⟩;refine I.write (x:=a) (e:=dx) (by rw[e];exact True.intro) (.inr ho) (fun b q hb z=>(sb.2 b hb).trans z) hd ?_;refine⟨by rw[aAq O.ne];exact ho,?_,O.ne,O'.obj,_,O'.ns,fun g=> ?_,fun g hg=> ?_⟩
 ·have:=aL4 f y fs;omega
 ·show aTy ((aNq f y fs).lookup g) (if g=f then some u else mA g)
  rw[aL3];by_cases q:g=f
  ·rw[if_pos q,if_pos q];exact ry
  ·rw[if_neg q,if_neg q];exact r g
 ·by_cases q:g=f
  ·rw[q];exact (aL6 f y fs).1
  ·refine (aL6 f y fs).2 g (wi g fun z=>hg ?_)
   show (if g=f then some u else mA g)=none;rw[if_neg q];exact z
theorem Inv.made (I:Inv X pins σ H s):Inv X pins σ (upd (upd H s.heap.objs.size (.own (s.heap.objs.size+1))) (s.heap.objs.size+1) (.ins C s.heap.objs.size []))
  {s with heap:=(s.heap.push Zk).push (Zy C s.heap.objs.size)}:=by
 have e1:(s.heap.push Zk).get? s.heap.objs.size=some Zk:=Qs s.heap rfl;have e2:((s.heap.push Zk).push (Zy C s.heap.objs.size)).get? (s.heap.objs.size+1)=some (Zy C s.heap.objs.size):=by
  have:=Qs (s.heap.push Zk) (o:=Zy C s.heap.objs.size) rfl
  rwa [Heap.size_push] at this
 have e3:(s.heap.push Zk).Ns s.heap.objs.size (fun _=>none):=⟨Zk,#[],_,e1,rfl,(fun e he=>absurd he (by simp)),fun _=>rfl⟩;have I1:=I.laid (a:=s.heap.objs.size) (o:= .own (s.heap.objs.size+1)) (h':=s.heap.push Zk) (t':=s.toks) (fun b u q=>Qh _ q) (Qn _) ⟨_,e1⟩;refine I1.laid (a:=s.heap.objs.size+1) (o:= .ins C s.heap.objs.size []) (t':=s.toks) (fun b u q=>Qh _ q) (Nat.le_of_eq (Heap.size_push _ _)) ?_;have ne:s.heap.objs.size≠s.heap.objs.size+1:=Qy (Ji _);refine⟨by rw[aAq ne,aAs],Y5 _,ne,e2,fun _=>none,(Heap.Ns1.of_empty e3).at fun o q=>Qh _ q,fun _=>True.intro,fun y hy=>absurd rfl hy⟩
theorem bF6 {prog:Qr}{w:Q2}{env:Env}{e:Expr}{f:Str}{pos:Pos}{s:Qf}{Q:Qd->Qf->Prop}(hb:attributeBase e f env (eval e env)=eval e env)
  (h:Qm (Ql prog w) A (eval e env) (fun o s₁=>Qm (Ql prog w) A (getAttr o f true) Q E s₁) E s):Qm (Ql prog w) A (eval (.Attribute e f pos) env) Q E s:=
 Attribute_any_ h (by rw[arm_eval_Attribute,hb])
end
def bMj (K:Qb)(ta:TE)(f:Str):TE:=fun σ H Q=>ta σ H fun x H1=> ∃a C dx fs v,x= .ref a/\H1 a=some (.ins C dx fs)/\Cls K C/\aD8 K C f/\fs.lookup f=some v/\Q v H1
def bMm (K:Qb)(ta tv:TE)(f:Str):TS:=fun D σ H=>tv σ H fun y H1=>ta σ H1 fun x H2=> ∃a C dx fs,x= .ref a/\H2 a=some (.ins C dx fs)/\Cls K C/\aD8 K C f/\fs.length<1000/\
 D.nx σ (upd H2 a (.ins C dx (aNq f y fs)))
section
variable {X:Cx}{o e value:Expr}{f:Str}{pos pos' tpos:Pos}{ta tv:TE}
theorem bCp (he:PE X e ta)(hb:attributeBase e f X.env (eval e X.env)=eval e X.env):PE X (.Attribute e f pos) (bMj X.K ta f):=by
 intro pins s σ H Q I h;refine bF6 hb (thn (he pins s σ H _ I h) fun u s1 hP=> ?_);obtain⟨x,H1,I1,rx,a,C,dx,fs,v,ex,ea,c,n,l,q⟩:=hP;subst ex;obtain rfl:u=Zc a:=rx;exact aUz I1 ea c n l fun u' s2 I2 ru=>⟨v,H1,I2,ru,q⟩
theorem aSw (ha:PE X o ta)(hv:PE X value tv)(hs:swapsWith value (some (.Attribute o f pos')) pos.line X.env=pure false):PS X (.Assign [.Attribute o f pos'] value pos) (bMm X.K ta tv f):=by
 intro pins s σ H D I h;refine plainObj_wpAny_Assign_Attribute (thn (hv pins s σ H _ I h) fun u s1 ⟨y,H1,I1,ry,q⟩=>thn (ha pins s1 σ H1 _ I1 q) fun ov s2 hP=> ?_) hs;obtain⟨x,H2,I2,rx,a,C,dx,fs,ex,ea,c,n,l,q2⟩:=hP;subst ex;obtain rfl:ov=Zc a:=rx;exact aUd I2 ea c n l ry fun s3 I3=>⟨σ,_,I3,q2⟩
end
structure aEx (k:Nat)(A:Za):Prop where
 hd:A.handled=none
 dp:A.depth+3*k+5<recursionLimit
 un:A.units+16*k+200<cLine
theorem aEx.mono {j k:Nat}{A:Za}(r:aEx k A)(h:j<=k):aEx j A:=⟨r.hd,by have:=r.dp;omega,by have:=r.un;omega⟩
theorem aEx.deeper {k:Nat}{A:Za}(r:aEx (k+1) A)(env:Env):aEx k (A.deeper env):=
 ⟨r.hd,by have:=r.dp;show A.depth+1+3*k+5<_;omega,by have:=r.un;show A.units+3+16*k+200<_;omega⟩
theorem aUq {A:Za}{C:Addr}{us:List Qd}{kw:List (Str×Qd)}:(A.under (.builtin "type.__call__" ⟨.ref C::us,kw⟩)).depth=A.depth+1:=by
 first | rfl | simp[Around.under,Code.weight,Code.isCreation,Code.isGuard,Code.isCaller,Code.frames,Code.isFrame,guardIds]
theorem aUp {A:Za}{C:Addr}{us:List Qd}{kw:List (Str×Qd)}:(A.under (.builtin "type.__call__" ⟨.ref C::us,kw⟩)).units=A.units+1:=by
 first | rfl | simp[Around.under,Code.cUnits,Code.frames,Code.isFrame]
theorem aEx.make {k:Nat}{A:Za}(r:aEx (k+1) A)(C:Addr)(us:List Qd)(kw:List (Str×Qd)):aEx k (A.under (.builtin "type.__call__" ⟨.ref C::us,kw⟩)):=
 ⟨r.hd,by have:=r.dp;rw[aUq];omega,by have:=r.un;rw[aUp];omega⟩
theorem aEx.depth {k:Nat}{A:Za}(r:aEx k A):A.depth<recursionLimit:=by have:=r.dp;omega
theorem aEx.units {k:Nat}{A:Za}(r:aEx k A):A.units+64<cLine:=by have:=r.un;omega
theorem aEx.bGl {k:Nat}{A:Za}(r:aEx k A):A.units<cLine:=by have:=r.un;omega
def bMf:TA:=fun _ H Q=>Q [] H
def bJv (ta:TE)(tr:TA):TA:=fun σ H Q=>ta σ H fun x H1=>tr σ H1 fun xs H2=>Q (x::xs) H2
section
variable {X:Cx}{e:Expr}{es:List Expr}{te:TE}{t:TA}{pos:Pos}
theorem aFu:PA X [] bMf:=fun _ _ _ _ H Q I h=>Calls.spliced_nil ⟨[],H,I,.nil,h⟩
theorem aC3 (ha:PE X e te)(hr:PA X es t)(hs:Qz (e::es) X.env=(false,eval e X.env)::Qz es X.env:=by rfl):PA X (e::es) (bJv te t):=by
 intro pos pins s σ H Q I h;rw[hs];show Qm _ _ (spliced ((false,eval e X.env)::backTo pos (Qz es X.env))) _ _ s;refine Calls.spliced_cons (thn (ha pins s σ H _ I h) fun u s1 ⟨x,H1,I1,r1,q1⟩=> ?_);exact thn (hr pos pins s1 σ H1 _ I1 q1) fun us s2 ⟨xs,H2,I2,r2,q2⟩=>⟨x::xs,H2,I2,.cons r1 r2,q2⟩
def bMb (t:TA):TE:=fun σ H Q=>t σ H fun xs H1=>xs.length<=Qq/\∀p,H1 p=none->Q (.ref p) (upd H1 p (.tup xs))
def bMh (t:TA):TE:=fun σ H Q=>t σ H fun xs H1=>xs.length<=Qq/\∀p,H1 p=none->Q (.ref p) (upd H1 p (.lst xs))
theorem bHa {x1}(h:PA X es t):PE X (.Tuple es x1 pos) (bMb t):=by
 intro pins s σ H Q I hq;refine wpAny_Tuple_spliced (thn (h pos pins s σ H _ I hq) fun us s1 ⟨xs,H1,I1,r,z,q⟩=>⟨by rw[<-r.length];exact z,?_⟩);have hf:H1 s1.heap.objs.size=none:=I1.hok.fresh (Qn _);refine⟨.ref s1.heap.objs.size,upd H1 s1.heap.objs.size (.tup xs),I1.laid (t':=s1.toks) (fun b u e=>Qh _ e) (Qn _) ?_,rfl,q _ hf⟩;exact⟨z,us,r,⟨_,Qs _ rfl,rfl,⟨_,rfl⟩,rfl⟩⟩
theorem bCo (h:PA X es t):PE X (.List es pos) (bMh t):=by
 intro pins s σ H Q I hq;refine wpAny_List_spliced (thn (h pos pins s σ H _ I hq) fun us s1 ⟨xs,H1,I1,r,z,q⟩=>⟨by rw[<-r.length];exact z,?_⟩);have hf:H1 s1.heap.objs.size=none:=I1.hok.fresh (Qn _);refine⟨.ref s1.heap.objs.size,upd H1 s1.heap.objs.size (.lst xs),I1.laid (t':=s1.toks) (fun b u e=>Qh _ e) (Qn _) ?_,rfl,q _ hf⟩;exact⟨z,us,0,r,Qs _ rfl⟩
end
abbrev Sp:=List V->Hp->VK->XK->Prop
abbrev CXT:=List Env->Hp->Qf->XK->Qd->Qf->Prop
structure bGd (P:Qr)(w:Q2)(K:Qb)(mg:Str->Option Qd)(base:Heap)(A:Za)(outer:List Env)(s:Qf)(H:Hp):Prop where
 frames:A.frames=some outer
 mod:Mod K mg base
 bs: ∀b o,base.get? b=some o->s.heap.get? b=some o/\H b=none
 bsz:base.objs.size<=s.heap.objs.size
 aRz:s.heap.FunFrames base outer
 frf: ∀b∈frs outer,H b=none
 hok:HOk P w H s.heap
 bare:AllBare s.gens
def CE (outer:List Env)(P:Qr)(w:Q2)(H:Hp)(s:Qf)(Q:VK)(u:Qd)(s':Qf):Prop:=
 ∃v H',s'.os=s.os/\AllBare s'.gens/\Un (frs outer) [] H H' s.heap s'.heap/\HOk P w H' s'.heap/\RelV v u/\Q v H'
def CR (CX:CXT)(outer:List Env)(P:Qr)(w:Q2)(H:Hp)(s:Qf)(Q:VK)(E:XK)(r:Result)(s':Qf):Prop:=
 match r with
 | .ok (.ret u)=>CE outer P w H s Q u s'
 | .ok _=>False
 | .error e=>CX outer H s E e s'
structure aSh (P:Qr)(w:Q2)(K:Qb)(mg:Str->Option Qd)(base:Heap)(CX:CXT)(k:Nat)(f:Addr)(fd:Z5)(ps:List Str)(sp:Sp):Prop where
 len: ∀vs H Q E,sp vs H Q E->vs.length=ps.length
 run: ∀(A:Za) (outer:List Env) (s:Qf) (H:Hp) (args:Args) (us:List Qd) (vs:List V) (Q:VK) (E:XK),aEx k A->bGd P w K mg base A outer s H->BindsTo s fd args (ps.zip us)->Vals vs us->sp vs H Q E->
  codeAny (Ql P w) A (.call (.ref f) args) (CR CX outer P w H s Q E) s
theorem aSh.imp {P:Qr}{w:Q2}{K:Qb}{mg:Str->Option Qd}{base:Heap}{CX:CXT}{k:Nat}{f:Addr}{fd:Z5}{ps:List Str}{sp sp':Sp}(F:aSh P w K mg base CX k f fd ps sp)
  (h: ∀vs H Q E,sp' vs H Q E->sp vs H Q E):aSh P w K mg base CX k f fd ps sp':=
 ⟨fun vs H Q E q=>F.len vs H Q E (h _ _ _ _ q),fun A outer s H args us vs Q E hr he hb hv hs=>F.run A outer s H args us vs Q E hr he hb hv (h _ _ _ _ hs)⟩
theorem bGd.make {P:Qr}{w:Q2}{K:Qb}{mg:Str->Option Qd}{base:Heap}{A:Za}{outer:List Env}{s:Qf}{H:Hp}(e:bGd P w K mg base A outer s H)(C:Addr)(us:List Qd)(kw:List (Str×Qd)):
  bGd P w K mg base (A.under (.builtin "type.__call__" ⟨.ref C::us,kw⟩)) outer s H:=⟨by first | exact e.frames |(simpa[Around.under,Code.envs,Code.isFrame,pushEnvs] using e.frames),e.mod,e.bs,e.bsz,e.aRz,e.frf,e.hok,e.bare⟩
section
variable {X:Cx}{pins:List (Addr×Obj)}{σ:St}{H:Hp}{s s':Qf}
theorem Inv.env0 (I:Inv X pins σ H s):bGd X.prog X.w X.K X.mg X.base X.A X.stack s H:=
 ⟨I.ok.frames,I.ok.mod,I.bs,Zi I.ok.bsz I.sz,I.stack,I.aI7,I.hok,I.bare⟩
theorem Inv.after {Q:VK}{u:Qd}(I:Inv X pins σ H s)(h:CE X.stack X.prog X.w H s Q u s'):EP X pins σ Q u s':=by
 obtain⟨v,H',os,bare,un,hok,r,q⟩:=h;obtain⟨hh,g,d,t,os'⟩:=s';obtain rfl:os'=s.os:=os;exact⟨v,H',I.call (h':=hh) (g':=g) (d':=d) (t':=t) (ch:=[]) un hok bare (fun b z=>absurd z (by simp)),r,q⟩
end
def Binds (K:Qb)(fd:Z5)(ps:List Str)(ds:List Qd):Prop:=
 ∀(s:Qf) (us:List Qd),K.In s.heap->(us++ds).length=ps.length->BindsTo s fd ⟨us,[]⟩ (ps.zip (us++ds))
theorem Binds.all {K:Qb}{fd:Z5}{ps:List Str}(h: ∀us:List Qd,us.length=ps.length->bindArgs fd ⟨us,[]⟩=pure (ps.zip us)):Binds K fd ps []:=fun s us _ hl=>by
 rw[Zl] at hl⊢;exact .of_eq (h us hl)
section
variable {X:Cx}{CX:CXT}{k:Nat}{f C:Addr}{fd:Z5}{ps:List Str}{sp:Sp}{dvs:List V}{ds:List Qd}{E:XK}{x m:Str}{p pos apos:Pos}{e o:Expr}{es:List Expr}{ta:TE}{t:TA}
structure Mk (K:Qb)(C f:Addr):Prop where
 makes:Wd K C=true
 init:Zo K (.ref C) "__init__"=some (some (.ref f))
 fn:Ut K (.ref f)=true
 kp:Jo K (.ref C)=true
end
structure aA5 (N P:List Str)(sc:Scope):Prop where
 kind:sc.kind= .function
 co:sc.isCoroutine=false
 gen:sc.isGenerator=false
 nd:N.Nodup
 pre:N.take P.length=P
 par: ∀x∈P,sc.names.lookup x=some .local\/sc.names.lookup x=some .cell
 bHw: ∀y∈sc.names,y.2≠ .free
theorem aQr {kindOf:Str->Option NameKind}{x:Str}: ∀{binds:List (Str×Qd)} {m:Str->Option Qd},(∀v,(x,v)∉binds)->bindL kindOf binds m x=m x
 | [],_,_=>rfl
 |(n,v)::r,m,h=>by
  unfold bindL;rw[aQr fun w hw=>h w (Qw _ hw)];split
  ·have:x≠n:=by rintro rfl;exact h v Qt
   simp[this]
  ·rfl
theorem aQt {kindOf:Str->Option NameKind}{x:Str}: ∀{binds:List (Str×Qd)} {m:Str->Option Qd},(∀v,(x,v)∉binds)->bindC kindOf binds m x=m x
 | [],_,_=>rfl
 |(n,v)::r,m,h=>by
  unfold bindC;rw[aQt fun w hw=>h w (Qw _ hw)];split
  ·rfl
  ·have:x≠n:=by rintro rfl;exact h v Qt
   simp[this]
theorem aQs {kindOf:Str->Option NameKind}{x:Str}{v:Qd}: ∀{P:List Str} {vs:List Qd} {i:Nat} {m:Str->Option Qd},P.Nodup->P[i]? =some x->vs[i]? =some v->kindOf x=some .local->
  bindL kindOf (P.zip vs) m x=some v
 | [],_,_,_,_,h,_,_=>by simp at h
 | _::_,[],_,_,_,_,h,_=>by simp at h
 | p::P,w::vs,0,m,nd,h1,h2,hk=>by
  simp at h1 h2;subst h1;subst h2;show bindL kindOf ((p,w)::P.zip vs) m p=_;unfold bindL;rw[aQr fun v hv=>(List.nodup_cons.mp nd).1 (Um hv).1,if_pos hk];simp
 | p::P,w::vs,i+1,m,nd,h1,h2,hk=>by
  show bindL kindOf ((p,w)::P.zip vs) m x=_;unfold bindL;exact aQs (i:=i) (List.nodup_cons.mp nd).2 (by simpa using h1) (by simpa using h2) hk
theorem aQu {kindOf:Str->Option NameKind}{x:Str}{v:Qd}: ∀{P:List Str} {vs:List Qd} {i:Nat} {m:Str->Option Qd},P.Nodup->P[i]? =some x->vs[i]? =some v->kindOf x≠some .local->
  bindC kindOf (P.zip vs) m x=some v
 | [],_,_,_,_,h,_,_=>by simp at h
 | _::_,[],_,_,_,_,h,_=>by simp at h
 | p::P,w::vs,0,m,nd,h1,h2,hk=>by
  simp at h1 h2;subst h1;subst h2;show bindC kindOf ((p,w)::P.zip vs) m p=_;unfold bindC;rw[aQt fun v hv=>(List.nodup_cons.mp nd).1 (Um hv).1,if_neg hk];simp
 | p::P,w::vs,i+1,m,nd,h1,h2,hk=>by
  show bindC kindOf ((p,w)::P.zip vs) m x=_;unfold bindC;exact aQu (i:=i) (List.nodup_cons.mp nd).2 (by simpa using h1) (by simpa using h2) hk
def start (N:List Str)(vs:List V):St:=vs.map some++Q8 (N.length-vs.length) none
def bFx (CX:CXT)(P:Qr)(w:Q2)(K:Qb)(mg:Str->Option Qd)(base:Heap)(N:List Str)(qual:Str)(scope:Scope)(f:Addr)(cd:Qd)(A:Za)(outer:List Env)(s:Qf)(H:Hp)(E:XK):Cx where
 prog:=P
 w:=w
 K:=K
 mg:=mg
 base:=base
 A:=A.deeper (envOfC qual scope s.heap.objs.size f cd)
 N:=N
 s₀:=s
 H₀:=H
 env:=envOfC qual scope s.heap.objs.size f cd
 outer:=outer
 stack:=envOfC qual scope s.heap.objs.size f cd::outer
 ex:=[]
 calm:=true
 fn:=fun _=>true
 pn:=[]
 xe:=fun e s'=>Qm (Ql P w) (A.deeper (envOfC qual scope s.heap.objs.size f cd)) (leaving (envOfC qual scope s.heap.objs.size f cd) e) (fun _ s''=>CX outer H s E e s'') (fun e' s''=>CX outer H s E e' s'') s'
theorem aTt {sc:Scope}{n:Nat}{x:Str}(h:sc.names.lookup x=some .cell): ∃c,(cellsFrom n sc.names []).lookup x=some c:=by
 have q:=Uv sc.names n [] (.inl h);exact Option.isSome_iff_exists.mp q
theorem aYe {CX:CXT}{P:Qr}{w:Q2}{K:Qb}{mg:Str->Option Qd}{base:Heap}{N ps:List Str}{qual:Str}{scope:Scope}{f:Addr}{cd:Qd}{A:Za}{outer:List Env}{s s1:Qf}{H:Hp}{E:XK}{us:List Qd}{vs:List V}
  (S:aA5 N ps scope) (hd:A.handled=none) (e0:bGd P w K mg base A outer s H) (hl:vs.length=ps.length) (r:Vals vs us)
  (x:InCallC s s.heap.objs.size (bindL (envOfC qual scope s.heap.objs.size f cd).kindOf (ps.zip us) fun _=>none) (cellsFrom (s.heap.objs.size+1) scope.names []) (bindC (envOfC qual scope s.heap.objs.size f cd).kindOf (ps.zip us) fun _=>none) s1):
  Inv (bFx CX P w K mg base N qual scope f cd A outer s H E) [] (start N vs) H s1:=by
 have hpl:ps.length<=N.length:=by have:=congrArg J3 S.pre;rw[Zu] at this;omega
 obtain⟨h1,tk,rfl,hk⟩:=x.done;have noA: ∀b:Addr,b∉(bFx CX P w K mg base N qual scope f cd A outer s H E).ex:=fun b z=>absurd (show b∈([]:List Addr) from z) (by simp)
 refine⟨⟨e0.mod,S.kind,rfl,rfl,Qn _,fun y z c h1 h2=> ?_,fun y hy=> ?_,fun y c _ h=> ?_,fun _=>hd,Around.frames_deeper e0.frames,.inr ⟨rfl,rfl⟩,fun b z=>absurd z (noA b),e0.bs,e0.bsz,fun b _ _=>noA b,fun b z=>absurd z (noA b),e0.aRz,e0.frf⟩,
  rfl,e0.bare,Un.kept hk,⟨_,x.toInCall.ns,fun i y v h1 h2 h3=> ?_⟩,fun y c h=>⟨_,x.cell y c h⟩,e0.hok.fresh (Qn _),fun y c h=> ?_,fun p hp=>absurd (show p∈([]:List (Addr×Obj)) from hp) (by simp),e0.hok.kept hk,?_⟩
 ·exact name_of_addr x.apart (Y8 h1) (Y8 h2)
 ·have hy:scope.names.lookup y=some .cell\/scope.names.lookup y=some .free:=hy
  rcases hy with hy | hy
  ·exact aTt hy
  ·exact absurd rfl (S.bHw _ (Y8 hy))
 ·exact J0 (x.above y c (Y8 h))
 ·have hi:i<vs.length:=by
   unfold start at h2;by_cases hi:i<vs.length
   ·exact hi
   ·rw[Yj (by simpa using hi)] at h2
    rw[Z9] at h2;split at h2<;>cases h2
  have ha:vs[i]? =some v:=by
   unfold start at h2;rw[Z4 (by simpa using hi),Zp] at h2;cases e:vs[i]? with
   | none=>rw[e] at h2;cases h2
   | some a=>rw[e] at h2;cases h2;rfl
  obtain⟨u,hu,rv⟩:=r.get ha;have hp:ps[i]? =some y:=by
   rw[<-S.pre,List.getElem?_take_of_lt (by omega)];exact h1
  have ndP:ps.Nodup:=by rw[<-S.pre];exact S.nd.sublist (List.take_sublist _ _)
  refine⟨u,rv,?_⟩;rcases S.par y (U9 hp) with k | k
  ·exact .inl ⟨k,aQs ndP hp hu k⟩
  ·obtain⟨c,e⟩:=aTt (n:=s.heap.objs.size+1) k
   refine .inr ⟨.inl k,c,e,?_⟩;have q:=x.cell y c e;rw[aQu ndP hp hu (by show scope.names.lookup y≠_;rw[k];decide)] at q;exact q
 ·exact e0.hok.fresh (J0 (x.above y c (Y8 h)))
 ·unfold start
  show _=N.length;rw[Qx,Qv,Yz];omega
theorem aR1 {CX:CXT}{P:Qr}{w:Q2}{K:Qb}{mg:Str->Option Qd}{base:Heap}{k:Nat}{f:Addr}{name qual:Str}{params:Arguments}{body:List Stmt}{scope:Scope}{dV kV doc pm cdv ct oc:Qd}{an od:Option Addr}
  {osl:Array (Option Qd)} {N ps:List Str} {sp:Sp} (lk:K.lookup f=some ⟨oc,od,.func (Jl name qual params body scope dV kV doc pm an cdv ct),osl⟩) (hcd:Ul K cdv qual=true) (S:aA5 N ps scope)
  (len: ∀vs H Q E,sp vs H Q E->vs.length=ps.length)
  (hbody: ∀(A:Za) (outer:List Env) (s:Qf) (H:Hp) (vs:List V) (Q:VK) (E:XK),aEx k (A.deeper (envOfC qual scope s.heap.objs.size f cdv))->sp vs H Q E->
   ∃t,PSs (bFx CX P w K mg base N qual scope f cdv A outer s H E) body t/\t {nx:=fun _ H'=>Q .non H',rt:=Q} (start N vs) H):
  aSh P w K mg base CX (k+1) f (Jl name qual params body scope dV kV doc pm an cdv ct) ps sp:=by
 refine⟨len,fun A outer s H args us vs Q E hr e0 hb r hsp=> ?_⟩;have hl:=len _ _ _ _ hsp;have KX:K.In s.heap:=e0.mod.kin.keeps fun b o e=>(e0.bs b o e).1
 have lim:s.heap.NoLimit:=e0.mod.nolimit.keeps fun b o e=>(e0.bs b o e).1
 have hkind: ∀y∈ps.zip us,scope.names.lookup y.1=some .local\/(scope.names.lookup y.1=some .cell/\((cellsFrom (s.heap.objs.size+1) scope.names []).lookup y.1).isSome=true):=fun⟨n,v⟩ hy=>by
  rcases S.par n (Um hy).1 with q | q
  ·exact .inl q
  ·exact .inr ⟨q,Uv _ _ _ (.inl q)⟩
 refine codeAny_call_function hr.depth (KX _ _ lk) rfl S.co S.gen rfl (PySem.W.codeRec_of KX hcd) (hb _ _ _ _ ?_);refine wpAny_newFunctionEnv_cells S.kind hkind fun env he s1 x=> ?_
 subst he;refine⟨lim.keeps x.toInCall.keep,codeAny_func ?_⟩;obtain⟨t,ht,hq⟩:=hbody A outer s H vs Q E (hr.deeper _) hsp;have I:Inv (bFx CX P w K mg base N qual scope f cdv A outer s H E) [] (start N vs) H s1:=aYe S hr.hd e0 hl r x;refine Ys (ht [] s1 (start N vs) H _ I hq) (fun fl s' hs=> ?_) fun e s' hs=>hs
 have fin: ∀{σ':St} {H':Hp} {v:V} {u:Qd},Inv (bFx CX P w K mg base N qual scope f cdv A outer s H E) [] σ' H' s'->RelV v u->Q v H'->CE outer P w H s Q u s':=
  fun {σ' H' v u} J rv q=>⟨v,H',J.os,J.bare,J.base,J.hok,rv,q⟩
 cases fl with
 | ret u=>
  obtain⟨v,σ',H',J,rv,q⟩:=hs;exact fin J rv q
 | next=>
  obtain⟨σ',H',J,q⟩:=hs;exact fin (v:=V.non) (u:=Value.none) J rfl q
 | brk=>
  obtain⟨_,_,_,q⟩:=hs;exact Qg q
 | cont=>
  obtain⟨_,_,_,q⟩:=hs;exact Qg q
section
variable {X:Cx}{x:Str}{p pos:Pos}{e:Expr}{es:List Expr}{t:TA}{id T:String}{r:List V->Hp->VK->Prop}
def tCB (r:List V->Hp->VK->Prop)(t:TA):TE:=fun σ H Q=>t σ H fun vs H1=>r vs H1 Q
theorem aGa (hc:aHp X (.builtin id) r)(hg:Gl X x)(hm:X.mg x=none)(hv:Yq x=some (.builtin id))(ha:PA X (e::es) t)(hn:x≠"__name__":=by decide)(hdb:(x==("__debug__":Str))=false:=by decide)
  (he:Qz (e::es) X.env=(false,eval e X.env)::Qz es X.env:=by rfl) (hpl:(backTo pos (Qz es X.env)).any (·.1)=false:=by rfl):PE X (.Call (.Name x p) (e::es) [] pos) (tCB r t):=by
 intro pins s σ H Q I h;refine Y1 (aTd I hg hm hv ?_ hn hdb);exact PyProof.Rows.callWith_builtin1 (thn (ha pos pins s σ H _ I h) fun us s1 ⟨vs,H1,I1,r1,q1⟩=>hc pins s1 σ H1 vs us Q I1 r1 q1) he hpl
theorem aPu (hc:aHp X (.type T) r)(hg:Gl X x)(hm:X.mg x=none)(hv:Yq x=some (.type T))(ha:PA X (e::es) t)(hn:x≠"__name__":=by decide)(hdb:(x==("__debug__":Str))=false:=by decide)
  (he:Qz (e::es) X.env=(false,eval e X.env)::Qz es X.env:=by rfl) (hpl:(backTo pos (Qz es X.env)).any (·.1)=false:=by rfl):PE X (.Call (.Name x p) (e::es) [] pos) (tCB r t):=by
 intro pins s σ H Q I h;refine Y1 (aTd I hg hm hv ?_ hn hdb);exact J8 (thn (ha pos pins s σ H _ I h) fun us s1 ⟨vs,H1,I1,r1,q1⟩=>hc pins s1 σ H1 vs us Q I1 r1 q1) he hpl
end
end L2
namespace HT
open PySem PyProof.Rows
section
variable {prog:Qr}{w:Q2}{A:Za}{E:Qd->Qf->Prop}{s:Qf}
theorem bF0 {t b:Addr}{vs ws:List Qd}{Q:Qd->Qf->Prop}(ht:IsTup s.heap t vs.toArray)(hb:IsTup s.heap b ws.toArray)(hv:vs≠[])
  (h1:ws=[]->Q (.ref t) s) (h2:ws≠[]->Q (.ref s.heap.objs.size) {s with heap:=s.heap.push {cls:= .type "tuple",data:= .seq (vs++ws).toArray}})
  (hsz:vs.length+ws.length<=Qq):Qm (Ql prog w) A (binaryOp .Add (.ref t) (.ref b)) Q E s:=by
 obtain⟨⟨cls,dd,data,sl⟩,ho,hc,n,hd⟩:=id ht;obtain⟨⟨cls2,dd2,data2,sl2⟩,ho2,hc2,n2,hd2⟩:=id hb;simp only at hc hd hc2 hd2;subst hc hd hc2 hd2;have e:vs.toArray++ws.toArray=(vs++ws).toArray:=by simp
 by_cases hw:ws=[]
 ·exact concat_meets ⟨_,ho,rfl⟩ ⟨_,ho2,rfl⟩ noFill_tuple_add seq_tuple_add Jw Jt (Jq _ _)
   (tuple_addW1 t b vs.toArray ws.toArray n n2 dd dd2 sl sl2 (by simpa using hv) (by simp[hw])) ⟨ho,ho2,h1 hw⟩
 ·refine concat_meets ⟨_,ho,rfl⟩ ⟨_,ho2,rfl⟩ noFill_tuple_add seq_tuple_add Jw Jt (Jq _ _)
   (tuple_addW2 t b vs.toArray ws.toArray n n2 dd dd2 sl sl2 (by simpa using hv) (by simpa using hw) (by rw[Qo,Qo];exact hsz)) ⟨ho,ho2,?_⟩
  rw[e];exact h2 hw
def sIx (n d:Nat):Option Int->Nat
 | none=>d
 | some v=>if v<0 then (v+(n:Int)).toNat else min v.toNat n
theorem aWr (n d:Nat)(hd:d<=n)(o:Option Int):sIx n d o<=n:=by
 cases o with
 | none=>exact hd
 | some v=>
  show (if v<0 then (v+(n:Int)).toNat else min v.toNat n)<=n;by_cases hv:v<0
  ·rw[if_pos hv];omega
  ·rw[if_neg hv];exact Nat.min_le_right _ _
theorem aY1 (v:Int)(n d:Nat):(if v<0 then max (v+(n:Int)) 0 else min v (n:Int))=((sIx n d (some v):Nat):Int):=by
 show (if v<0 then max (v+(n:Int)) 0 else min v (n:Int))=(((if v<0 then (v+(n:Int)).toNat else min v.toNat n):Nat):Int);by_cases hv:v<0
 ·simp only[if_pos hv];omega
 ·simp only[if_neg hv];omega
theorem aVa (lo hi:Option Int)(n:Nat):Builtin.Slice.sliceAdjust lo hi 1 (n:Int)=(((sIx n 0 lo:Nat):Int),((sIx n n hi:Nat):Int)):=by
 have h1:¬((1:Int)<0):=by omega
 unfold Builtin.Slice.sliceAdjust;simp only[h1,if_false];refine Prod.ext ?_ ?_
 ·cases lo with
  | none=>rfl
  | some v=>exact aY1 v n 0
 ·cases hi with
  | none=>rfl
  | some v=>exact aY1 v n n
theorem aUh (i j:Nat):Yy (i:Int) (j:Int) 1=j-i:=by
 unfold Yy;have h1:(1:Int)>0:=by omega
 simp only[h1,if_true,Int.ediv_one];split<;>omega
theorem aNh {v:Qd}{o:Option Int}{Q:Option Int->Qf->Prop}(p:IsPart v o)(h:Q o s):Qm (Ql prog w) A (Builtin.Slice.slicePartIndex v) Q E s:=by
 cases p with
 | none=>exact slicePart_none h
 | int i t=>exact slicePart_int h
theorem aE6 {sl:Addr}{vl vu:Qd}{lo hi:Option Int}{n:Nat}{Q:Int×Int×Nat->Qf->Prop}(hs:s.heap.IsSliceOf sl vl vu .none)(pl:IsPart vl lo)(pu:IsPart vu hi)
  (h:Q (((sIx n 0 lo:Nat):Int),1,sIx n n hi-sIx n 0 lo) s):Qm (Ql prog w) A (Builtin.Slice.sliceApplied (.ref sl) (pure (n:Int))) Q E s:=by
 obtain⟨os,hos,hcs,hds⟩:=id hs;unfold Builtin.Slice.sliceApplied Builtin.Slice.sliceFields;refine Qc (Qc (wpAny_field hos hds (x:=vl) rfl (Qc (wpAny_field hos hds (x:=vu) rfl (Qc (wpAny_field hos hds (x:= .none) rfl (Qe ?_)))))));refine Qc (slicePart_none ?_);show Qm _ _ (if ((1:Int)==0)=true then _ else _) _ _ s;rw[if_neg (by decide)];refine Qc (aNh pl (Qc (aNh pu (Qc (Qe ?_)))));show Qm _ _ (match Builtin.Slice.sliceAdjust lo hi 1 (n:Int) with |(lo,hi)=>pure (lo,(1:Int),Yy lo hi 1)) _ _ s;rw[aVa lo hi n];show Qm _ _ (pure (((sIx n 0 lo:Nat):Int),(1:Int),Yy ((sIx n 0 lo:Nat):Int) ((sIx n n hi:Nat):Int) 1)) _ _ s;rw[aUh];exact Qe h
theorem bAr (xs:Array Qd)(i k:Nat):((Yb k).filterMap fun (m:Nat)=>xs[((i:Int)+(m:Int)*1).toNat]?).toArray=((xs.toList.drop i).take k).toArray:=by
 have e:(fun (m:Nat)=>xs[((i:Int)+(m:Int)*1).toNat]?)=fun m=>xs[i+m]? :=by
  funext m
  have:((i:Int)+(m:Int)*1).toNat=i+m:=by omega
  rw[this]
 rw[e];have:=pick_run xs i k;rw[List.filterMap_map] at this;have e2:((fun x=>xs[x]?)∘fun x=>i+x)=fun m=>xs[i+m]? :=rfl
 rw[e2] at this;rw[this]
theorem aJf {t sl:Addr}{items:Array Qd}{vl vu:Qd}{lo hi:Option Int}{Q:Qd->Qf->Prop}(ht:IsTup s.heap t items)(hs:s.heap.IsSliceOf sl vl vu .none)(pl:IsPart vl lo)(pu:IsPart vu hi)
  (hw:¬(sIx items.size 0 lo=0/\sIx items.size items.size hi=items.size))
  (h:Q (.ref s.heap.objs.size) {s with heap:=s.heap.push {cls:= .type "tuple",data:= .seq ((items.toList.drop (sIx items.size 0 lo)).take (sIx items.size items.size hi-sIx items.size 0 lo)).toArray}})
  (hsz:items.size<=Qq):Qm (Ql prog w) A (getItem (.ref t) (.ref sl)) Q E s:=by
 have bBn:sizeOk (.seq ((items.toList.drop (sIx items.size 0 lo)).take (sIx items.size items.size hi-sIx items.size 0 lo)).toArray):=by
  show ((items.toList.drop (sIx items.size 0 lo)).take (sIx items.size items.size hi-sIx items.size 0 lo)).toArray.size<=Qq;rw[Qo,Zu,Jx,Zj];omega
 have hj:sIx items.size items.size hi<=items.size:=aWr _ _ (Qn _) hi;obtain⟨os,hos,hcs,hds⟩:=id hs;have hTs:s.TypeIs (.ref sl) "slice":=⟨os,hos,hcs⟩;unfold getItem
 try with_reducible refine Z8 ?_
 first | refine Qc (Qe ?_) | skip
 refine Qc (wpAny_sequenceKey ht.typeIs (by decide) ?_);refine Qc (Ye (name:=Yh "__getitem__") ht.typeIs Yk
  (Zn Yk ht.typeIs entry_tuple_getitem ?_ (args_tuple_getitem _ _)))
 show Qm _ _ (Builtin.Tuple.tupleItemsOf (.ref t)>>=_) _ _ s;refine Qc (tupleItemsOf_ ht ?_);refine Qc (wpAny_typeOf hTs ?_);rw[if_pos (by decide)];refine Qc (aE6 hs pl pu ?_);have hno:¬((((sIx items.size 0 lo:Nat):Int)==0&&(1:Int)==1&&(sIx items.size items.size hi-sIx items.size 0 lo)==items.size)=true):=by
  intro q;rw[Q6,Q6] at q;have q1:((sIx items.size 0 lo:Nat):Int)=0:=eq_of_beq q.1.1;have q2:sIx items.size items.size hi-sIx items.size 0 lo=items.size:=eq_of_beq q.2;exact hw ⟨by omega,by omega⟩
 show Qm _ _ (if (((sIx items.size 0 lo:Nat):Int)==0&&(1:Int)==1&&(sIx items.size items.size hi-sIx items.size 0 lo)==items.size)=true then _ else _) _ _ s;rw[if_neg hno,bAr]
 first
  | exact Qc (m:=Builtin.Tuple.tupleExact _) (Yd (Qe ⟨_,rfl,Qe h⟩) bBn)
  | exact Qc (m:=Builtin.Tuple.tupleExact _) (Yd (Qc (Qe (Qe ⟨_,rfl,Qe h⟩))) bBn)
  | exact Qc (Qc (m:=Builtin.Tuple.tupleExact _) (Yd (Qe (Qe ⟨_,rfl,Qe h⟩)) bBn))
  | exact Qc (Qc (m:=Builtin.Tuple.tupleExact _) (Yd (Qe ⟨_,rfl,Qe h⟩) bBn))
end
end HT
namespace L2
open PySem PySem.Spec PyProof.Rows
abbrev TO:=St->Hp->(Option Int->Hp->Prop)->Prop
def PO (X:Cx)(e:Option Expr)(t:TO):Prop:=
 ∀(pins:List (Addr×Obj)) (s:Qf) (σ:St) (H:Hp) (Q:Option Int->Hp->Prop),Inv X pins σ H s->t σ H Q->
  Qm (Ql X.prog X.w) X.A (evalPart e X.env) (fun u s'=> ∃o H',Inv X pins σ H' s'/\IsPart u o/\Q o H') X.xe s
def bDn:TO:=fun _ H Q=>Q none H
def bJp (t:TE):TO:=fun σ H Q=>t σ H fun x H1=> ∃i,x= .int i/\Q (some i) H1
section
variable {X:Cx}{e:Expr}{te:TE}{lo hi:Option Expr}{tl th:TO}{pos p2:Pos}
theorem bD5:PO X none bDn:=by
 intro pins s σ H Q I h;rw[evalPart_none];exact Qe ⟨none,H,I,.none,h⟩
theorem bD4 (h:PE X e te):PO X (some e) (bJp te):=by
 intro pins s σ H Q I hw;rw[evalPart_some];refine thn (h pins s σ H _ I hw) fun u s1 ⟨x,H1,I1,r1,q1⟩=> ?_
 obtain⟨i,rfl,q⟩:=q1;obtain⟨t,rfl⟩:=r1;exact⟨some i,H1,I1,.int i t,q⟩
def SlR (X:Cx)(r:V->Option Int->Option Int->Hp->VK->Prop):Prop:=
 ∀(pins:List (Addr×Obj)) (s:Qf) (σ:St) (H:Hp) (x:V) (v vl vu:Qd) (lo hi:Option Int) (sl:Addr) (Q:VK),Inv X pins σ H s->RelV x v->s.heap.IsSliceOf sl vl vu .none->IsPart vl lo->IsPart vu hi->r x lo hi H Q->
  ∃T id,typeLookup (.type T) "__getitem__"=pure (some (.builtin id))/\s.TypeIs v T/\Qm (Ql X.prog X.w) X.A (getItem v (.ref sl)) (EP X pins σ Q) X.xe s
theorem SlR.or {r r':V->Option Int->Option Int->Hp->VK->Prop}(h:SlR X r)(h':SlR X r'):SlR X (fun x lo hi H Q=>r x lo hi H Q\/r' x lo hi H Q):=by
 intro pins s σ H x v vl vu lo hi sl Q I rx hs pl pu q;rcases q with q | q
 ·exact h pins s σ H x v vl vu lo hi sl Q I rx hs pl pu q
 ·exact h' pins s σ H x v vl vu lo hi sl Q I rx hs pl pu q
def tSl (r:V->Option Int->Option Int->Hp->VK->Prop)(te:TE)(tl th:TO):TE:=fun σ H Q=>te σ H fun x H1=>tl σ H1 fun l H2=>th σ H2 fun u H3=>r x l u H3 Q
theorem bAs {r:V->Option Int->Option Int->Hp->VK->Prop}(hr:SlR X r)(he:PE X e te)(hl:PO X lo tl)(hu:PO X hi th):PE X (.Subscript e (.Slice lo hi none p2) pos) (tSl r te tl th):=by
 intro pins s σ H Q I h;refine Subscript_ (thn (he pins s σ H _ I h) fun v s1 ⟨x,H1,I1,r1,q1⟩=> ?_);refine wpAny_Slice (thn (hl pins s1 σ H1 _ I1 q1) fun vl s2 ⟨l,H2,I2,pl,q2⟩=>thn (hu pins s2 σ H2 _ I2 q2) fun vu s3 ⟨u,H3,I3,pu,q3⟩=> ?_);rw[evalPart_none];refine Qe ?_;have I4:Inv X pins σ H3 {s3 with heap:=s3.heap.push {cls:= .type "slice",data:= .fields #[vl,vu,.none]}}:=I3.kept (t':=s3.toks) fun b ob q=>Qh _ q
 obtain⟨T,id,hT,ht,hg⟩:=hr pins {s3 with heap:=s3.heap.push {cls:= .type "slice",data:= .fields #[vl,vu,.none]}} σ H3 x v vl vu l u s3.heap.objs.size Q I4 r1 (Heap.IsSliceOf.new ..) pl pu q3;show Qm (Ql X.prog X.w) X.A (subscriptTail e (.Slice lo hi none p2) v (.ref s3.heap.objs.size)) (EP X pins σ Q) X.xe {s3 with heap:=s3.heap.push {cls:= .type "slice",data:= .fields #[vl,vu,.none]}};exact tail_any (ops:=[.ref s3.heap.objs.size,v]) ht hT hg (by with_unfolding_all rfl)
def bDd (xs:List V)(lo hi:Option Int):List V:=(xs.drop (HT.sIx xs.length 0 lo)).take (HT.sIx xs.length xs.length hi-HT.sIx xs.length 0 lo)
theorem aMd (xs:List V)(lo hi:Option Int):(bDd xs lo hi).length<=xs.length:=by
 unfold bDd;rw[Zu,Jx];omega
def bMv (K:Qb):V->Option Int->Option Int->Hp->VK->Prop:=fun x lo hi H Q=> ∃a xs,x= .ref a/\SqT K H a xs/\
 ¬(HT.sIx xs.length 0 lo=0/\HT.sIx xs.length xs.length hi=xs.length)/\∀p,H p=none->Q (.ref p) (upd H p (.tup (bDd xs lo hi)))
theorem bGt:SlR X (bMv X.K):=by
 intro pins s σ H x v vl vu lo hi sl Q I rx hs pl pu h;obtain⟨a,xs,rfl,hx,hw,q⟩:=h;cases rx;obtain⟨its,r,ht,hz⟩:=I.tuple hx;have hlen:its.toArray.size=xs.length:=by rw[Qo];exact r.length.symm
 refine⟨"tuple",_,PyProof.Rows.slot_tuple_getitem.lookup,ht.typeIs,?_⟩;refine HT.aJf ht hs pl pu (by rw[hlen];exact hw) ?_ (by rw[hlen];exact hz);rw[hlen];refine⟨.ref s.heap.objs.size,_,I.laid (t':=s.toks) (o:= .tup (bDd xs lo hi)) (fun b ob q=>Qh _ q) (Qn _) ?_,rfl,q _ (I.hok.fresh (Qn _))⟩;exact⟨Zi (aMd xs lo hi) hz,_,(r.drop (HT.sIx xs.length 0 lo)).take (HT.sIx xs.length xs.length hi-HT.sIx xs.length 0 lo),aZy.new _ _⟩
def bG2 (K:Qb):R2:=fun x y H Q=> ∃a b xs ys,x= .ref a/\y= .ref b/\SqT K H a xs/\SqT K H b ys/\xs≠[]/\xs.length+ys.length<=Qq/\
 (ys=[]->Q (.ref a) H)/\(ys≠[]->∀p,H p=none->Q (.ref p) (upd H p (.tup (xs++ys))))
theorem Vals.aOo {xs:List V}{us:List Qd}(r:Vals xs us):us=[]↔xs=[]:=by
 cases r with
 | nil=>simp
 | cons _ _=>simp
theorem bEo:OpR X (binaryOp .Add) (bG2 X.K):=by
 intro pins s σ H x y v u Q I rx ry h;obtain⟨a,b,xs,ys,rfl,rfl,ha,hb,hx,hz,q1,q2⟩:=h;cases rx;cases ry;obtain⟨its,r1,p1,_⟩:=I.tuple ha;obtain⟨its2,r2,p2,_⟩:=I.tuple hb;refine HT.bF0 p1 p2 (fun z=>hx (r1.aOo.mp z)) (fun z=>⟨.ref a,H,I,rfl,q1 (r2.aOo.mp z)⟩) (fun z=> ?_) (by rw[<-r1.length,<-r2.length];exact hz);refine⟨.ref s.heap.objs.size,_,I.laid (t':=s.toks) (o:= .tup (xs++ys)) (fun b ob q=>Qh _ q) (Qn _) ?_,rfl,q2 (fun w=>z (r2.aOo.mpr w)) _ (I.hok.fresh (Qn _))⟩;exact⟨by rw[Qx];exact hz,_,r1.append r2,aZy.new _ _⟩
end
def ixN (n:Nat)(i:Int):Option Nat:=if 0<=i then (if i<n then some i.toNat else none) else if-(n:Int)<=i then some (i+n).toNat else none
def atI {α:Type}(xs:List α)(i:Int):Option α:=(ixN xs.length i).bind fun j=>xs[j]?
theorem bFc {n:Nat}{i:Int}{j:Nat}(h:ixN n i=some j):seqIndex? i n=some j/\j<n/\ -(n:Int)<=i/\i<n:=by
 unfold ixN at h;by_cases h0:0<=i
 ·rw[if_pos h0] at h
  by_cases h1:i<n
  ·rw[if_pos h1] at h
   have e:i.toNat=j:=Option.some.inj h;exact⟨by rw[seqIndex_of h0 h1,e],by omega,by omega,h1⟩
  ·rw[if_neg h1] at h;cases h
 ·rw[if_neg h0] at h
  by_cases h1: -(n:Int)<=i
  ·rw[if_pos h1] at h
   have e:(i+n).toNat=j:=Option.some.inj h;exact⟨by rw[seqIndex_neg (by omega) h1,e],by omega,h1,by omega⟩
  ·rw[if_neg h1] at h;cases h
theorem aSc {α:Type}{xs:List α}{i:Int}{v:α}(h:atI xs i=some v): ∃j,seqIndex? i xs.length=some j/\xs[j]? =some v/\j<xs.length/\ -(xs.length:Int)<=i/\i<xs.length:=by
 unfold atI at h;cases e:ixN xs.length i with
 | none=>rw[e] at h;cases h
 | some j=>
  rw[e] at h;obtain⟨h1,h2,h3,h4⟩:=bFc e;exact⟨j,h1,h,h2,h3,h4⟩
theorem aSb {α:Type}{xs:List α}{j:Nat}{v:α}(h:xs[j]? =some v):atI xs (j:Int)=some v:=by
 have hj:j<xs.length:=(List.getElem?_eq_some_iff.mp h).1;have e:ixN xs.length (j:Int)=some j:=by
  unfold ixN;rw[if_pos (by omega),if_pos (by omega)];simp
 unfold atI;rw[e];exact h
def aZc (b:Expr):Prop:= ∀o i,subscripted b false o i=operate [o,i] (getItem o i)
def IxR (X:Cx)(r:R2):Prop:=
 ∀(value slice:Expr) (pins:List (Addr×Obj)) (s:Qf) (σ:St) (H:Hp) (x y:V) (v u:Qd) (Q:VK),Inv X pins σ H s->RelV x v->RelV y u->r x y H Q->
  subscripted slice false v u=operate [v,u] (getItem v u)->Qm (Ql X.prog X.w) X.A (subscriptTail value slice v u) (EP X pins σ Q) X.xe s
def MtR (X:Cx)(id:String)(r:V->List V->Hp->VK->Prop):Prop:=
 ∀(pins:List (Addr×Obj)) (s:Qf) (σ:St) (H:Hp) (x:V) (xs:List V) (v:Qd) (us:List Qd) (Q:VK),Inv X pins σ H s->RelV x v->Vals xs us->r x xs H Q->
  Qm (Ql X.prog X.w) X.A (call (.builtin id) (v::us)) (EP X pins σ Q) X.xe s
section
variable {X:Cx}{a b:Expr}{ta tb:TE}{pos:Pos}
theorem IxR.or {r r':R2}(h:IxR X r)(h':IxR X r'):IxR X (fun x y H Q=>r x y H Q\/r' x y H Q):=by
 intro value slice pins s σ H x y v u Q I rx ry q hs;rcases q with q | q
 ·exact h value slice pins s σ H x y v u Q I rx ry q hs
 ·exact h' value slice pins s σ H x y v u Q I rx ry q hs
theorem bKi {r:R2}(hr:IxR X r)(ha:PE X a ta)(hb:PE X b tb)(hs:aZc b):PE X (.Subscript a b pos) (tOp r ta tb):=by
 intro pins s σ H Q I h;exact Subscript_ (bLi ha hb I h fun v u s2 x y H2 I2 rx ry q=>hr a b pins s2 σ H2 x y v u Q I2 rx ry q (hs _ _))
def bLw (K:Qb):R2:=fun x y H Q=> ∃p xs i v,x= .ref p/\y= .int i/\SqL K H p xs/\atI xs i=some v/\Q v H
def bLu (K:Qb):R2:=fun x y H Q=> ∃p xs i v,x= .ref p/\y= .int i/\SqT K H p xs/\atI xs i=some v/\Q v H
def bLv:R2:=fun x y H Q=> ∃z i c,x= .str z/\y= .int i/\z.length<=Qq/\atI z.cps.toList i=some c/\Q (.str ⟨#[c]⟩) H
theorem bFb:IxR X (bLw X.K):=by
 intro value slice pins s σ H x y v u Q I rx ry h hs;obtain⟨p,xs,i,z,rfl,rfl,hq,he,q⟩:=h;cases rx;obtain⟨t,rfl⟩:=ry;obtain⟨its,r,pl,hz⟩:=I.list hq;obtain⟨j,h1,h2,h3,h4,h5⟩:=aSc he;obtain⟨w,ew,rw'⟩:=r.get h2;have hl:=r.length;have hn:=aP2;have fin:EP X pins σ Q w s:=⟨z,H,I,rw',q⟩;by_cases h0:0<=i
 ·have hj:i.toNat=j:=by
   rw[seqIndex_of h0 h5] at h1;exact Option.some.inj h1
  exact item_listR pl.isList h0 (by omega) (by rw[hj];simpa using ew) fin hs
 ·have hj:(i+(its.toArray.size:Int)).toNat=j:=by
   rw[seqIndex_neg (by omega) h4] at h1;rw[Qo,<-hl];exact Option.some.inj h1
  exact subscriptTail_builtinR (x:=w) pl.isList.typeIs slot_list_getitem.lookup
   (wpAny_getItem_list_neg (Q:=fun r s'=>r=w/\EP X pins σ Q r s') pl.isList (by omega) (by rw[Qo]<;>omega) (by omega) (by rw[hj];simpa using ew) ⟨rfl,fin⟩) hs
theorem aX5:IxR X (bLu X.K):=by
 intro value slice pins s σ H x y v u Q I rx ry h hs;obtain⟨p,xs,i,z,rfl,rfl,hq,he,q⟩:=h;cases rx;obtain⟨t,rfl⟩:=ry;obtain⟨its,r,pl,hz⟩:=I.tuple hq;obtain⟨j,h1,h2,h3,h4,h5⟩:=aSc he;obtain⟨w,ew,rw'⟩:=r.get h2;have hl:=r.length;have hn:=aP2;have fin:EP X pins σ Q w s:=⟨z,H,I,rw',q⟩;exact subscriptTail_builtinR (x:=w) pl.typeIs slot_tuple_getitem.lookup
  (getItem_tuple (j:=j) (Q:=fun r s'=>r=w/\EP X pins σ Q r s') pl (by omega) (by omega) (by rw[Qo,<-hl];exact h1) (by simpa using ew) ⟨rfl,fin⟩) hs
theorem bIe:IxR X bLv:=by
 intro value slice pins s σ H x y v u Q I rx ry h hs;obtain⟨z,i,c,rfl,rfl,hz,he,q⟩:=h;obtain⟨t,rfl⟩:=rx;obtain⟨t',rfl⟩:=ry;obtain⟨j,h1,h2,h3,h4,h5⟩:=aSc he;have hl:z.cps.toList.length=z.length:=by simp[Str.length]
 rw[hl] at h1 h4 h5;have hn:=aP2;exact tail_any (typeIs_str s z t) slot_str_getitem.lookup (getItem_str (c:=c) (by
  have e1:decide (i< -(2^63:Int))=false:=decide_eq_false (by omega);have e2:decide (i≥2^63)=false:=decide_eq_false (by omega);rw[e1,e2,Bool.or_false]) (by rw[h1];simpa using h2) ⟨.str ⟨#[c]⟩,H,I.tok _,⟨_,rfl⟩,q⟩) hs
def rIx (K:Qb):R2:=fun x y H Q=>bLw K x y H Q\/bLu K x y H Q\/bLv x y H Q
theorem bIf:IxR X (rIx X.K):=bFb.or (aX5.or bIe)
theorem aPl (lo hi:Option Int)(n:Nat):(sliceBounds lo hi none n).1=((HT.sIx n 0 lo:Nat):Int)/\(sliceBounds lo hi none n).2.1=((HT.sIx n n hi:Nat):Int)/\(sliceBounds lo hi none n).2.2=1:=by
 refine⟨?_,?_,rfl⟩
 ·cases lo with
  | none=>simp[sliceBounds,HT.sIx]
  | some i=>
   simp only[sliceBounds,HT.sIx,Jv,show (1:Int)>0 by decide,if_true];by_cases h:i<0
   ·simp only[h,if_true]<;>omega
   ·simp only[h,if_false]<;>omega
 ·cases hi with
  | none=>simp[sliceBounds,HT.sIx]
  | some i=>
   simp only[sliceBounds,HT.sIx,Jv,show (1:Int)>0 by decide,if_true];by_cases h:i<0
   ·simp only[h,if_true]<;>omega
   ·simp only[h,if_false]<;>omega
theorem aN8 (its:List Qd)(lo hi:Option Int):slicePick its.toArray lo hi none=((its.drop (HT.sIx its.length 0 lo)).take (HT.sIx its.length its.length hi-HT.sIx its.length 0 lo)).toArray:=by
 obtain⟨h1,h2,h3⟩:=aPl lo hi its.toArray.size;unfold slicePick;rw[h1,h2,h3];simp only[sliceRange_one,pick_run,Qo]<;>rfl
def bMx (K:Qb):V->Option Int->Option Int->Hp->VK->Prop:=fun x lo hi H Q=> ∃a xs,x= .ref a/\SqL K H a xs/\∀p,H p=none->Q (.ref p) (upd H p (.lst (bDd xs lo hi)))
theorem bDs:SlR X (bMx X.K):=by
 intro pins s σ H x v vl vu lo hi sl Q I rx hs pl pu h;obtain⟨a,xs,rfl,hx,q⟩:=h;cases rx;obtain⟨its,r,ht,hz⟩:=I.list hx;have hlen:=r.length;refine⟨"list",_,slot_list_getitem.lookup,ht.isList.typeIs,?_⟩;refine wpAny_getItem_list_slice ht.isList hs pl pu .none (by simp) ?_ (by rw[Qo]<;>omega);rw[aN8,<-hlen];refine⟨.ref s.heap.objs.size,_,I.laid (t':=s.toks) (o:= .lst (bDd xs lo hi)) (fun b ob q=>Qh _ q) (Qn _) ?_,rfl,q _ (I.hok.fresh (Qn _))⟩;exact⟨Zi (aMd xs lo hi) hz,_,0,(r.drop (HT.sIx xs.length 0 lo)).take (HT.sIx xs.length xs.length hi-HT.sIx xs.length 0 lo),Qs _ rfl⟩
def aNb:V->Bool
 | .non=>true
 | .bl _=>true
 | .int _=>true
 | .str _=>true
 | _=>false
def eqV:V->V->Bool
 | .non,.non=>true
 | .bl a,.bl b=>a==b
 | .bl a,.int b=>(if a then 1 else 0)==b
 | .int a,.bl b=>a==(if b then 1 else 0)
 | .int a,.int b=>a==b
 | .str a,.str b=>a==b
 | _,_=>false
theorem bIw {A:Za}{s:Qf}{y x:V}{u v:Qd}(ry:RelV y u)(rx:RelV x v)(fy:aNb y=true)(fx:aNb x=true):SeqAt.EqAt A s u v (eqV y x):=by
 cases y with
 | non=>
  cases ry;cases x with
  | non=>cases rx;exact SeqAt.EqAt.same _
  | bl b=>cases rx;exact SeqAt.EqAt.none_bool b
  | int b=>obtain⟨t,rfl⟩:=rx;exact SeqAt.EqAt.none_int b t
  | str b=>obtain⟨t,rfl⟩:=rx;exact SeqAt.EqAt.none_str b t
  | _=>exact absurd (show false=true from fx) Qu
 | bl a=>
  cases ry;cases x with
  | non=>cases rx;exact SeqAt.EqAt.bool_none a
  | bl b=>cases rx;exact SeqAt.EqAt.bool_bool a b
  | int b=>obtain⟨t,rfl⟩:=rx;exact SeqAt.EqAt.bool_int a b t
  | str b=>obtain⟨t,rfl⟩:=rx;exact SeqAt.EqAt.bool_str a b t
  | _=>exact absurd (show false=true from fx) Qu
 | int a=>
  obtain⟨t',rfl⟩:=ry;cases x with
  | non=>cases rx;exact SeqAt.EqAt.int_none a t'
  | bl b=>cases rx;exact SeqAt.EqAt.int_bool a t' b
  | int b=>obtain⟨t,rfl⟩:=rx;exact SeqAt.EqAt.int_int a t' b t
  | str b=>obtain⟨t,rfl⟩:=rx;exact SeqAt.EqAt.int_str a t' b t
  | _=>exact absurd (show false=true from fx) Qu
 | str a=>
  obtain⟨t',rfl⟩:=ry;cases x with
  | non=>cases rx;exact SeqAt.EqAt.str_none a t'
  | bl b=>cases rx;exact SeqAt.EqAt.str_bool a t' b
  | int b=>obtain⟨t,rfl⟩:=rx;exact SeqAt.EqAt.str_int a t' b t
  | str b=>obtain⟨t,rfl⟩:=rx;exact SeqAt.EqAt.str_str a t' b t
  | _=>exact absurd (show false=true from fx) Qu
 | _=>exact absurd (show false=true from fy) Qu
def eqU (x:V)(u:Qd):Bool:=match u with
 | .none=>eqV .non x
 | .bool b=>eqV (.bl b) x
 | .int i _=>eqV (.int i) x
 | .str z _=>eqV (.str z) x
 | _=>false
theorem bDa {x y:V}{u:Qd}(r:RelV y u)(f:aNb y=true):eqU x u=eqV y x:=by
 cases y with
 | non=>cases r;rfl
 | bl b=>cases r;rfl
 | int i=>obtain⟨t,rfl⟩:=r;rfl
 | str z=>obtain⟨t,rfl⟩:=r;rfl
 | _=>exact absurd (show false=true from f) Qu
theorem aSd {x:V}: ∀{xs:List V} {us:List Qd},Vals xs us->xs.all aNb=true->us.any (eqU x)=xs.any fun y=>eqV y x
 | _,_,.nil,_=>rfl
 | y::xs,u::us,.cons r t,f=>by
  rw[Ja,Q6] at f;rw[Jj,Jj,bDa r f.1,aSd t f.2]
theorem aOp {A:Za}{s:Qf}{x:V}{v:Qd}(rx:RelV x v)(fx:aNb x=true): ∀{xs:List V} {us:List Qd},Vals xs us->xs.all aNb=true->∀u∈us,SeqAt.EqAt A s u v (eqU x u)
 | _,_,.nil,_=>fun u hu=>by cases hu
 | y::xs,u::us,.cons r t,f=>fun u' hu=>by
  rw[Ja,Q6] at f;rcases List.mem_cons.mp hu with rfl | hu
  ·rw[bDa r f.1];exact bIw r rx f.1 fx
  ·exact aOp rx fx t f.2 u' hu
def inV (x:V)(xs:List V):Bool:=xs.any fun y=>eqV y x
def rIn (K:Qb)(neg:Bool):R2:=fun x y H Q=> ∃p xs,y= .ref p/\(SqL K H p xs\/SqT K H p xs)/\aNb x=true/\xs.all aNb=true/\Q (.bl (if neg then !inV x xs else inV x xs)) H
theorem aPv:OpR X (Yl .NotIn) (rIn X.K true):=by
 intro pins s σ H x y v u Q I rx ry h;obtain⟨p,xs,rfl,hq,fx,fs,q⟩:=h;cases ry;rcases hq with hq | hq
 ·obtain⟨its,r,pl,hz⟩:=I.list hq
  refine SeqAt.notIn_listAt (eqU x) pl.isList (fun w hw=>aOp rx fx r fs w (by simpa using hw)) ⟨.bl _,H,I,rfl,?_⟩;rw[show its.toArray.any (eqU x)=its.any (eqU x) by simp,aSd r fs];exact q
 ·obtain⟨its,r,pl,hz⟩:=I.tuple hq
  refine SeqAt.notIn_tupleAt (eqU x) pl (fun w hw=>aOp rx fx r fs w (by simpa using hw)) ⟨.bl _,H,I,rfl,?_⟩;rw[show its.toArray.any (eqU x)=its.any (eqU x) by simp,aSd r fs];exact q
theorem aJ1:aHp X (.builtin "len") (fun xs H Q=> ∃p ys,xs=[.ref p]/\(SqL X.K H p ys\/SqT X.K H p ys)/\Q (.int ys.length) H):=by
 intro pins s σ H xs us Q I r h;obtain⟨p,ys,rfl,hq,q⟩:=h;obtain⟨u,rfl,rx⟩:=vals1 r;cases rx;have hn:=aP2;rcases hq with hq | hq
 ·obtain⟨its,r',pl,hz⟩:=I.list hq
  have hlen:=r'.length;exact Calls.call_len_list pl.isList (by simp only[Qo]<;>omega) ⟨.int ys.length,H,I.tok _,⟨s.toks+1,by rw[Qo,hlen]⟩,q⟩
 ·obtain⟨its,r',pl,hz⟩:=I.tuple hq
  have hlen:=r'.length;exact len_tuple pl (by simp only[Qo]<;>omega) ⟨.int ys.length,H,I.tok _,⟨s.toks+1,by rw[Qo,hlen]⟩,q⟩
theorem aHp.or {f:Qd}{r r':List V->Hp->VK->Prop}(h:aHp X f r)(h':aHp X f r'):aHp X f (fun xs H Q=>r xs H Q\/r' xs H Q):=by
 intro pins s σ H xs us Q I rs q;rcases q with q | q
 ·exact h pins s σ H xs us Q I rs q
 ·exact h' pins s σ H xs us Q I rs q
theorem aO0:aHp X (.type "tuple") (fun xs H Q=> ∃p ys,xs=[.ref p]/\((SqL X.K H p ys/\∀l,H l=none->Q (.ref l) (upd H l (.tup ys)))\/(SqT X.K H p ys/\Q (.ref p) H))):=by
 intro pins s σ H xs us Q I r h;obtain⟨p,ys,rfl,h⟩:=h;obtain⟨u,rfl,rx⟩:=vals1 r;cases rx;rcases h with⟨hq,q⟩ |⟨hq,q⟩
 ·obtain⟨its,r',pl,hz⟩:=I.list hq
  have hlen:=r'.length;refine call_tuple_list pl.isList (fun h' kp=> ?_) (by simp only[Qo]<;>omega);have I1:Inv X pins σ H {s with heap:=h'}:=I.kept (t':=s.toks) kp;have I2:Inv X pins σ (upd H h'.objs.size (.tup ys)) {s with heap:=h'.push {cls:= .type "tuple",data:= .seq its.toArray}}:=
   I1.laid (t':=s.toks) (fun b o e=>Qh _ e) (Qn _) (show aCn X.prog X.w _ _ _ (.tup ys) from⟨hz,its,r',aZy.new _ _⟩)
  exact⟨.ref h'.objs.size,_,I2,rfl,q _ (I1.hok.fresh (Qn _))⟩
 ·obtain⟨its,r',pl,hz⟩:=I.tuple hq
  exact call_tuple_same pl ⟨.ref p,H,I,rfl,q⟩
def tyV (K:Qb)(T:String)(x:V)(H:Hp):Prop:=match x with
 | .str _=>T="str"
 | .int _=>T="int"
 | .ref p=>(T="list"/\∃xs,SqL K H p xs)\/(T="tuple"/\∃o,K.lookup p=some o/\o.cls= .type "tuple"/\o.dict=none)\/
   (T="dict"/\((∃kvs,H p=some (.dK kvs))\/∃kvs,H p=some (.dT kvs)))\/(T="set"/\∃S n,H p=some (.set S n))
 | _=>False
theorem bGn {pins:List (Addr×Obj)}{σ:St}{H:Hp}{s:Qf}{T:String}{x:V}{v:Qd}(I:Inv X pins σ H s)(r:RelV x v)(ty:tyV X.K T x H):
  s.TypeIs v T/\∀a,v= .ref a->∃ob,s.heap.get? a=some ob/\ob.dict=none:=by
 cases x with
 | str z=>
  obtain⟨t,rfl⟩:=r;cases (show T="str" from ty);exact⟨typeIs_str s z t,fun _ e=>nomatch e⟩
 | int i=>
  obtain⟨t,rfl⟩:=r;cases (show T="int" from ty);exact⟨typeIs_int s i t,fun _ e=>nomatch e⟩
 | ref p=>
  cases r;rcases ty with⟨rfl,xs,hq⟩ |⟨rfl,o,hk,hc,hd⟩ |⟨rfl,hk⟩ |⟨rfl,S,n,hk⟩
  ·obtain⟨its,_,pl,_⟩:=I.list hq
   refine⟨pl.isList.typeIs,fun a e=> ?_⟩;cases e;obtain⟨o,n,e,c,hd,_⟩:=pl;exact⟨o,e,hd⟩
  ·refine⟨⟨o,I.kIn p o hk,hc⟩,fun a e=> ?_⟩
   cases e;exact⟨o,I.kIn _ o hk,hd⟩
  ·have z: ∃o,s.heap.get? p=some o/\o.ExactDict:=by
    rcases hk with⟨kvs,hk⟩ |⟨kvs,hk⟩
    ·obtain⟨_,_,_,_,o,_,_,e,ex,_⟩:=I.hok p _ hk
     exact⟨o,e,ex⟩
    ·obtain⟨_,_,_,_,o,_,_,e,ex,_⟩:=I.hok p _ hk
     exact⟨o,e,ex⟩
   obtain⟨o,e,ex⟩:=z;refine⟨⟨o,e,ex.1⟩,fun a e2=> ?_⟩;cases e2;exact⟨o,e,ex.2.1⟩
  ·obtain⟨⟨o,_,_,_,e,ex,_⟩,_⟩:=I.hok p _ hk
   refine⟨⟨o,e,ex.1⟩,fun a e2=> ?_⟩;cases e2;exact⟨o,e,ex.2.1⟩
 | _=>exact Qg ty
def tBM (K:Qb)(T:String)(r:V->List V->Hp->VK->Prop)(to:TE)(t:TA):TE:=fun σ H Q=>to σ H fun x H1=>tyV K T x H1/\t σ H1 fun xs H2=>r x xs H2 Q
variable {o e:Expr}{es:List Expr}{to:TE}{t:TA}{name:Str}{apos cpos:Pos}{T id:String}{r:V->List V->Hp->VK->Prop}
theorem bKj (pa:PlainAttrs T)(slot:Slot T name id)(hty:typeOf (.builtin id)=pure (.type "method_descriptor"))(hm:MtR X id r)(ho:PE X o to)(ha:PA X (e::es) t)
  (hbase:attributeBase o name X.env (eval o X.env)=eval o X.env:=by rfl)
  (hfew:((backTo cpos (Qz (e::es) X.env)).all (fun x=> !x.1)&&(backToKw cpos (keywordEach [] X.env)).all (fun x=>x.1.isSome)
   &&decide ((e::es).length+([]:List Keyword).length+(if ([]:List Keyword).isEmpty then 0 else 1)<30))=true:=by rfl)
  (hline:(apos.endLine==cpos.line)=true:=by rfl) (hs:Qz (e::es) X.env=(false,eval e X.env)::Qz es X.env:=by rfl) (hplain:(backTo cpos (Qz es X.env)).any (·.1)=false:=by rfl):
  PE X (.Call (.Attribute o name apos) (e::es) [] cpos) (tBM X.K T r to t):=by
 intro pins s σ H Q I h;refine wpAny_Call_method_late hbase hfew hline rfl (thn (ho pins s σ H _ I h) fun v s1 ⟨x,H1,I1,r1,ty,q1⟩=> ?_);obtain⟨h1,h2⟩:=bGn I1 r1 ty;refine⟨T,id,pa,slot,hty,h1,h2,?_⟩;have hA:=ha cpos pins s1 σ H1 _ I1 q1;rw[hs] at hA⊢;refine Calls.callWith_builtin (by show (false ||(backTo cpos (Qz es X.env)).any (·.1))=false;rw[hplain]<;>rfl) (Calls.evalArgs_plain ?_);exact thn hA fun us s2 ⟨vs,H2,I2,r2,q2⟩=>hm pins s2 σ H2 x vs v us Q I2 r1 r2 q2
end
def MtM (X:Cx)(id:String)(r:V->List V->Hp->VK->Prop):Prop:=
 ∀(pins:List (Addr×Obj)) (s:Qf) (σ:St) (H:Hp) (x:V) (xs:List V) (v:Qd) (us:List Qd) (Q:VK),Inv X pins σ H s->RelV x v->Vals xs us->r x xs H Q->
  Qm (Ql X.prog X.w) X.A (call (.builtin id) (v::us)) (EP X pins σ Q) X.xe s
theorem Vals.one {x:V}{us:List Qd}(h:Vals [x] us): ∃u,us=[u]/\RelV x u:=by
 cases h with | cons r t=>cases t;exact⟨_,rfl,r⟩
section
variable {X:Cx}{pins:List (Addr×Obj)}{σ:St}{H:Hp}{s:Qf}{l b:Addr}{xs ys zs:List V}
theorem Inv.bKz {its its':List Qd}{n:Nat}{f:Array Qd->Array Qd}{t':Nat}(I:Inv X pins σ H s)(hH:H l=some (.lst xs))
  (e:s.heap.get? l=some {cls:= .type "list",data:= .seq its.toArray n}) (hf:f its.toArray=its'.toArray) (hv:Vals ys its') (hz:ys.length<=Qq):
  Inv X pins σ (upd H l (.lst ys)) {s with heap:=s.heap.update l (Obj.mapSeq f),toks:=t'}:=by
 have q:=PySem.IsL.update e f;rw[hf] at q;refine I.write (x:=l) (e:=l) (by rw[hH];exact trivial) (.inl rfl) (fun b' u hb hu=>(Yv s.heap (Obj.mapSeq f) (Ne.symm hb)).trans hu) ⟨_,q⟩ ?_;exact⟨hz,its',_,hv,q⟩
theorem Inv.bL2 {its:List Qd}{t':Nat}(I:Inv X pins σ H s)(hv:Vals ys its)(hz:ys.length<=Qq):
  Inv X pins σ (upd H s.heap.objs.size (.lst ys)) {s with heap:=s.heap.push {cls:= .type "list",data:= .seq its.toArray},toks:=t'}:=
 I.laid (fun _ _ q=>Qh _ q) (Qn _) ⟨hz,its,0,hv,Qs _ rfl⟩
theorem Inv.fresh (I:Inv X pins σ H s):H s.heap.objs.size=none:=I.hok.fresh (Qn _)
theorem Inv.bL1 (I:Inv X pins σ H s)(hH:H l=some (.lst xs)):xs.length<=Qq/\∃(its:List Qd) (n:Nat),Vals xs its/\xs.length=its.length/\s.heap.get? l=some {cls:= .type "list",data:= .seq its.toArray n}:=by
 obtain⟨z,its,n,r,e⟩:=I.hok l _ hH;exact⟨z,its,n,r,r.length,e⟩
theorem aS7 {n:Nat}(h:n<=Qq):Builtin.List.listTooLong n=false:=by
 unfold Builtin.List.listTooLong;exact decide_eq_false (by omega)
end
section
variable {X:Cx}
def bDz:V->List V->Hp->VK->Prop:=fun x vs H Q=> ∃l xs y,x= .ref l/\vs=[y]/\H l=some (.lst xs)/\xs.length<Qq/\Q .non (upd H l (.lst (xs++ [y])))
theorem aXh:MtM X "list.append" bDz:=by
 intro pins s σ H x vs v us Q I rx rv h;obtain⟨l,xs,y,rfl,rfl,hH,hz,q⟩:=h;cases rx;obtain⟨u,rfl,ru⟩:=rv.one;obtain⟨z,its,n,r,hl,e⟩:=I.bL1 hH;refine call_meets F.slot_list_append ⟨_,e,rfl⟩ F.entry_list_append (F.args_list_append_2 _ _) (PySem.list_append l its.toArray n u (by rw[Qo];omega)) ⟨e,?_⟩;refine⟨.non,_,I.bKz (its':=its++ [u]) hH e (by simp) (r.append (.cons ru .nil)) ?_,rfl,q⟩;rw[Qx,List.length_singleton];omega
end
section
variable {κ:Type}[DecidableEq κ]
def aPb (kvs:List (κ×V))(k:κ):Option V:=(kvs.find? fun kv=>decide (kv.1=k)).map (·.2)
def putK (kvs:List (κ×V))(k:κ)(v:V):List (κ×V):=
 if (kvs.any fun kv=>decide (kv.1=k))=true then kvs.map (fun kv=>if kv.1=k then (kv.1,v) else kv) else kvs++ [(k,v)]
theorem aN4 {p:κ×V}{r:List (κ×V)}{k:κ}(e:p.1=k):aPb (p::r) k=some p.2:=by simp[aPb,Z0,e]
theorem aN5 {p:κ×V}{r:List (κ×V)}{k:κ}(e:¬p.1=k):aPb (p::r) k=aPb r k:=by simp[aPb,Z0,e]
theorem aSn (k:κ): ∀kvs:List (κ×V),(kvs.any fun kv=>decide (kv.1=k))=(aPb kvs k).isSome
 | []=>rfl
 | p::r=>by
  rw[Jj];by_cases e:p.1=k
  ·simp only[aN4 e,decide_eq_true e,Bool.true_or,Option.isSome_some]
  ·rw[aN5 e,decide_eq_false e,Bool.false_or];exact aSn k r
theorem aHg (kvs:List (κ×V))(k:κ)(v:V):(putK kvs k v).length<=kvs.length+1:=by
 unfold putK;split
 ·rw[Qv];omega
 ·rw[Qx,Q4,J1];omega
theorem aTy.aF3 {o:Option V}{u:Option Qd}(r:aTy o u):o.isSome=u.isSome:=by
 cases o with
 | none=>cases u with
  | none=>rfl
  | some _=>exact (show False from r).elim
 | some _=>cases u with
  | none=>exact (show False from r).elim
  | some _=>rfl
theorem KV.val {kvs:List (κ×V)}{vs:List (κ×Qd)}(r:KV kvs vs)(k:κ):aTy (aPb kvs k) (valueAt vs k):=by
 unfold KV at r
 induction r with
 | nil=>exact True.intro
 | @cons p q ps qs h t ih=>
  obtain⟨h1,h2⟩:=h;by_cases e:p.1=k
  ·have e':q.1=k:=h1.symm.trans e
   have b:valueAt (q::qs) k=some q.2:=by simp[valueAt,Z0,e']
   rw[aN4 e,b];exact h2
  ·have e':¬q.1=k:=fun z=>e (h1.trans z)
   have b:valueAt (q::qs) k=valueAt qs k:=by simp[valueAt,Z0,e']
   rw[aN5 e,b];exact ih
theorem KV.any {kvs:List (κ×V)}{vs:List (κ×Qd)}(r:KV kvs vs)(k:κ):(kvs.any fun kv=>decide (kv.1=k))=vs.any fun kv=>decide (kv.1=k):=by
 unfold KV at r
 induction r with
 | nil=>rfl
 | cons h t ih=>rw[Jj,Jj,ih,h.1]
theorem KV.repl {kvs:List (κ×V)}{vs:List (κ×Qd)}(r:KV kvs vs)(k:κ){y:V}{u:Qd}(ry:RelV y u):
  KV (kvs.map fun kv=>if kv.1=k then (kv.1,y) else kv) (vs.map fun kv=>if kv.1=k then (kv.1,u) else kv):=by
 unfold KV at r⊢
 induction r with
 | nil=>exact .nil
 | @cons p q ps qs h t ih=>
  rw[Q9,Q9];refine .cons ?_ ih;obtain⟨h1,h2⟩:=h;by_cases e:p.1=k
  ·rw[if_pos e,if_pos (h1.symm.trans e)];exact⟨h1,ry⟩
  ·rw[if_neg e,if_neg (fun z=>e (h1.trans z))];exact⟨h1,h2⟩
theorem KV.put {kvs:List (κ×V)}{vs:List (κ×Qd)}(r:KV kvs vs)(k:κ){y:V}{u:Qd}(ry:RelV y u):KV (putK kvs k y) (stored vs k u):=by
 unfold putK stored;rw[r.any k];by_cases e:(vs.any fun kv=>decide (kv.1=k))=true
 ·rw[if_pos e,if_pos e];exact r.repl k ry
 ·rw[if_neg e,if_neg e];exact Paired.snoc r ⟨rfl,ry⟩
theorem KV.length {kvs:List (κ×V)}{vs:List (κ×Qd)}(r:KV kvs vs):kvs.length=vs.length:=Paired.length r
end
theorem aX3 {P:Qr}{w:Q2}{k:Key}{u:Qd}(r:RelV (kV k) u):(aCk P w).is k u=true:=by
 cases k with
 | inl i=>obtain⟨t,e⟩:=(show∃t,u=Value.int i t from r);subst e;exact aRp P w i t
 | inr x=>obtain⟨t,e⟩:=(show∃t,u=Ym x t from r);subst e;exact aRo P w x t
theorem aP9 {P:Qr}{w:Q2}: ∀{ks:List Key} {us:List Qd},Vals (ks.map kV) us->ItemsAre (aCk P w) ks us
 | [],_,r=>by rw[U5] at r;cases r;exact .nil
 | k::ks,_,r=>by
  rw[Q9] at r;cases r with
  | cons h t=>exact .cons (aX3 h) (aP9 t)
abbrev KT (H:Hp):List (List Key×V)->List (List Key×Addr×Qd)->Prop:=Paired fun p q=>p.1=q.1/\H q.2.1=some (.tup (p.1.map kV))/\RelV p.2 q.2.2
theorem KT.val {H:Hp}{kvs:List (List Key×V)}{xs:List (List Key×Addr×Qd)}(r:KT H kvs xs)(k:List Key):aTy (aPb kvs k) ((atKey xs k).map (·.2)):=by
 induction r with
 | nil=>exact True.intro
 | @cons p q ps qs h t ih=>
  obtain⟨h1,_,h2⟩:=h;by_cases e:p.1=k
  ·have e':q.1=k:=h1.symm.trans e
   have b:atKey (q::qs) k=some q.2:=by simp[atKey,Z0,e']
   rw[aN4 e,b];exact h2
  ·have e':¬q.1=k:=fun z=>e (h1.trans z)
   have b:atKey (q::qs) k=atKey qs k:=by simp[atKey,Z0,e']
   rw[aN5 e,b];exact ih
theorem KT.repl {H:Hp}{kvs:List (List Key×V)}{xs:List (List Key×Addr×Qd)}(r:KT H kvs xs)(k:List Key){y:V}{u:Qd}(ry:RelV y u):
  KT H (kvs.map fun kv=>if kv.1=k then (kv.1,y) else kv) (xs.map (putAt k u)):=by
 induction r with
 | nil=>exact .nil
 | @cons p q ps qs h t ih=>
  rw[Q9,Q9];refine .cons ?_ ih;obtain⟨h1,h2,h3⟩:=h;unfold putAt;by_cases e:p.1=k
  ·rw[if_pos e,if_pos (h1.symm.trans e)];exact⟨h1,h2,ry⟩
  ·rw[if_neg e,if_neg (fun z=>e (h1.trans z))];exact⟨h1,h2,h3⟩
theorem KT.put {H:Hp}{kvs:List (List Key×V)}{xs:List (List Key×Addr×Qd)}(r:KT H kvs xs)(k:List Key){b:Addr}{y:V}{u:Qd}(hb:H b=some (.tup (k.map kV)))(ry:RelV y u):
  KT H (putK kvs k y) (storedH xs k b u):=by
 have e:(kvs.any fun kv=>decide (kv.1=k))=(atKey xs k).isSome:=by
  rw[aSn,(r.val k).aF3,Ub]
 unfold putK storedH;rw[e];by_cases q:(atKey xs k).isSome=true
 ·rw[if_pos q,if_pos q];exact r.repl k ry
 ·rw[if_neg q,if_neg q];exact Paired.snoc r ⟨rfl,hb,ry⟩
theorem KT.keeps {H H':Hp}{kvs:List (List Key×V)}{xs:List (List Key×Addr×Qd)}(r:KT H kvs xs)(ht: ∀b ys,H b=some (.tup ys)->H' b=some (.tup ys)):KT H' kvs xs:=
 Paired.bKy r fun _ _ z=>⟨z.1,ht _ _ z.2.1,z.2.2⟩
section
variable {P:Qr}{w:Q2}{H:Hp}{h:Heap}{a:Addr}
theorem bGx {u:HO}(ok:HOk P w H h)(e:Rd H a u):aCn P w H h a u:=e.ok ok
theorem bFu {kvs:List (Key×V)}(ok:HOk P w H h)(e:Rd H a (.dK kvs)):kvs.length<=Qq/\(a==sysModules)=false/\∃vs,KV kvs vs/\h.DictOf (aCk P w) a vs:=
 show aCn P w H h a (.dK kvs) from bGx ok e
theorem bIx {kvs:List (Key×V)}(ok:HOk P w H h)(e:H a=some (.dK kvs)):kvs.length<=Qq/\(a==sysModules)=false/\∃vs,KV kvs vs/\h.DictOf (aCk P w) a vs:=bFu ok (.inl e)
theorem aTe {ks:List Key}(ok:HOk P w H h)(e:H a=some (.tup (ks.map kV))):(tupleKind (aCk P w)).is h ks a:=by
 obtain⟨_,its,r,o,h1,h2,⟨n,h3⟩,_⟩:=(show aCn P w H h a (.tup (ks.map kV)) from ok a _ e);exact⟨o,its.toArray,n,h1,h2,h3,by simpa using aP9 r⟩
theorem bFt {kvs:List (List Key×V)}(ok:HOk P w H h)(e:Rd H a (.dT kvs)):kvs.length<=Qq/\(a==sysModules)=false/\
  ∃xs,KT H kvs xs/\h.DictOfH (tupleKind (aCk P w)) a xs:=by
 obtain⟨z,y,xs,r,o,es,ep,h1,h2,h3,h4,h5⟩:=(show aCn P w H h a (.dT kvs) from bGx ok e);refine⟨z,y,xs,r,o,es,ep,h1,h2,h3,h4,fun x hx=> ?_,h5⟩;have all: ∀{l:List (List Key×V)} {m:List (List Key×Addr×Qd)},KT H l m->∀x∈m,(tupleKind (aCk P w)).is h x.1 x.2.1:=by
  intro l m q
  induction q with
  | nil=>intro x hx;exact nomatch hx
  | @cons p q ps qs hq t ih=>
   intro x hx;rcases List.mem_cons.mp hx with e | hx
   ·subst e
    exact aTe ok (by rw[<-hq.1];exact hq.2.1)
   ·exact ih x hx
 exact all r x hx
theorem bLd {kvs:List (List Key×V)}(ok:HOk P w H h)(e:H a=some (.dT kvs)):kvs.length<=Qq/\(a==sysModules)=false/\
  ∃xs,KT H kvs xs/\h.DictOfH (tupleKind (aCk P w)) a xs:=bFt ok (.inl e)
end
def bGi (H:Hp)(a:Addr)(y:V)(r:Option V):Prop:=
 (∃kvs k,Rd H a (.dK kvs)/\y=kV k/\r=aPb kvs k)\/∃kvs k b,Rd H a (.dT kvs)/\y= .ref b/\H b=some (.tup (k.map kV))/\r=aPb kvs k
def bJc (H:Hp)(a:Addr)(y v:V)(H':Hp):Prop:=
 (∃kvs k,H a=some (.dK kvs)/\y=kV k/\kvs.length<Qq/\H'=upd H a (.dK (putK kvs k v)))\/
 ∃kvs k b,H a=some (.dT kvs)/\y= .ref b/\H b=some (.tup (k.map kV))/\kvs.length<Qq/\H'=upd H a (.dT (putK kvs k v))
theorem bJc.k {H:Hp}{a:Addr}{kvs:List (Key×V)}{k:Key}{v:V}(e:H a=some (.dK kvs))(hl:kvs.length<Qq):bJc H a (kV k) v (upd H a (.dK (putK kvs k v))):= .inl ⟨kvs,k,e,rfl,hl,rfl⟩
section
variable {X:Cx}{pins:List (Addr×Obj)}{σ:St}{H:Hp}{s:Qf}{a:Addr}{y v:V}{u r:Qd}{o:Option V}{A:Za}{E:Qd->Qf->Prop}
theorem Inv.big (I:Inv X pins σ H s):sysModules<s.heap.objs.size:=by
 have h:Yp<s.heap.objs.size:=(I.mod.glob.keeps I.bk).lt;exact Nat.lt_trans (by decide) h
theorem bNf {Q:Qd->Qf->Prop}(hu:A.units+1<cLine)(I:Inv X pins σ H s)(g:bGi H a y o)(ry:RelV y u)(h: ∀s',Inv X pins σ H s'->Q (.bool o.isSome) s'):
  Qm (Ql X.prog X.w) A (Yl .In u (.ref a)) Q E s:=by
 rcases g with⟨kvs,k,e,ey,l⟩ |⟨kvs,k,b,e,ey,eb,l⟩
 ·subst ey
  obtain⟨z,hd,vs,rel,dd⟩:=bFu I.hok e;refine wpAny_in_of (aX3 ry) hd dd.mapOf ?_;rw[<-(rel.val k).aF3,<-l];exact h _ (I.tok _)
 ·subst ey
  cases (show u=Zc b from ry);obtain⟨z,hd,xs,rel,dd⟩:=bFt I.hok e;refine wpAny_in_heap (tupleKind_room_in1 hu) (aTe I.hok eb) hd dd ?_;have q:=(rel.val k).aF3;rw[Ub] at q;rw[<-q,<-l];exact h _ (I.tok _)
theorem bFw {Q:Qd->Qf->Prop}(hu:A.units+1<cLine)(I:Inv X pins σ H s)(g:bGi H a y o)(ry:RelV y u)(h: ∀s',Inv X pins σ H s'->Q (.bool (!o.isSome)) s'):
  Qm (Ql X.prog X.w) A (Yl .NotIn u (.ref a)) Q E s:=by
 rcases g with⟨kvs,k,e,ey,l⟩ |⟨kvs,k,b,e,ey,eb,l⟩
 ·subst ey
  obtain⟨z,hd,vs,rel,dd⟩:=bFu I.hok e;refine wpAny_notIn_of (aX3 ry) hd dd.mapOf ?_;rw[<-(rel.val k).aF3,<-l];exact h _ (I.tok _)
 ·subst ey
  cases (show u=Zc b from ry);obtain⟨z,hd,xs,rel,dd⟩:=bFt I.hok e;refine wpAny_notIn_heap (tupleKind_room_in1 hu) (aTe I.hok eb) hd dd ?_;have q:=(rel.val k).aF3;rw[Ub] at q;rw[<-q,<-l];exact h _ (I.tok _)
theorem aR6 {h':Heap}{t':Nat}{ob:HO}(I:Inv X pins σ H s)(mu:Mut (H a))(hs:Yg a s.heap h')(he: ∃q,h'.get? a=some q)(new:aCn X.prog X.w (upd H a ob) h' a ob):
  Inv X pins σ (upd H a ob) {s with heap:=h',toks:=t'}:=
 I.write (x:=a) (e:=a) mu (.inl rfl) (fun b q hb z=>(hs.2 b hb).trans z) he new
theorem bDb {P:Qr}{w:Q2}{H':Hp}{h':Heap}{kvs:List (Key×V)}{vs:List (Key×Qd)}(z:kvs.length<=Qq)(hd:(a==sysModules)=false)(rel:KV kvs vs)(dd:h'.DictOf (aCk P w) a vs):
  aCn P w H' h' a (.dK kvs):=⟨z,hd,vs,rel,dd⟩
theorem aY0 {H':Hp}{Q:Unit->Qf->Prop}(hu:A.units+1<cLine)(I:Inv X pins σ H s)(g:bJc H a y v H')(ry:RelV y u)(rv:RelV v r)(h: ∀s',Inv X pins σ H' s'->Q () s'):
  Qm (Ql X.prog X.w) A (setItem (.ref a) u r) Q E s:=by
 rcases g with⟨kvs,k,e,ey,l,eH⟩ |⟨kvs,k,b,e,ey,eb,l,eH⟩
 ·subst ey eH
  obtain⟨z,hd,vs,rel,dd⟩:=bIx I.hok e;have hz:vs.length<=Qq:=by rw[<-rel.length];exact z
  have hl:(putK kvs k v).length<=Qq:=by have:=aHg kvs k v;omega
  refine wpAny_setItem_pairs (hsz:=hz) (aX3 ry) dd fun h' dd' hs=>h _ ?_
  have he: ∃q,h'.get? a=some q:=let ⟨q,_,_,hq,_⟩:=dd';⟨q,hq⟩;exact aR6 I (by rw[e];exact True.intro) hs he (bDb hl hd (rel.put k rv) dd')
 ·subst ey eH
  cases (show u=Zc b from ry);obtain⟨z,hd,xs,rel,dd⟩:=bLd I.hok e;have hz:xs.length<=Qq:=by rw[<-Paired.length rel];exact z
  have hl:(putK kvs k v).length<=Qq:=by have:=aHg kvs k v;omega
  refine wpAny_setItem_heap (hsz:=hz) (tupleKind_room_in1 hu) (aTe I.hok eb) dd fun h' dd' hs=>h _ ?_
  obtain⟨q,es,ep,hq,h2,h3,h4,_,h5⟩:=dd';refine aR6 I (by rw[e];exact True.intro) hs ⟨q,hq⟩ ⟨hl,hd,_,(rel.put k eb rv).keeps fun c ys ec=> ?_,q,es,ep,hq,h2,h3,h4,h5⟩;rw[aAq (bKu ec e (fun z=>nomatch z))];exact ec
end
def bJ0 (td ty tv:TE):TS:=fun D σ H=>tv σ H fun v H1=>td σ H1 fun x H2=>ty σ H2 fun y H3=> ∃a H4,x= .ref a/\bJc H3 a y v H4/\D.nx σ H4
section
variable {X:Cx}{o i e value:Expr}{pos pos' tpos:Pos}{td ty tv:TE}
theorem bD1 (hu:X.A.units+1<cLine)(ho:PE X o td)(hi:PE X i ty)(hv:PE X value tv)(hs:swapsWith value (some (.Subscript o i pos')) pos.line X.env=pure false):
  PS X (.Assign [.Subscript o i pos'] value pos) (bJ0 td ty tv):=by
 intro pins s σ H D I h;refine wpAny_Assign_Subscript (thn (hv pins s σ H _ I h) fun r s1 ⟨v,H1,I1,rv,q1⟩=>thn (ho pins s1 σ H1 _ I1 q1) fun u s2 ⟨x,H2,I2,rx,q2⟩=>thn (hi pins s2 σ H2 _ I2 q2) fun iv s3 ⟨y,H3,I3,ry,a,H4,ex,g,q3⟩=> ?_) hs;subst ex;obtain rfl:u=Zc a:=rx;exact aY0 hu I3 g ry rv fun s4 I4=>⟨σ,H4,I4,q3⟩
end
theorem aTp {P:Qr}{w:Q2}{H:Hp}(h:Heap)(hb:sysModules<h.objs.size):aCn P w H (h.push {cls:= .type "dict",data:= .dict #[]}) h.objs.size (.dK []):=
 ⟨Y5 _,beq_eq_false_iff_ne.mpr (Ne.symm (Qy hb)),[],.nil,Heap.DictOf.new h⟩
def bGr:TE:=fun _ H Q=> ∀p,H p=none->Q (.ref p) (upd H p (.dK []))
section
variable {X:Cx}{pos:Pos}
theorem aS1:PE X (.Dict [] [] pos) bGr:=fun pins s σ H Q I h=>
 wpAny_Dict_empty ⟨.ref s.heap.objs.size,_,I.laid (a:=s.heap.objs.size) (o:= .dK []) (t':=s.toks) (fun _ _ q=>Qh _ q) (Qn _) (aTp s.heap I.big),rfl,h _ (I.hok.fresh (Qn _))⟩
end
def aWb:List (TE×TE)->St->Hp->(List (V×V)->Hp->Prop)->Prop
 | [],_,H,Q=>Q [] H
 |(tk,tv)::r,σ,H,Q=>tk σ H fun x H1=>tv σ H1 fun y H2=>aWb r σ H2 fun ps H3=>Q ((x,y)::ps) H3
abbrev VV:List (V×V)->List (Qd×Qd)->Prop:=Paired fun p q=>RelV p.1 q.1/\RelV p.2 q.2
def PPs (X:Cx)(pos:Pos)(keys:List (Option Expr))(values:List Expr)(trs:List (TE×TE)):Prop:=
 ∀(pins:List (Addr×Obj)) (s:Qf) (σ:St) (H:Hp) (Q:List (V×V)->Hp->Prop),Inv X pins σ H s->aWb trs σ H Q->
  Qm (Ql X.prog X.w) X.A (evalPairs (pairTrees keys values X.env pos)) (fun vs s'=> ∃ps H',Inv X pins σ H' s'/\VV ps vs/\Q ps H') X.xe s
theorem bD3 {X:Cx}{pos:Pos}:PPs X pos [] [] []:=fun pins s σ H Q I h=>pairTrees_nil_walk ⟨[],H,I,.nil,h⟩
theorem bAp {X:Cx}{pos:Pos}{k v:Expr}{ks:List (Option Expr)}{vs:List Expr}{tk tv:TE}{trs:List (TE×TE)}(hk:PE X k tk)(hv:PE X v tv)(hr:PPs X pos ks vs trs):
  PPs X pos (some k::ks) (v::vs) ((tk,tv)::trs):=fun pins s σ H Q I h=>
 pairTrees_cons_walk (thn (hk pins s σ H _ I h) fun u s1 ⟨x,H1,I1,rx,q1⟩=>thn (hv pins s1 σ H1 _ I1 q1) fun w2 s2 ⟨y,H2,I2,ry,q2⟩=>
  thn (hr pins s2 σ H2 _ I2 q2) fun ws s3 ⟨ps,H3,I3,rel,q3⟩=>⟨(x,y)::ps,H3,I3,.cons ⟨rx,ry⟩ rel,q3⟩)
def aNt (kvs more:List (Key×V)):List (Key×V):=more.foldl (fun acc kv=>putK acc kv.1 kv.2) kvs
theorem KV.merge: ∀{more:List (Key×V)} {rs:List (Key×Qd)} {kvs:List (Key×V)} {vs:List (Key×Qd)},KV more rs->KV kvs vs->KV (aNt kvs more) (merged vs rs):=by
 intro more rs kvs vs r;unfold KV at r
 induction r generalizing kvs vs with
 | nil=>intro q;exact q
 | @cons p q ps qs h t ih=>
  intro r0;have e:KV (putK kvs p.1 p.2) (stored vs q.1 q.2):=by
   have:=r0.put p.1 h.2;rw[<-h.1];exact this
  exact ih e
theorem aIf: ∀(more kvs:List (Key×V)),(aNt kvs more).length<=kvs.length+more.length
 | [],kvs=>by show kvs.length<=kvs.length+0;omega
 | p::r,kvs=>by
  have h1:=aIf r (putK kvs p.1 p.2);have h2:=aHg kvs p.1 p.2;show (aNt (putK kvs p.1 p.2) r).length<=_;rw[Q4];omega
theorem aN0 {P:Qr}{w:Q2}: ∀{kvs:List (Key×V)} {ws:List (Qd×Qd)},VV (kvs.map fun kv=>(kV kv.1,kv.2)) ws->∃rs,Carries (aCk P w) ws rs/\KV kvs rs
 | [],_,r=>by rw[U5] at r;cases r;exact⟨[],True.intro,.nil⟩
 | p::kvs,_,r=>by
  rw[Q9] at r;cases r with
  | @cons a b as bs h t=>
   obtain⟨rs,c,q⟩:=aN0 (P:=P) (w:=w) t;obtain⟨b1,b2⟩:=b;exact⟨(p.1,b2)::rs,⟨aX3 h.1,rfl,c⟩,.cons ⟨rfl,h.2⟩ q⟩
def bJu (trs:List (TE×TE)):TE:=fun σ H Q=> ∀p,H p=none->aWb trs σ (upd H p (.dK [])) fun ps H2=>H2 p=some (.dK [])/\∃kvs:List (Key×V),ps=kvs.map (fun kv=>(kV kv.1,kv.2))/\kvs.length<=15/\Q (.ref p) (upd H2 p (.dK (aNt [] kvs)))
theorem bD8 {X:Cx}{pos:Pos}{keys:List (Option Expr)}{values:List Expr}{trs:List (TE×TE)}(h:PPs X pos keys values trs)(hall:keys.all (·.isSome)=true)(hl:keys.length=values.length)(h0:keys≠[])
  (h15:keys.length<=15):PE X (.Dict keys values pos) (bJu trs):=by
 intro pins s σ H Q I q;have hn:=I.hok.fresh (Qn s.heap.objs.size);have I1:=I.laid (a:=s.heap.objs.size) (o:= .dK []) (h':=s.heap.push {cls:= .type "dict",data:= .dict #[]}) (t':=s.toks) (fun _ _ q=>Qh _ q) (Qn _) (aTp s.heap I.big);refine wpAny_Dict_walk (knd:=aCk X.prog X.w) hall hl h0 h15 (thn (h pins _ σ _ _ I1 (q _ hn)) fun ws s2 ⟨ps,H2,I2,rel,e,kvs,ep,lk,q2⟩=> ?_);subst ep;obtain⟨rs,c,rk⟩:=aN0 (P:=X.prog) (w:=X.w) rel;obtain⟨z,hd,vs0,r0,dd⟩:=bIx I2.hok e;cases r0;refine⟨rs,c,dd,fun h' dd' hs=>⟨.ref s.heap.objs.size,_,?_,rfl,q2⟩⟩;have hz:(aNt [] kvs).length<=Qq:=by
  have h1:=aIf kvs [];rw[J1] at h1;rw[sizeLine_eq];omega
 have he: ∃q,h'.get? s.heap.objs.size=some q:=let ⟨q,_,_,hq,_⟩:=dd';⟨q,hq⟩;exact aR6 I2 (by rw[e];exact True.intro) hs he (bDb hz hd (rk.merge .nil) dd')
end L2
namespace Att
open PySem PySem.W PySem.Calls PyProof.Rows
theorem aL8 {P:Params}{h:Heap}: ∀(ns:List Int) (vs:List Qd),WellAll P h vs (ns.map WData.int)->IntsAre vs ns:=by
 intro ns
 induction ns with
 | nil=>
  intro vs w;rw[U5] at w;cases w;exact .nil
 | cons n ns ih=>
  intro vs w;rw[Q9] at w;cases w with
  | cons a b=>
   cases a;exact .cons _ _ (ih _ b)
theorem aWm {l:OpenLaw}{n:Nat}(hn:l.most=some n){P:Params}{h:Heap}{args:List WData}{vals:List Qd}
  (hpre:l.row.toRowW.claim.pre args=true) (hwl:WellAll P h vals args):
  ∃a vs ns,vals=[Zc a]/\args=[WData.list (ns.map WData.int)]/\h.get? a=some {cls:= .type "list",data:= .seq vs.toArray}/\IntsAre vs ns/\ns.length<=n:=by
 have hsh:WShape.hasAll [] args [.list .int]=true:=(pre_splitW hpre).1;have hc:l.pre.holds [] {args:=args}=true:=(pre_splitW hpre).2;obtain⟨d,r,rfl,h1,h2⟩:=hasAllW_cons hsh;obtain rfl:=hasAllW_nil h2;obtain⟨xs,rfl,h3⟩:=hasW_list h1;obtain⟨ns,rfl⟩:=items_int h3;have hlen:ns.length<=n:=by
  unfold OpenLaw.pre at hc;have h4:(WTm.not (.lt (.lit (.int (n:Int))) (.len (.arg 0)))).holds [] {args:=[.list (ns.map .int)]}=true:=by
   have h4:=(holds_andW hc).1;rw[hn] at h4;exact h4
  have h5:=condW_of h4 (w_not (w_lt w_lit (w_len_list (w_arg rfl))));rw[Qv] at h5;refine Nat.le_of_not_lt fun q=> ?_
  have q':(n:Int)<((ns.length:Nat):Int):=by omega
  first
   |(rw[decide_eq_true q'] at h5;exact absurd h5 (by decide))
   |(simp at h5;omega)
 cases hwl with
 | cons w1 w2=>
  cases w2;cases w1 with
  | list ho hall=>exact⟨_,_,ns,rfl,rfl,ho,aL8 ns _ hall,hlen⟩
theorem aWx (l:OpenLaw)(args:List WData):l.row.toRowW.claim.post args (.bool true) args=true:=
 postW_of (r:=l.row.toRowW) (X:=(true==true))
  (show WShape.has [] (.bool true) .bool=true by first | rfl | decide | simp[WShape.has,WShape.arms,WShape.armsAll])
  (show (WTm.eq .res (.lit (.bool true))).value [] {args:=args,res:=some (.bool true),after:=args}=some (.bool (true==true)) from w_eq_bool (w_res rfl) w_lit) rfl
theorem aSa {l:OpenLaw}{n:Nat}{q:Qr}{loose:List Str}{XP:(Str->Option Qd)->Heap->Prop}{YP:Q2->Heap->Prop}{d:DefRec}
  (hn:l.most=some n) (hdf:d.params.defaults=[])
  (call: ∀(w:Q2) (s₀ s₁:Qf) (mg mb:Str->Option Qd) (fa:Addr) (o:Obj) (pm cd doc:Qd) (a:Addr) (vs:List Qd) (ns:List Int),
   Ground q loose [] XP w s₀ mg mb s₁.heap->YP w s₁.heap->
   s₁.heap.get? fa=some o->o.data= .func (docDef d.name d.params d.body d.scope pm cd doc)->s₁.heap.CodeRec cd d.name->mg d.name=some (.ref fa)->
   s₁.heap.get? a=some {cls:= .type "list",data:= .seq vs.toArray}->IntsAre vs ns->ns.length<=n->s₁.gens= #[]->
   codeAny (Ql l.prog w) callerA (.call (.ref fa) ⟨[.ref a],[]⟩) (fun r s'=>r= .ok (.ret (.bool true))/\OldK s₁.heap s'.heap/\s'.os=s₁.os/\AllBare s'.gens) s₁):
  WalkO q loose XP YP l.row.toRowW d [] (fun f vs=>Up f vs):=by
 intro w s₀ s₁ mg mb G Y fa o pm cd doc dV kV ho hd hcd hD hmg hg args vals as hpre hlay hrd hwl hlo;obtain rfl:dV= .none:=Dflts.none hD hdf;obtain rfl:kV= .none:=Dflts.noKw hD;obtain⟨a,vs,ns,rfl,rfl,hobj,hints,hlen⟩:=aWm hn hpre hwl;refine enter_call (codeAny_mono (call w s₀ s₁ mg mb fa o pm cd doc a vs ns G Y ho (fd_plain hd) hcd hmg hobj hints hlen hg) fun r s' hq=> ?_);obtain⟨rfl,h2,h3,h4⟩:=hq;exact⟨.inl ⟨.bool true,.bool true,[],rfl,fun _=>rfl,.bool true,aWx l _,fun _=>⟨List.Pairwise.nil,fun _ hm=>(nomatch hm)⟩⟩,h2,h3,h4⟩
section
variable {prog:Qr}{w:Q2}{A:Za}{E:Qd->Qf->Prop}{s:Qf}{K:Frag}
def ledger (h:Heap)(L d:Addr):List (Addr×Obj):=(Yb h.objs.size).filterMap fun a=>if a=L\/a=d then none else (h.get? a).map fun o=>(a,o)
end
end Att
namespace L2
open PySem PySem.Spec PyProof.Rows
theorem aPg: ∀{vs:List Qd} {ns:List Int},IntsAre vs ns->Vals (ns.map V.int) vs
 | _,_,.nil=> .nil
 | _,_,.cons n t h=> .cons ⟨t,rfl⟩ (aPg h)
def Only (H:Hp):Prop:= ∀b,H b=none\/∃o xs,H b=some (.frz o (.lst xs))
theorem bBe {P:Qr}{w:Q2}{K:Qb}{mg mb:Str->Option Qd}{CX:CXT}{k:Nat}{fa a:Addr}{fd:Z5}{x:Str}{sp:Sp}{s₁:Qf}{vs:List Qd}{ns:List Int}
  (KX:K.In s₁.heap) (hns:s₁.heap.Ns Yp mg) (hb:s₁.heap.Ns builtinsNs mb) (hbb: ∀x:Str,x≠"__name__"->mb x=Yq x) (hlim:s₁.heap.NoLimit) (hg:s₁.gens= #[])
  (ha:s₁.heap.get? a=some {cls:= .type "list",data:= .seq vs.toArray}) (hi:IntsAre vs ns) (hl:ns.length<=Qq) (hr:aEx k callerA)
  (F: ∀base:Heap,K.In base->base.Ns Yp mg->aSh P w K mg base CX k fa fd [x] sp) (hbind: ∀(s:Qf) (u:Qd),BindsTo s fd ⟨[u],[]⟩ [(x,u)])
  (hsp: ∀H:Hp,Only H->SqL K H a (ns.map V.int)->sp [.ref a] H (fun v _=>v= .bl true) fun _ _ _=>False)
  (hCX: ∀H e s',CX [] H s₁ (fun _ _ _=>False) e s'->False):
  codeAny (Ql P w) callerA (.call (.ref fa) ⟨[.ref a],[]⟩) (fun r s'=>r= .ok (.ret (.bool true))/\OldK s₁.heap s'.heap/\s'.os=s₁.os/\AllBare s'.gens) s₁:=by
 have rv:=aPg hi;have lenV:=hi.length;have core: ∀H:Hp,Only H->SqL K H a (ns.map V.int)->HOk P w H s₁.heap->(∀b,H b≠none->b=a)->(H a≠none->K.lookup a=none)->
   codeAny (Ql P w) callerA (.call (.ref fa) ⟨[.ref a],[]⟩) (fun r s'=>r= .ok (.ret (.bool true))/\OldK s₁.heap s'.heap/\s'.os=s₁.os/\AllBare s'.gens) s₁:=by
  intro H hO hS hok hA hK;have aY8: ∀{b:Addr} {o:Obj},s₁.heap.get? b=some o->H b=none->(bBq s₁.heap H).get? b=some o:=fun e n=>bBp e n
  have noA: ∀{b:Addr} {o:Obj} {es:Array DictEntry} {ep:Nat},s₁.heap.get? b=some o->o.data= .dict es ep->H b=none:=fun {b o es ep} e d=>by
   cases q:H b with
   | none=>rfl
   | some u=>
    have e':b=a:=hA b (by rw[q];simp);subst e';rw[ha] at e;cases e;have d':Data.seq vs.toArray _=Data.dict es ep:=d;cases d'
  have nsK: ∀{b:Addr} {m:Str->Option Qd},s₁.heap.Ns b m->(bBq s₁.heap H).Ns b m:=fun {b m} ⟨o,es,ep,e,d,r⟩=>⟨o,es,ep,aY8 e (noA e d),d,r⟩
  have hKb:K.In (bBq s₁.heap H):=fun b o e=>aY8 (KX b o e) (by
   cases q:H b with
   | none=>rfl
   | some u=>
    have e':b=a:=hA b (by rw[q];simp);subst e';rw[hK (by rw[q];simp)] at e;cases e)
  have hM:Mod K mg (bBq s₁.heap H):=⟨hKb,nsK hns,⟨mb,nsK hb,hbb⟩,let ⟨mc,h1,h2⟩:=hlim;⟨mc,nsK h1,h2⟩⟩;have e0:bGd P w K mg (bBq s₁.heap H) callerA [] s₁ H:=⟨rfl,hM,fun b o e=>bEs e,Nat.le_of_eq (aYg _ _),trivial,fun b hb=>absurd (show b∈([]:List Addr) from hb) (by simp),hok,.of_eq hg⟩;refine codeAny_mono ((F _ hKb (nsK hns)).run callerA [] s₁ H ⟨[.ref a],[]⟩ [.ref a] [.ref a] _ _ hr e0 (hbind s₁ (.ref a)) (.cons rfl .nil) (hsp H hO hS)) fun r s' h=> ?_
  cases r with
  | error e=>exact (hCX H e s' h).elim
  | ok fl=>
   cases fl with
   | next=>exact Qg h
   | brk=>exact Qg h
   | cont=>exact Qg h
   | ret u=>
    obtain⟨v,H',os,bare,un,hok',r',q⟩:=h;have q':v= .bl true:=q;subst q';obtain rfl:u=Value.bool true:=r';refine⟨rfl,OldK.of_keep fun b o e=> ?_,os,bare⟩;cases q:H b with
    | none=>exact un.keep b o e q (by intro z;exact absurd (show b∈([]:List Addr) from z) (by simp)) (by simp)
    | some u=>
     rcases hO b with z |⟨ob,xs,z⟩
     ·rw[q] at z;cases z
     ·have z2:=un.aQe b ob _ z
      obtain⟨e1,_⟩:=hok b _ z;obtain⟨e2,_⟩:=hok' b _ z2;rw[e] at e1;cases e1;exact e2
 cases hk:K.lookup a with
 | some o=>
  have e:=KX a o hk;rw[ha] at e;cases e;refine core (fun _=>none) (fun _=> .inl rfl) (.inr ⟨_,vs.toArray,_,hk,rfl,rfl,rfl,by rw[Qo,lenV];exact hl,by simpa using rv⟩) (fun b u z=>by have z':(none:Option HO)=some u:=z;cases z') (fun b z=>absurd rfl z) fun z=>absurd rfl z
 | none=>
  refine core (fun b=>if b=a then some (.frz {cls:= .type "list",data:= .seq vs.toArray} (.lst (ns.map V.int))) else none) (fun b=> ?_) (.inl (.inr ⟨{cls:= .type "list",data:= .seq vs.toArray},if_pos rfl⟩)) (fun b u z=> ?_) (fun b z=> ?_) fun _=>hk
  ·by_cases hb:b=a
   ·exact .inr ⟨_,_,if_pos hb⟩
   ·exact .inl (if_neg hb)
  ·by_cases hb:b=a
   ·have z':=(if_pos hb).symm.trans z
    cases z';subst hb;exact⟨ha,by rw[Qv];exact hl,vs,_,rv,ha⟩
   ·have z':=(if_neg hb).symm.trans z
    cases z'
  ·by_cases hb:b=a
   ·exact hb
   ·exact absurd (if_neg hb) z
abbrev KOf {K:Qb}{h:Heap}(_:K.In h):Qb:=K
theorem bDl {l:Wf}{n k:Nat}{q:Qr}{loose:List Str}{XP:(Str->Option Qd)->Heap->Prop}{YP:Q2->Heap->Prop}{d:DefRec}{K:Params->Qb}{CX:Q2->CXT}{sp:Q2->Sp}{x:Str}
  (hn:l.most=some n) (hn2:n<=Qq) (hdf:d.params.defaults=[]) (hr:aEx k callerA)
  (hY: ∀(w:Q2) (h:Heap),YP w h->(K w.params).In h)
  (F: ∀(w:Q2) (mg:Str->Option Qd) (fa:Addr) (h:Heap),(K w.params).In h->h.Ns Yp mg->mg d.name=some (.ref fa)->
   ∃fd:Z5,(∀(s:Qf) (u:Qd),BindsTo s fd ⟨[u],[]⟩ [(x,u)])/\
    ∀base:Heap,(K w.params).In base->base.Ns Yp mg->aSh l.prog w (K w.params) mg base (CX w) k fa fd [x] (sp w))
  (hsp: ∀(w:Q2) (H:Hp) (a:Addr) (ns:List Int),ns.length<=n->Only H->SqL (K w.params) H a (ns.map V.int)->sp w [.ref a] H (fun v _=>v= .bl true) fun _ _ _=>False)
  (hCX: ∀(w:Q2) (H:Hp) (s:Qf) (e:Qd) (s':Qf),CX w [] H s (fun _ _ _=>False) e s'->False):
  PySem.W.WalkO q loose XP YP l.row.toRowW d [] (fun f vs=>Up f vs):=by
 refine Att.aSa hn hdf fun w s₀ s₁ mg mb fa o pm cd doc a vs ns G Y ho hd hcd hmg hobj hints hlen hg=> ?_
 have KX:=hY w _ Y;obtain⟨fd,hb,hF⟩:=F w mg fa _ KX G.T.g hmg;exact bBe KX G.T.g G.T.b G.T.builtins G.T.nolimit hg hobj hints (Zi hlen hn2) hr hF hb (fun H hO hS=>hsp w H a ns hlen hO hS) fun H e s'=>hCX w H s₁ e s'
def inClass (s:Stmt)(j:Nat):Stmt:=match s with
 | .ClassDef _ _ _ body _ _ _ _ _ _ _=>body.getD j (.Pass ⟨0,0,0,0⟩)
 | _=> .Pass ⟨0,0,0,0⟩
def aD7 (s:Stmt):Arguments:=match s with
 | .FunctionDef _ a _ _ _ _ _ _ _ _=>a
 | _=>{posonlyargs:=[],args:=[],vararg:=none,kwonlyargs:=[],kw_defaults:=[],kwarg:=none,defaults:=[]}
def aCa (s:Stmt):List Stmt:=match s with
 | .FunctionDef _ _ b _ _ _ _ _ _ _=>b
 | _=> []
def aAm (s:Stmt):Scope:=match s with
 | .FunctionDef _ _ _ _ _ _ sc _ _ _=>sc
 | _=>{kind:= .function,names:=[],isGenerator:=false,isCoroutine:=false}
structure Fun (K:Qb)(x qual:Str)(st:Stmt)(f:Addr)(fd:Z5):Prop where
 ex: ∃(oc:Qd) (od:Option Addr) (kV doc pm:Qd) (an:Option Addr) (cdv ct:Qd) (osl:Array (Option Qd)),
  fd=Jl x qual (aD7 st) (aCa st) (aAm st) .none kV doc pm an cdv ct/\K.lookup f=some ⟨oc,od,.func fd,osl⟩/\Ul K cdv qual=true
 kp:Jo K (.ref f)=true
section
variable {P:Qr}{w:Q2}{K:Qb}{mg:Str->Option Qd}{base:Heap}
theorem Fun.binds {x qual:Str}{st:Stmt}{f:Addr}{fd:Z5}{ps:List Str}(F:Fun K x qual st f fd)
  (h: ∀(kV doc pm:Qd) (an:Option Addr) (cdv ct:Qd) (us:List Qd),us.length=ps.length->bindArgs (Jl x qual (aD7 st) (aCa st) (aAm st) .none kV doc pm an cdv ct) ⟨us,[]⟩=pure (ps.zip us)):Binds K fd ps []:=by
 obtain⟨oc,od,kV,doc,pm,an,cdv,ct,osl,rfl,lk,hcd⟩:=F.ex;exact .all (h kV doc pm an cdv ct)
theorem bC6 {x qual:Str}{st:Stmt}{f:Addr}{oc:Qd}{od an:Option Addr}{osl:Array (Option Qd)}{kV doc pm cdv ct:Qd}(l:K.lookup f=some ⟨oc,od,.func (Jl x qual (aD7 st) (aCa st) (aAm st) .none kV doc pm an cdv ct),osl⟩)
  (c:Ul K cdv qual=true) (k:Jo K (.ref f)=true):Fun K x qual st f (Jl x qual (aD7 st) (aCa st) (aAm st) .none kV doc pm an cdv ct):=⟨⟨oc,od,kV,doc,pm,an,cdv,ct,osl,rfl,l,c⟩,k⟩
end
theorem bFe {A:Za}{k:Nat}(hr:aEx k A):A.units+1<cLine:=Nat.lt_of_le_of_lt (Nat.add_le_add_left (by decide:1<=64) _) hr.units
theorem aWi {n:Nat}(h:n<=1000):n<Qq:=Nat.lt_of_le_of_lt h (by decide)
section
variable {X:Cx}
theorem pv (i:Nat){x:Str}{pos:Pos}(hN:X.N[i]? =some x:=by rfl)(hv:Vis X.env.scope x:=by first | exact Zf rfl | exact Ud (Zf rfl) | exact Ud (Ud rfl))(hd:(x==("__debug__":Str))=false:=by decide)
  (hcd:(x==("__classdict__":Str))=false:=by decide):PE X (.Name x pos) (bLp i):=aE8 hN hv hd hcd
end
def Same (H H':Hp):Prop:= ∀b o,H b=some o->H' b=some o
theorem Same.refl (H:Hp):Same H H:=fun _ _ h=>h
theorem Same.trans {H H1 H2:Hp}(a:Same H H1)(b:Same H1 H2):Same H H2:=fun c o h=>b c o (a c o h)
theorem Same.seq {K:Qb}{H H':Hp}{a:Addr}{xs:List V}(e:Same H H')(h:SqL K H a xs):SqL K H' a xs:=by
 rcases h with (h |⟨o,h⟩) | h
 ·exact .inl (.inl (e _ _ h))
 ·exact .inl (.inr ⟨o,e _ _ h⟩)
 ·exact .inr h
end L2
set_option maxHeartbeats 4000000
namespace L2.HD
open PySem PySem.W
def goU (thr okS:Thread->Bool)(f:SharedT->Thread->Option (SharedT×Thread)):Nat->SharedT->Thread->Option SharedT
 | 0,_,_=>none
 | n+1,s,t=>match thr t with
  | true=>some s
  | false=>match okS t with
   | false=>none
   | true=>match f s t with
    | some (s',t')=>goU thr okS f n s' t'
    | none=>none
theorem aYi {tb:String->Option Builtin}{p:Qr}{w:Q2}{n₀:Nat}{ann:Option Qd}: ∀{n:Nat} {s s':SharedT} {t:Thread},
  goU through (stepOk n₀ ann) (stepT (denote tb) p w) n s t=some s'->topRun tb p w n₀ ann n s.abs t=some s'.abs
 | 0,_,_,_,h=>by cases h
 | n+1,s,s',t,h=>by
  unfold goU at h;unfold topRun;cases ht:through t with
  | true=>rw[ht] at h;cases h;rfl
  | false=>
   rw[ht] at h;cases hk:stepOk n₀ ann t with
   | false=>rw[hk] at h;cases h
   | true=>
    rw[hk] at h;cases hs:stepT (denote tb) p w s t with
    | none=>rw[hs] at h;cases h
    | some r=>obtain⟨s₂,t₂⟩:=r;rw[hs] at h;rw[stepT_spec hs];exact aYi h
def T0 (P:Params):BT:=(((((((((((BT.nil.ins 0 (boot_o_0 P)).ins 1 (boot_o_1 P)).ins 2 (boot_o_2 P)).ins 3 (boot_o_3 P)).ins 4 (boot_o_4 P)).ins 5 (boot_o_5 P)).ins 6 (boot_o_6 P)).ins 7 (boot_o_7 P)).ins 8 (boot_o_8 P)).ins 9 (boot_o_9 P)).ins 10 (boot_o_10 P))
def S0 (w:Q2)(os:OsState):SharedT:=⟨T0 w.params,11,(boot_heap w.params).life,#[],boot_drawn,boot_toks,os⟩
theorem bI9 (w:Q2)(os:OsState):(S0 w os).abs=⟨boot_heap w.params,#[],boot_drawn,boot_toks,os⟩:=by kernel_rfl
theorem bJy (w:Q2):((boot_heap w.params).isNs Yp&&(#[]:Array GenState).size==0,(boot_heap w.params).objs.size,(boot_heap w.params).nsMap Yp "__annotations__")=(true,11,some (.ref 6)):=by kernel_rfl
theorem bE6 {p q:Qr}{loose:List Str}{Xt:Qf->Bool}{α:Type}{Yf:Qf->α}{Ya:Q2->α}{N:Nat}{g0:Bool}
  (open_: ∀w:Q2,(fencedOpening treeTable p w N).map (fun s=>(s.heap,s.gens,s.drawn,s.toks))=some (boot_heap w.params,#[],boot_drawn,boot_toks))
  (run: ∀w:Q2,(fun os=>(goU through (stepOk 11 (some (.ref 6))) (stepT (denote treeTable) p w) N (S0 w os) (topStub p)).map (fun s=>
   ((staticsOk (importedModules p.main.body) (boot_heap w.params) s.abs.heap&&namesBound p s.abs.heap&&gensDone s.abs&&laidKept (boot_heap w.params) s.abs.heap),
    openSeen q loose (importedModules p.main.body) Xt g0 s.abs,Yf s.abs)))=fun _=>some (true,openGood q loose,Ya w)):LeftO p q loose Xt Yf Ya N g0:=fun w=>by
 obtain⟨⟨h,gs,d,k,os⟩,e,e'⟩:=Option.map_eq_some_iff.mp (open_ w);obtain⟨rfl,rfl,rfl,rfl⟩:h=boot_heap w.params/\gs= #[]/\d=boot_drawn/\k=boot_toks:=by simpa using e'
 obtain⟨s,r,z⟩:=Option.map_eq_some_iff.mp (congrFun (run w) os);have r:=aYi r;rw[bI9] at r;obtain⟨z1,z2,z3⟩:_/\_/\_:=by simpa only[Prod.mk.injEq] using bJy w
 obtain⟨l1,l2,l3⟩:_/\_/\_:=by simpa only[Prod.mk.injEq] using z
 have t:topFrom treeTable p w N ⟨boot_heap w.params,#[],boot_drawn,boot_toks,os⟩=some s.abs:=by
  unfold topFrom
  dsimp only
  rw[z1,z2,z3,r];show (match staticsOk (importedModules p.main.body) (boot_heap w.params) s.abs.heap&&namesBound p s.abs.heap&&gensDone s.abs&&laidKept (boot_heap w.params) s.abs.heap with | true=>_ | false=>_)=_;rw[l1]
 unfold openEnds;rw[e];show (topFrom treeTable p w N _).map _=_;rw[t];exact congrArg some (Prod.ext l2 l3)
def vs (x:Str)(t:Nat):Qd:= .str x t
def vi (i:Int):Qd:= .int i 0
def de (P:Params)(x:Str)(t:Nat)(v:Qd):DictEntry:=⟨PyData.keyHash P x,.str x t,v⟩
def ob (c:String)(d:Data):Obj:={cls:= .type c,data:=d}
def od (n:Nat)(es:List DictEntry):Obj:={cls:= .type "dict",data:= .dict es.toArray n}
def ot (xs:List Qd):Obj:={cls:= .type "tuple",data:= .seq xs.toArray}
def ofd (c:String)(xs:List Qd):Obj:={cls:= .type c,data:= .fields xs.toArray}
def oc (x:Str)(xt:Nat)(q:Str)(a b c d e:Nat)(xs:List Qd)(f g h:Nat):Obj:=
 ofd "code" ([.str x xt,.str q a,.str "/claim/cut.py" b,vi c,vi d,vi 0,vi 0,vi e]++xs++ [vi f,vi g,.str "/claim/cut.py" h])
def of (x q:Str)(st:Stmt)(m:Str)(mt c:Nat):Obj:={cls:= .type "function",data:= .func (fnOf x q (aD7 st) (aCa st) (aAm st) .none .none .none (.str m mt) none (.ref c) .none)}
theorem holds_of {l:OpenLaw}{q:Qr}{d:DefRec}{K:Params->Frag}{as:List Addr}{e: ∀P,as=(K P).map (·.1)}{N:Nat}
  (left:LeftO l.prog q [] (fun s=>xlAt q [] s&&recOk (RowW.records l.row.toRowW) s) (Hook.obs (kHook K as e)) (Hook.val (kHook K as e)) N)
  (said:l.row.wellSaid=true) (hdef:defOf q l.row.name=some (d,[])) (hp:l.row.prog.theDef l.row.name=some (d.params,d.body,d.scope)) (hk:kwWritten? d.params.kwonlyargs d.params.kw_defaults=some [])
  (hwr:(!l.row.writes || l.row.records.isEmpty)=true) (ok:(chainsOk q&&opensWell l.row.prog&&(frees l.row.toRowW&&l.row.within.isEmpty))=true) (hb:l.row.prog.bare) (hw:l.row.toRowW.promised)
  (call:WalkO q [] (XL q []) (Hook.says (kHook K as e)) l.row.toRowW d [] fun f vs=>Up f vs):l.row.Holds:=
 holds_open (r:=l.row) (q:=q) (loose:=[]) (Xt:=fun s=>xlAt q [] s&&recOk (RowW.records l.row.toRowW) s) (XP:=XL q []) (Yf:=Hook.obs (kHook K as e)) (Ya:=Hook.val (kHook K as e)) (YP:=Hook.says (kHook K as e)) (N:=N)
  left (Hook.of (kHook K as e)) (Hook.keeps (kHook K as e)) (fun s e=>xl_of s (Bool.and_eq_true_iff.mp e).1) XL.keeps hdef hp hk (fun s e=>recFacts_of (Bool.and_eq_true_iff.mp e).2) hwr said ok hb hw call
theorem fo {K:Frag}{x q:Str}{st:Stmt}{f:Addr}{m:Str}{mt c:Nat}(ps:List Str)(l:K.lookup f=some (of x q st m mt c))(hc:codeIn K (.ref c) q=true)(hk:keepIn K (.ref f)=true)
  (b: ∀(kV doc pm:Qd) (an:Option Addr) (cdv ct:Qd) (us:List Qd),us.length=ps.length->bindArgs (fnOf x q (aD7 st) (aCa st) (aAm st) .none kV doc pm an cdv ct) ⟨us,[]⟩=pure (ps.zip us)): ∃fd,Fun K x q st f fd/\Binds K fd ps []:=
 ⟨_,bC6 (show K.lookup f=some ⟨_,_,.func (fnOf x q (aD7 st) (aCa st) (aAm st) .none .none .none (.str m mt) none (.ref c) .none),_⟩ from l) hc hk,(bC6 (show K.lookup f=some ⟨_,_,.func (fnOf x q (aD7 st) (aCa st) (aAm st) .none .none .none (.str m mt) none (.ref c) .none),_⟩ from l) hc hk).binds b⟩
end L2.HD
namespace L2.PU
open PySem PySem.Spec PyProof.Rows
theorem aUs (t:Zw)(es:Array (Int×Qd))(h:Int)(x:Qd):(layNew t es h x).2.1.led=t.led:=by
 unfold layNew;split
 ·unfold SetTable.orStandIn
  dsimp only
  split
  ·rfl
  ·rfl
 ·rfl
theorem aP5 (t:Zw)(es:Array (Int×Qd))(h:Int)(x:Qd):t.plain=false->(layNew t es h x).2.1.plain=false:=by
 intro hp;unfold layNew;split
 ·unfold SetTable.orStandIn
  dsimp only
  split
  ·exact hp
  ·rfl
 ·rfl
theorem aPq {t t':Zw}{hs:Array Int}{n:Nat}{o:Array Nat}(h:t.relaid hs n=some (t',o)):t'.led=t.led/\t'.plain=t.plain:=by
 unfold SetTable.relaid SetTable.laid at h;simp only[Option.bind_eq_bind,Option.bind_eq_some_iff] at h;obtain⟨a,_,e⟩:=h;cases e;exact⟨rfl,rfl⟩
theorem aWv (t:Zw)(es:Array (Int×Qd))(n:Nat):(relayAll t es n).2.1.led=t.led/\(t.plain=false->(relayAll t es n).2.1.plain=false):=by
 unfold relayAll;split
 ·rename_i t' order hr
  obtain⟨h1,h2⟩:=aPq hr
  dsimp only
  split
  ·exact⟨h1,fun q=>h2.trans q⟩
  ·exact⟨rfl,fun _=>rfl⟩
 ·exact⟨rfl,fun _=>rfl⟩
theorem aPh {w:Q2}{h h':Heap}{a:Addr}(x:aVc w h a)(e: ∀o,h.get? a=some o->h'.get? a=some o):aVc w h' a:=let ⟨o,g,r⟩:=x;⟨o,e o g,r⟩
section
variable {prog:Qr}{w:Q2}{A:Za}{E:Qd->Qf->Prop}{s:Qf}
theorem aTw {g:Bool->Sem Unit}(hg: ∀(b:Bool) (s₁:Qf) (Q':Unit->Qf->Prop),Q' () s₁->Qm (Ql prog w) A (g b) Q' E s₁)
  {a:Addr} {o:Obj} {es:Array (Int×Qd)} {ep:Nat} {t:Zw} (ho:s.heap.get? a=some o) (hex:o.ExactSet) (hd:o.data= .set es ep t)
  {es1:Array (Int×Qd)} {t2:Zw} {S':Str->Bool} (hel1:ElemsOf (Qk prog w) es1.toList) (hmem1: ∀k',S' k'=true↔∃e∈es1.toList,(Qk prog w).is k' e.2=true)
  (hb1:es1.size<scanBound) (hf2:t2.fits es1.size=true) (hl2:w.params.followText "set-order"=true\/t2.led=true) (hp2:t2.plain=false) {wasDummy:Bool} {R:Option Bool->Qf->Prop}
  (h: ∀h',Yg a s.heap h'->h'.SetOf (Qk prog w) a S' es1.size->aVc w h' a->R (some true) {s with heap:=h'}):
  Qm (Ql prog w) A (do
    storeSet a es1 t2
    if (!wasDummy&&t2.tooFull)=true then do
      g (relayAll t2 es1 (SetTable.grown es1.size)).2.2
      storeSet a (relayAll t2 es1 (SetTable.grown es1.size)).1 (relayAll t2 es1 (SetTable.grown es1.size)).2.1
      pure (some true)
     else pure (some true)) R E s:=by
 refine Qc (wpAny_storeSet_of ho hd ?_ (fits_of_scanBound hb1));obtain⟨ho1,z1⟩:=SetOf_store (knd:=Qk prog w) ho hex hd hel1 hmem1 hb1 hf2;have sb1:=Zt s.heap a (Obj.putSet es1 t2);split
 ·have hp:=relayAll_perm t2 es1 (SetTable.grown es1.size)
  have hfr:=relayAll_fits t2 es1 (SetTable.grown es1.size);obtain⟨r1,r2⟩:=aWv t2 es1 (SetTable.grown es1.size);generalize hRl:relayAll t2 es1 (SetTable.grown es1.size)=Rl at hp hfr r1 r2⊢;obtain⟨es2,t3,gave2⟩:=Rl
  dsimp only at hp hfr r1 r2⊢
  have hel2:=hel1.perm hp;have hmem2: ∀k',S' k'=true↔∃e∈es2.toList,(Qk prog w).is k' e.2=true:=fun k'=>(hmem1 k').trans ⟨fun⟨e,he,q⟩=>⟨e,hp.mem_iff.mpr he,q⟩,fun⟨e,he,q⟩=>⟨e,hp.mem_iff.mp he,q⟩⟩
  have hsz:es2.size=es1.size:=by rw[<-Zj,hp.length_eq,Zj]
  have hb2:es2.size<scanBound:=by rw[hsz];exact hb1
  refine Qc (hg _ _ _ (Qc (wpAny_storeSet_of ho1 rfl ?_ (fits_of_scanBound hb2))));obtain⟨o2,z2⟩:=SetOf_store (knd:=Qk prog w) ho1 hex rfl hel2 hmem2 hb2 hfr;rw[hsz] at z2;exact Qe (h _ (sb1.trans (Zt _ a _)) z2 ⟨_,o2,_,_,_,rfl,by rw[r1];exact hl2,.inr (r2 hp2)⟩)
 ·exact Qe (h _ sb1 z1 ⟨_,ho1,_,_,_,rfl,hl2,.inr hp2⟩)
theorem bB9 {a:Addr}{S:Str->Bool}{n:Nat}{k:Str}{u:Tok}{Q:Bool->Qf->Prop}(zS:s.heap.SetOf (Qk prog w) a S n)(zT:aVc w s.heap a)(hroom:n+1<scanBound)
  (h: ∀h',Yg a s.heap h'->h'.SetOf (Qk prog w) a (fun k'=>S k' || decide (k'=k)) (if S k then n else n+1)->aVc w h' a->Q (!S k) {s with heap:=h'}):
  Qm (Ql prog w) A (setAddHashed a (.str k u) ((Qk prog w).hash k)) Q E s:=by
 have hkey:(Qk prog w).is k (.str k u)=true:=by simp[Qk,Value.isStrOf]
 have hsc:(Ym k u).scannable=true:=rfl;obtain⟨o,es,ep,t,ho,hex,hd,hel,hmem,hb,hf,hn⟩:=id zS;obtain⟨o',ho',es',ep',t',hd',bJf,hpl⟩:=id zT;rw[ho] at ho';cases ho';rw[hd] at hd';cases hd';have hb1:es.size+1<scanBound:=by rw[hn];exact hroom
 unfold setAddHashed setAddHashedIn;refine Z8 (Qc (Yc ho hd hf ?_))
 dsimp only
 rw[byScan_of hsc hb hel];simp only[↓reduceIte];unfold setAddByScan;refine Qc (Qc (wpAny_rule (Qc (wpAny_setScan_of hkey ho hd hf hel ?_))));cases hr:List.findIdx? (fun e=>(Qk prog w).is k e.2) es.toList with
 | some j=>
  dsimp only
  obtain⟨hj,hpj,_⟩:=List.findIdx?_eq_some_iff_getElem.mp hr;have hSk:S k=true:=(hmem k).mpr ⟨es.toList[j],List.getElem_mem hj,hpj⟩;refine Qe (Qe ?_);have e:s={s with heap:=s.heap}:=by cases s;rfl
  have:=h s.heap (Heap.SameBut.refl a s.heap) ⟨o,es,ep,t,ho,hex,hd,hel,fun k'=>by
   rw[Z1,decide_eq_true_eq,<-hmem k'];exact⟨fun hk=>hk.elim id (fun e=>e▸hSk),.inl⟩,hb,hf,by rw[hSk];exact hn⟩ zT
  rw[hSk] at this;rw[e];exact this
 | none=>
  dsimp only
  have hSk:S k=false:=by
   cases hk:S k with
   | false=>rfl
   | true=>obtain⟨e,he,hp⟩:=(hmem k).mp hk;have:=List.findIdx?_eq_none_iff.mp hr e he;rw[hp] at this;exact Yi this
  have hgw: ∀(b:Bool) {s₁:Qf} {Q':Unit->Qf->Prop},Q' () s₁->Qm (Ql prog w) A (match b with | true=>rule "set.scan.the-table-gave-way" | false=>pure ()) Q' E s₁:=
   fun b s₁ Q' hq=>by cases b<;>first | exact Qe hq | exact wpAny_rule hq
  have hperm:=layNew_perm t es ((Qk prog w).hash k) (.str k u);have hfits:=layNew_fits t es ((Qk prog w).hash k) (.str k u);have bBo:=aUs t es ((Qk prog w).hash k) (.str k u);have bL3:=aP5 t es ((Qk prog w).hash k) (.str k u);generalize hL:layNew t es ((Qk prog w).hash k) (.str k u)=L at hperm hfits bBo bL3⊢;obtain⟨es1,t1,wasDummy,gave⟩:=L
  dsimp only at hperm hfits bBo bL3⊢
  rw[Wg] at hperm;have hel1:=(hel.push hkey hsc).perm hperm;have hmem1: ∀k',(S k' || decide (k'=k))=true↔∃e∈es1.toList,(Qk prog w).is k' e.2=true:=mem_push_iff hkey hmem hperm;have hb1':es1.size<scanBound:=by rw[<-Zj,hperm.length_eq,Qx,Zj];simpa using hb1
  refine Qc (hgw _ ?_);have hsz1:es1.size=n+1:=by rw[<-Zj,hperm.length_eq,Qx,Zj,hn];rfl
  have hend: ∀h',Yg a s.heap h'->h'.SetOf (Qk prog w) a (fun k'=>S k' || decide (k'=k)) es1.size->aVc w h' a->Q true {s with heap:=h'}:=by
   intro h' hsb z' zt;have:=h h' hsb;rw[hSk] at this;rw[hsz1] at z';exact this z' zt
  split
  ·refine Qc ?_
   rw[hashByValue_scannable 8 hsc];refine Qe ?_;refine aTw ?_ ho hex hd hel1 hmem1 hb1' ?_ ?_ ?_ ?_
   ·intro b s₁ Q' hq;cases b<;>first | exact Qe hq | exact wpAny_rule hq
   ·exact SetTable.fits_plain_off hfits
   ·show _\/t1.led=true
    rw[bBo];exact bJf
   ·rfl
   ·intro h' hsb z' zt;dsimp only;exact Qe (hend h' hsb z' zt)
  ·rename_i hnp
   refine Qc (Qe ?_);simp only[↓reduceIte];refine aTw ?_ ho hex hd hel1 hmem1 hb1' hfits ?_ ?_ ?_
   ·intro b s₁ Q' hq;cases b<;>first | exact Qe hq | exact wpAny_rule hq
   ·rw[bBo];exact bJf
   ·exact Bool.eq_false_iff.mpr hnp
   ·intro h' hsb z' zt;dsimp only;exact Qe (hend h' hsb z' zt)
end
def aQ0 (σ:List Str)(v:Str):List Str:=if σ.contains v then σ else σ++ [v]
def aFj (vs:List Str):List Str:=vs.foldl aQ0 []
theorem aXl (vs:List Str)(v:Str):aFj (vs++ [v])=aQ0 (aFj vs) v:=by unfold aFj;rw[List.foldl_append];rfl
theorem bCa (σ:List Str)(v k:Str):(aQ0 σ v).contains k=(σ.contains k || decide (k=v)):=by
 unfold aQ0;by_cases h:σ.contains v=true
 ·rw[if_pos h]
  by_cases e:k=v
  ·subst e;rw[h];simp
  ·simp[e]
 ·rw[if_neg h]
  by_cases e:k=v
  ·subst e;simp
  ·simp[e,List.contains_iff_mem]
theorem aTx (σ:List Str)(v:Str):(aQ0 σ v).length=if σ.contains v then σ.length else σ.length+1:=by unfold aQ0;split<;>simp
theorem aXm (vs:List Str):(aFj vs).length<=vs.length:=by
 have g: ∀(vs σ:List Str),(vs.foldl aQ0 σ).length<=σ.length+vs.length:=by
  intro vs
  induction vs with
  | nil=>intro σ;exact Qn _
  | cons v vs ih=>
   intro σ;rw[Jm];have h1:=ih (aQ0 σ v);have h2:(aQ0 σ v).length<=σ.length+1:=by rw[aTx];split<;>omega
   rw[Q4];omega
 have:=g vs [];unfold aFj
 simpa using this
section
variable {prog:Qr}{w:Q2}{A:Za}{R:Result->Qf->Prop}{I:Addr}{fp wr:List Addr}{G:Array GenState->Array GenState->Prop}{n:Nat}{P:Nat->Qd->Prop}{St:Nat->Qf->Prop}
theorem aNj {h:Heap}{a:Addr}{σ τ:List Str}{m:Nat}{S:Str->Bool}(z:h.SetOf (Qk prog w) a S m)(e: ∀k,S k=τ.contains k)(en:m=τ.length):h.SetOf (Qk prog w) a (fun k=>τ.contains k) τ.length:=by
 have e':S=fun k=>τ.contains k:=funext e
 subst e' en;exact z
theorem aNk {h h':Heap}{a:Addr}{m:Nat}{S:Str->Bool}(z:h.SetOf (Qk prog w) a S m)(e: ∀o,h.get? a=some o->h'.get? a=some o):h'.SetOf (Qk prog w) a S m:=by
 obtain⟨o,es,ep,t,ho,rest⟩:=z;exact⟨o,es,ep,t,e o ho,rest⟩
theorem bAc (W:WalksS prog w A.in1 I fp wr G n P St)(S:Addr)(hSf:S∉fp)(vs:List Str)(hn:vs.length=n)(hval: ∀i v,P i v->∃t,v= .str (vs.getD i Zr) t)(hb:n+1<scanBound):
  ∀(k i:Nat) (s:Qf),n-i=k->i<=n->St i s->s.heap.SetOf (Qk prog w) S (fun k=>(aFj (vs.take i)).contains k) (aFj (vs.take i)).length->aVc w s.heap S->
   (∀s',Moved (S::wr) G s s'->s'.heap.SetOf (Qk prog w) S (fun k=>(aFj vs).contains k) (aFj vs).length->aVc w s'.heap S->R (.ok (.ret .none)) s')->
   codeAny (Ql prog w) A (.builtin "set.update.loop" ⟨[.ref S,.ref I],[]⟩) R s:=by
 have nw:S∉wr:=fun z=>hSf (W.sub _ z)
 have up: ∀b∈wr,b∈S::wr:=fun b q=>Qw _ q
 intro k
 induction k with
 | zero=>
  intro i s hk hi st zS zT q;have ei:i=n:=by omega
  subst ei;rw[<-hn,List.take_length] at zS;refine Y3 Ju ?_;rw[Around.under_plainId Yx _];show Qm _ A.in1 (pyNext (.ref I)>>=_) _ _ s;refine Qc (W.done s _ _ st fun s' m=> ?_);exact Qe (q s' (m.mono up) (aNk zS fun o e=>m.heap S o nw e) (aPh zT fun o e=>m.heap S o nw e))
 | succ k ih=>
  intro i s hk hi st zS zT q;have lt:i<n:=by omega
  refine Y3 Ju ?_;rw[Around.under_plainId Yx _];show Qm _ A.in1 (pyNext (.ref I)>>=_) _ _ s;refine Qc (W.item i s _ _ lt st fun v s' hP st' m=> ?_);obtain⟨t,rfl⟩:=hval i v hP;have zS':=aNk zS fun o e=>m.heap S o nw e
  have zT':=aPh zT fun o e=>m.heap S o nw e
  show Qm _ A.in1 (holding [Ym (vs.getD i Zr) t] (setAdd S (.str (vs.getD i Zr) t))>>=_) _ _ s';refine Qc (Z8 ?_);unfold setAdd;have key:(Qk prog w).is (vs.getD i Zr) (.str (vs.getD i Zr) t)=true:=by simp[Qk,Value.isStrOf]
  refine Z8 (Qc ((Qk prog w).pyHash key ?_));have room:(aFj (vs.take i)).length+1<scanBound:=by
   have:=aXm (vs.take i);rw[Zu] at this;omega
  refine bB9 (s:={s' with toks:=s'.toks+1}) zS' zT' room fun h' sb z2 zt2=> ?_
  have es:aFj (vs.take (i+1))=aQ0 (aFj (vs.take i)) (vs.getD i Zr):=by
   have hlt:i<vs.length:=by omega
   rw[<-aXl,List.take_succ,Q3 hlt,Zz,Q3 hlt];rfl
  have z3:h'.SetOf (Qk prog w) S (fun k=>(aFj (vs.take (i+1))).contains k) (aFj (vs.take (i+1))).length:=
   aNj (σ:=[]) z2 (fun k'=>by rw[es,bCa]) (by rw[es,aTx])
  refine Qe ⟨plainId_quiet Yx _,ih (i+1) _ (by omega) lt (W.frame _ s' _ _ st' (Jf _) fun b hb' o e=> ?_) z3 zt2 fun s'' m'' z'' bL9=> ?_⟩
  ·rw[sb.2 b (fun z:b=S=>hSf (by rw[<-z];exact hb'))];exact e
  ·refine q s'' (Moved.trans W.gtrans ((m.mono up).then_heap (Jf _) fun b o hb' e=> ?_) m'') z'' bL9
   rw[sb.2 b (fun z:b=S=>hb' (by rw[z];exact Qt))];exact e
end
def bH7 (w:Q2):Bool:= !w.params.followText "set-order"
abbrev aZq (led:Bool):Obj:={cls:= .type "set",dict:=none,data:= .set #[] 0 (.fresh 0 0 led)}
theorem sub_tuple_set:isSubtype (.type "tuple") (.type "set")=pure false:=by rw[isSubtype_type];kernel_rfl
theorem sub_tuple_frozenset:isSubtype (.type "tuple") (.type "frozenset")=pure false:=by rw[isSubtype_type];kernel_rfl
theorem aZ8 {w:Q2}{h:Heap}{a:Addr}(e:h.get? a=some (aZq (bH7 w))):aVc w h a:=by
 refine⟨_,e,#[],0,_,rfl,?_,.inl rfl⟩;show _\/bH7 w=true;unfold bH7;cases w.params.followText "set-order"<;>simp
section
variable {prog:Qr}{w:Q2}{A:Za}{E:Qd->Qf->Prop}{s:Qf}
theorem aQm (a:Qd){Q₁:Qd->Qf->Prop}(h:Q₁ (.ref s.heap.objs.size) {s with heap:=s.heap.push (aZq (bH7 w))}):
  codeAny (Ql prog w) A (.call (.builtin "set.__new__") ⟨[.type "set",a],[]⟩) (wants Q₁ E) s:=by
 refine codeAny_of_tree (show Qm _ A.in1 (do checkBuiltinCall "set.__new__" ⟨[.type "set",a],[]⟩;again (.builtin "set.__new__" ⟨[.type "set",a],[]⟩)) _ _ s from ?_);refine Qc (wpAny_of_eq (F.newCall_set_1 a) (Qe ⟨plainId_quiet F.plain_set_new _,Y3 F.entry_set_new ?_⟩));rw[Around.under_plainId F.plain_set_new _];unfold Builtin.«set.__new__» Builtin.Frozenset.newClass;have hsub:=sub_set_self;obtain⟨hp,g,d,tk,os⟩:=s
 dsimp only
 wp_walk
 refine wpAny_askSetting (Qe ?_)
 dsimp only
 simp only[newObj];exact Qc (wpAny_alloc (Qe (Qe h)))
theorem bAf {l:Addr}{items:Array Qd}{T:String}{o:Obj}{nn:Nat}{Q:Qd->Qf->Prop}(hT:T="list"\/T="tuple")(hh:A.handled=none)(ho:s.heap.get? l=some o)(hc:o.cls= .type T)(hd:o.data= .seq items nn)
  (h: ∀(ob:Obj) (St:Nat->Heap->Prop),(∀A',A'.handled=none->Walks prog w A' s.heap.objs.size [s.heap.objs.size,l] [s.heap.objs.size] items.size (fun i v=>items[i]? =some v) St)->St 0 (s.heap.push ob)->Q (.ref s.heap.objs.size) {s with heap:=s.heap.push ob}):
  Qm (Ql prog w) A (pyIter (.ref l)) Q E s:=by
 have lt:l<s.heap.objs.size:=Qp ho;rcases hT with rfl | rfl
 ·have hl:s.heap.IsList l items:=⟨o,ho,hc,nn,hd⟩
  exact wpAny_pyIter_list hl (h _ _ (fun A' hA=>Walks.list hA _ l (Qy lt) items) ⟨⟨_,Qs _ rfl,rfl,rfl⟩,hl.push _⟩)
 ·have hl:s.heap.IsTuple l items:=⟨o,ho,hc,nn,hd⟩
  exact wpAny_pyIter_tuple hl (h _ _ (fun A' hA=>Walks.tuple hA _ l (Qy lt) items) ⟨⟨_,Qs _ rfl,rfl,rfl⟩,hl.push _⟩)
theorem aQp {l:Addr}{items:Array Qd}{T:String}{o:Obj}{nn:Nat}{vs:List Str}{Q:Qd->Qf->Prop}(hT:T="list"\/T="tuple")(hh:A.handled=none)(ho:s.heap.get? l=some o)(hc:o.cls= .type T)(hd:o.data= .seq items nn)
  (hv: ∀(i:Nat) (v:Qd),items[i]? =some v->∃t,v=Ym (vs.getD i Zr) t) (hn:vs.length=items.size) (hb:items.size+1<scanBound)
  (h: ∀(h':Heap) (tk:Nat),h'.SetOf (Qk prog w) s.heap.objs.size (fun k=>(aFj vs).contains k) (aFj vs).length->aVc w h' s.heap.objs.size->(∀b u,s.heap.get? b=some u->h'.get? b=some u)->Q (.ref s.heap.objs.size) {s with heap:=h',toks:=tk}):
  Qm (Ql prog w) A (call (.type "set") [.ref l]) Q E s:=by
 obtain⟨c,tl,hmro⟩:=F.called_set.mro;have hmade:=F.called_set.made;have hsub:=F.called_set.sub;have lt:l<s.heap.objs.size:=Qp ho;refine wpAny_call (codeAny_of_tree ?_);show Qm _ _ (callAny (.type "set") _) _ _ _;refine Qe ⟨Code.quiet_builtin _ (by decide+kernel),Y3 F.entry_type_call ?_⟩;rw[Around.under_plain (weight_type_call_type "set" [.ref l] []) rfl];have h1:=F.called_set.notType;have h2:=F.called_set.canCreate;have hct:=F.typeCall_set_1 (.ref l)
 repeat (any_goals (first | assumption | wp_step))
 refine codeAny_mono (aQm (.ref l) (E:=E) (Q₁:=fun obj s₁=> ∃led:Bool,led=bH7 w/\obj= .ref s.heap.objs.size/\s₁={s with heap:=s.heap.push (aZq led)}) ⟨_,rfl,rfl,rfl⟩) fun r s₁ hr=> ?_
 cases r with
 | error e=>exact hr
 | ok fl=>
  cases fl with
  | ret obj=>
   obtain⟨led,bJf,rfl,rfl⟩:=hr;have zS:(s.heap.push (aZq led)).get? s.heap.objs.size=some (aZq led):=Qs _ rfl;have tS:Shared.TypeIs {s with heap:=s.heap.push (aZq led)} (.ref s.heap.objs.size) "set":=⟨_,zS,rfl⟩;have hli:=F.called_set.init.lookup;have hbi:=F.called_set.init.bind (.ref s.heap.objs.size)
   repeat (any_goals (first | assumption | wp_step))
   refine codeAny_mono (codeAny_call_builtin (R:=wants (fun r s₂=>r= .none/\∃h' tk,s₂={s with heap:=h',toks:=tk}/\h'.SetOf (Qk prog w) s.heap.objs.size (fun k=>(aFj vs).contains k) (aFj vs).length/\aVc w h' s.heap.objs.size/\
     (∀b u,s.heap.get? b=some u->h'.get? b=some u)) E) F.called_set.init.plain F.entry_set_init (check_set_init_1 tS ?_)) fun r₂ s₂ hr₂=> ?_
   ·have ho':(s.heap.push (aZq led)).get? l=some o:=Qh _ ho
    have tL:Shared.TypeIs {s with heap:=s.heap.push (aZq led)} (.ref l) T:=⟨o,ho',hc⟩;have ns:isSubtype (.type T) (.type "set")=pure false:=by rcases hT with rfl | rfl<;>first | exact F.sub_list_set | exact sub_tuple_set
    have nf:isSubtype (.type T) (.type "frozenset")=pure false:=by rcases hT with rfl | rfl<;>first | exact F.sub_list_frozenset | exact sub_tuple_frozenset
    have nd:(Value.type T==Value.type "dict")=false:=by rcases hT with rfl | rfl<;>decide
    unfold Builtin.«set.__init__» noKeywords Builtin.Frozenset.updateFrom;generalize hPI:pyIter=PI
    wp_walk
    subst hPI;refine bAf (A:=A.in1.in1) hT (by simp[hh]) ho' hc hd fun ob St W st0=> ?_
    refine Qc (wpAny_runValue ?_);have sz:(s.heap.push (aZq led)).objs.size=s.heap.objs.size+1:=Heap.size_push _ _;have apart:s.heap.objs.size∉[(s.heap.push (aZq led)).objs.size,l]:=by
     rw[sz];simp only[Y9,Yr,or_false,not_or];exact⟨by omega,Uh lt⟩
    refine bAc ((W _ (by simp[hh])).toS) s.heap.objs.size apart vs hn (fun i v q=>hv i v q) hb (items.size-0) 0 _ (by omega) (Y5 _) st0 ?_ ?_ fun s' m z' zt'=> ?_
    ·exact aNj (σ:=[]) (τ:=[]) ((PyProof.Rows.setObjOf_fresh (knd:=Qk prog w) led).setOf (Qh _ zS) (by decide)) (fun _=>rfl) rfl
    ·exact aZ8 (by rw[<-bJf];exact Qh _ zS)
    ·obtain⟨h',g',d',tk',os'⟩:=s'
     have eg:g'=s.gens:=m.gens;have ed:d'=s.drawn:=m.drawn;have eo:os'=s.os:=m.os;subst eg ed eo;refine Qe (show Qm _ _ (ret Value.none) _ _ _ from Qe ⟨rfl,h',tk',rfl,z',zt',fun b u q=> ?_⟩);have lb:=Qp q;refine m.heap b u ?_ (Qh _ (Qh _ q));rw[sz];simp only[Y9,Yr,or_false,not_or];have lb':b<s.heap.objs.size:=lb;exact⟨Qy lb',Qy (Ui lb')⟩
   ·cases r₂ with
    | error e=>exact hr₂
    | ok fl₂=>
     cases fl₂ with
     | ret r=>
      obtain⟨rfl,h',tk,rfl,z',zt',k'⟩:=hr₂
      repeat (any_goals (first | assumption | wp_step))
      exact h _ _ z' zt' k'
     | _=>exact hr₂.elim
  | _=>exact hr.elim
end
theorem aQh:entryFor table "set.__ne__"=some Builtin.«frozenset.__ne__»:=
 entryFor_alias (id':="frozenset.__ne__") (by kernel_rfl) rfl (by decide+kernel) (by kernel_rfl)
section
variable {prog:Qr}{w:Q2}{A:Za}{E:Qd->Qf->Prop}{s:Qf}
theorem aQ3 {a b:Addr}{o1 o2:Obj}{es1 es2:Array (Int×Qd)}{ep1 ep2:Nat}{t1 t2:Zw}{Q:List (Int×Qd)->Qf->Prop}(h1:s.heap.get? a=some o1)(d1:o1.data= .set es1 ep1 t1)(f1:t1.fits es1.size=true)(el1:ElemsOf (Qk prog w) es1.toList)
  (h2:s.heap.get? b=some o2) (d2:o2.data= .set es2 ep2 t2) (f2:t2.fits es2.size=true) (el2:ElemsOf (Qk prog w) es2.toList) (q:Q es1.toList s):Qm (Ql prog w) A (Builtin.Frozenset.walkUnseen a b) Q E s:=by
 unfold Builtin.Frozenset.walkUnseen;refine Qc (Zh h1 d1 f1 ?_);refine Qc (Zh h2 d2 f2 ?_);have tx: ∀e∈es1.toList++es2.toList,∃z t,e.2=Ym z t:=fun e he=>by
  rcases List.mem_append.mp he with he | he
  ·obtain⟨⟨z,hz,_⟩,_⟩:=el1 e he
   exact⟨z,Zx hz⟩
  ·obtain⟨⟨z,hz,_⟩,_⟩:=el2 e he
   exact⟨z,Zx hz⟩
 refine Qc (wpAny_forIn_list _ (fun rest st s'=>s'=s/\st=(none,())/\∀e∈rest,∃z t,e.2=Ym z t) _ (fun e rest st s' ⟨e1,e2,he⟩=> ?_) (fun st s' ⟨e1,e2,_⟩=> ?_) _ _ ⟨rfl,rfl,tx⟩)
 ·subst e1 e2
  obtain⟨hv,v⟩:=e;obtain⟨z,t,ev⟩:=he _ Qt
  dsimp only at ev
  subst ev;show Qm _ _ (Builtin.Frozenset.quietEq (.str z t)>>=_) _ _ _;refine Qc (show Qm _ _ (pure true) _ _ _ from Qe ?_);exact Qe ⟨rfl,rfl,fun e q=>he e (Qw _ q)⟩
 ·subst e1 e2
  exact Qe q
def bIk (y:List Str):Int×Qd->Bool
 |(_,.str k _)=>y.contains k
 | _=>false
theorem bF7 {es:List (Int×Qd)}{x y:List Str}(el:ElemsOf (Qk prog w) es)(m: ∀k,x.contains k=true↔∃e∈es,(Qk prog w).is k e.2=true):(x.all fun k=>y.contains k)=es.all (bIk y):=by
 rw[Jd,Uk,Uk]
 constructor
 ·intro h e he
  obtain⟨⟨z,hz,_⟩,_⟩:=el e he;obtain⟨t,ez⟩:=Zx hz;obtain⟨i,v⟩:=e
  dsimp only at ez hz
  subst ez;exact h z (List.contains_iff_mem.mp ((m z).mpr ⟨_,he,hz⟩))
 ·intro h k hk
  obtain⟨e,he,hz⟩:=(m k).mp (List.contains_iff_mem.mpr hk);obtain⟨t,ez⟩:=Zx hz;have:=h e he;obtain⟨i,v⟩:=e
  dsimp only at ez
  subst ez;exact this
theorem aQ9 {a b:Addr}{x y:List Str}{Q:Qd->Qf->Prop}(zx:s.heap.SetOf (Qk prog w) a (fun k=>x.contains k) x.length)(zy:s.heap.SetOf (Qk prog w) b (fun k=>y.contains k) y.length)
  (q:Q (.bool (!(decide (x.length=y.length)&&x.all fun k=>y.contains k))) s):Qm (Ql prog w) A (Builtin.«frozenset.__ne__» ⟨[.ref a,.ref b],[]⟩) (fun fin s'=> ∃r,fin= .done (.ret r)/\Q r s') E s:=by
 obtain⟨⟨c1,d1,x1,l1⟩,es1,ep1,t1,o1,⟨k1,_,_⟩,e1,el1,m1,b1,f1,n1⟩:=id zx;obtain⟨⟨c2,d2,x2,l2⟩,es2,ep2,t2,o2,⟨k2,_,_⟩,e2,el2,m2,b2,f2,n2⟩:=id zy
 dsimp only at k1 e1 k2 e2
 subst k1 e1 k2 e2;have hs:=sub_set_self;have hf:=F.sub_set_frozenset;unfold Builtin.«frozenset.__ne__»
 wp_walk using Zh o1 rfl f1,Zh o2 rfl f2,Zb o1,Zb o2
 by_cases hz:es1.size=es2.size
 ·rw[if_neg (by simp[hz])]
  unfold Builtin.Frozenset.subsetOf
  wp_walk using Zh o1 rfl f1,Zh o2 rfl f2,Zb o1,Zb o2
  have eq:(decide (x.length=y.length)&&x.all fun k=>y.contains k)=es1.toList.all (bIk y):=by
   have e:decide (x.length=y.length)=true:=decide_eq_true (by omega);rw[e,Ux,bF7 el1 m1]
  rw[eq] at q;rw[if_neg (by omega)];refine Qc (wpAny_setEpoch_of o1 rfl f1 ?_);refine Qc (aQ3 o1 rfl f1 el1 o2 rfl f2 el2 ?_);refine Qc (wpAny_forIn_list _ (fun rest st s'=>s'=s/\st=(none,())/\(∀e∈rest,e∈es1.toList)/\es1.toList.all (bIk y)=rest.all (bIk y)) _ (fun e rest st s' ⟨e1,e2,he,ha⟩=> ?_) (fun st s' ⟨e1,e2,_,ha⟩=> ?_) _ _ ⟨rfl,rfl,fun _ q=>q,rfl⟩)
  ·subst e1 e2
   obtain⟨⟨z,hz,hh⟩,sc⟩:=el1 e (he e Qt);obtain⟨t,ez⟩:=Zx hz;obtain⟨i,v⟩:=e
   dsimp only at ez hz hh sc
   subst ez hh;show Qm _ _ (holding [Ym z t] (setFind b (.str z t) ((Qk prog w).hash z))>>=_) _ _ _;refine Qc (Z8 (wpAny_setFind_of hz sc zy fun r hr=> ?_));cases hc:y.contains z with
   | true=>
    rw[hc] at hr;have hn:¬r.isNone=true:=by cases r<;>simp_all
    rw[if_neg hn];unfold Builtin.Frozenset.unchanged;refine Qc (Qc (wpAny_setEpoch_of o1 rfl f1 ?_));rw[if_neg (by simp)];refine Qe (Qe ⟨rfl,rfl,fun e q=>he e (Qw _ q),?_⟩);rw[ha,Ja];show (y.contains z&&_)=_;rw[hc,Ux]
   | false=>
    rw[hc] at hr;have hn:r.isNone=true:=by cases r<;>simp_all
    rw[if_pos hn];refine Qe (Qe (Qe ⟨_,rfl,?_⟩));have e0:es1.toList.all (bIk y)=false:=by
     rw[ha,Ja];show (y.contains z&&_)=_;rw[hc,Us]
    rw[e0] at q;exact q
  ·subst e1 e2
   refine Qe (Qe ⟨_,rfl,?_⟩);rw[ha] at q;exact q
 ·rw[if_pos (by simp[hz])]
  refine Qe (Qe ⟨_,rfl,?_⟩);have e:decide (x.length=y.length)=false:=decide_eq_false (by omega);rw[e] at q;exact q
end
theorem aBg:PySem.Slot "set_iterator" "__next__" "set_iterator.__next__":= .of (owner:="set_iterator") (n:="__next__") (by rw[typeLookup_type,builtinLookup_eq_fast];kernel_rfl) (by decide+kernel) (by decide+kernel) (by decide+kernel) (by first | exact .inl (by decide+kernel) | exact .inr (by decide+kernel)) (by rw[isSubtype_type];kernel_rfl)
theorem aJt:PySem.Slot "set_iterator" "__iter__" "set_iterator.__iter__":= .of (owner:="set_iterator") (n:="__iter__") (by rw[typeLookup_type,builtinLookup_eq_fast];kernel_rfl) (by decide+kernel) (by decide+kernel) (by decide+kernel) (by first | exact .inl (by decide+kernel) | exact .inr (by decide+kernel)) (by rw[isSubtype_type];kernel_rfl)
theorem aDu:entryFor table "set_iterator.__next__"=some Builtin.«set_iterator.__next__»:=entryFor_of_tree (by kernel_rfl)
theorem aOv:entryFor table "set_iterator.__iter__"=some Builtin.«dict_keyiterator.__iter__»:=entryFor_alias (id':="dict_keyiterator.__iter__") (by kernel_rfl) rfl (by decide+kernel) (by kernel_rfl)
theorem aEf (a:Qd):argsOk "set_iterator.__next__" ⟨[a],[]⟩:=by unfold argsOk;kernel_rfl
theorem aQw (a:Qd):argsOk "set_iterator.__iter__" ⟨[a],[]⟩:=by unfold argsOk;kernel_rfl
theorem aNc:entryFor table "set.__iter__"=some Builtin.«frozenset.__iter__»:=entryFor_alias (id':="frozenset.__iter__") (by kernel_rfl) rfl (by decide+kernel) (by kernel_rfl)
theorem aO2 (a:Qd):argsOk "set.__iter__" ⟨[a],[]⟩:=by unfold argsOk;kernel_rfl
section
variable {prog:Qr}{w:Q2}{A:Za}{E:Qd->Qf->Prop}{s:Qf}
theorem aNz {α:Type}{l:List α}{i:Nat}(h:i<l.length):(l[i]::l.eraseIdx i).Perm l:=by
 rw[List.eraseIdx_eq_take_drop_succ];have e:l.take i++l[i]::l.drop (i+1)=l:=by rw[<-Jr h,List.take_append_drop]
 have p:= @List.perm_middle α l[i] (l.take i) (l.drop (i+1));rw[e] at p;exact p.symm
theorem aPe {src:Source}{n:Nat}{Q:Nat->Qf->Prop}(h0:n≠0)(h: ∀i,i<n->∀d,Q i {s with drawn:=d}):Qm (Ql prog w) A (choose src n) Q E s:=by
 intro Γ p hΓ;unfold choose;rw[Sem.wp_choose];refine⟨h0,?_⟩;exact h _ (Nat.mod_lt _ (Nat.pos_of_ne_zero h0)) _
theorem aU6 {α:Type}(n:Nat): ∀(xs:List α) (s:Qf) (Q:List α->Qf->Prop),xs.length=n->(∀ys d,ys.Perm xs->Q ys {s with drawn:=d})->Qm (Ql prog w) A (drawOrder n xs) Q E s:=by
 induction n with
 | zero=>
  intro xs s Q hn h;cases xs with
  | cons _ _=>rw[Q4] at hn;exact absurd hn (Nat.succ_ne_zero _)
  | nil=>
   unfold drawOrder;exact Qe (h [] s.drawn (List.Perm.refl _))
 | succ n ih=>
  intro xs s Q hn h;cases xs with
  | nil=>exact absurd hn.symm (Nat.succ_ne_zero _)
  | cons x xs=>
   unfold drawOrder;refine Qc (aPe (by simp) fun i hi d=> ?_);rw[Q3 hi]
   dsimp only
   refine Qc (ih ((x::xs).eraseIdx i) _ _ ?_ fun ys d' hp=>Qe ?_)
   ·rw[Ur hi];omega
   ·refine h _ d' ?_
    exact (List.Perm.cons _ hp).trans (aNz hi)
theorem aPs {α:Type}(next:Nat->Nat): ∀(n k:Nat) (left:List α) (out:Array α),left.length=n->(pickOrder.go next n k left out).toList.Perm (out.toList++left)
 | 0,k,[],out,_=>by unfold pickOrder.go;simp
 | n+1,k,x::left,out,hn=>by
  unfold pickOrder.go;have hl:next k%(x::left).length<(x::left).length:=Nat.mod_lt _ (by simp);rw[Q3 hl]
  dsimp only
  refine (aPs next n (k+1) _ _ ?_).trans ?_
  ·rw[Ur hl];omega
  ·rw[Wg,Yo]
   exact List.Perm.append_left _ (aNz hl)
theorem aJb {α:Type}(next:Nat->Nat)(es:Array α):(pickOrder next es).toList.Perm es.toList:=by
 have:=aPs next es.size 0 es.toList #[] (by simp)
 simpa[pickOrder] using this
def aVe (h:Heap)(it:Addr)(first:Qd)(i:Int)(a:Addr)(n ep:Int):Prop:= ∃o,h.get? it=some o/\o.cls= .type "set_iterator"/\o.data= .fields #[first,Zm i,.ref a,Zm n,Zm ep]
def aMe (h:Heap)(a:Addr)(es:Array (Int×Qd))(ep:Nat)(t:Zw):Prop:= ∃o,h.get? a=some o/\o.data= .set es ep t
theorem aQ8 {it a:Addr}{first:Qd}{i n ep:Int}{Q:Qd->Qf->Prop}(hi:aVe s.heap it first i a n ep)(q:Q (.ref it) s):Qm (Ql prog w) A (pyIter (.ref it)) Q E s:=by
 obtain⟨o,ho,hc,hd⟩:=hi;have hT:s.TypeIs (.ref it) "set_iterator":=⟨o,ho,hc⟩;refine wpAny_pyIter_slot hT aJt (Zn aJt hT aOv ?_ (aQw _));exact Qe ⟨_,rfl,"set_iterator",_,hT,aBg.lookup,q⟩
theorem aN9 {it a tp:Addr}{π:List Nat}{i:Nat}{es:Array (Int×Qd)}{ep:Nat}{t:Zw}{k:Nat}{hv:Int}{x:Qd}{Q:Option Qd->Qf->Prop}(hi:aVe s.heap it (.ref tp) i a es.size ep)(hs:aMe s.heap a es ep t)(hf:t.fits es.size=true)
  (htp:IsTup s.heap tp (π.map fun (j:Nat)=>Zm j).toArray) (hk:π[i]? =some k) (hx:es[k]? =some (hv,x))
  (q: ∀h',aVe h' it (.ref tp) ((i:Int)+1) a es.size ep->Yg it s.heap h'->Q (some x) {s with heap:=h'}):Qm (Ql prog w) A (pyNext (.ref it)) Q E s:=by
 obtain⟨o,ho,hc,hd⟩:=id hi;obtain⟨oa,hoa,hda⟩:=id hs;obtain⟨ot,hot,hct,nt,hdt⟩:=id htp;have hT:s.TypeIs (.ref it) "set_iterator":=⟨o,ho,hc⟩;have hpl:(π.map fun (j:Nat)=>Zm j).toArray[i]? =some (Zm k):=by simp[hk]
 unfold pyNext;refine Qc (wpAny_attempt (Ye (name:=Yh "__next__") hT aBg (Zn aBg hT aDu ?_ (aEf _))));unfold Builtin.«set_iterator.__next__»;obtain⟨c1,d1,x1,l1⟩:=o
 dsimp only at hc hd
 subst hc hd
 wp_walk using Zb ho,Zh hoa hda hf,Yc hoa hda hf,wpAny_seqItems hot hdt
 rw[Ze,hpl];show Qm _ _ (setNextDrawn a (k:Int).toNat (ep:Int).toNat>>=_) _ _ _;rw[Ze,Ze];unfold setNextDrawn;refine Qc (Qc (Yc hoa hda hf ?_))
 dsimp only
 rw[if_neg (by simp),hx];refine Qe ?_;refine Qc (wpAny_setField ho rfl (by simp) (Qe ⟨x,rfl,Qe (q _ ?_ (Zt ..))⟩));exact⟨_,Y0 _ ho (Obj.isFreed_of_fields (Yw rfl _)),Obj.cls_mapFields ..,by rw[Yw rfl];simp[Zm]⟩
theorem aPm {it a tp:Addr}{π:List Nat}{es:Array (Int×Qd)}{ep:Nat}{t:Zw}{Q:Option Qd->Qf->Prop}(hh:A.handled=none)(hi:aVe s.heap it (.ref tp) π.length a es.size ep)(hs:aMe s.heap a es ep t)(hf:t.fits es.size=true)
  (htp:IsTup s.heap tp (π.map fun (j:Nat)=>Zm j).toArray) (q: ∀h' tk,Heap.ExtBut it s.heap h'->Q none {s with heap:=h',toks:=tk}):Qm (Ql prog w) A (pyNext (.ref it)) Q E s:=by
 obtain⟨o,ho,hc,hd⟩:=id hi;obtain⟨oa,hoa,hda⟩:=id hs;obtain⟨ot,hot,hct,nt,hdt⟩:=id htp;have hT:s.TypeIs (.ref it) "set_iterator":=⟨o,ho,hc⟩;have hpl:(π.map fun (j:Nat)=>Zm j).toArray[π.length]? =none:=by simp
 unfold pyNext;refine Qc (wpAny_attempt (Ye (name:=Yh "__next__") hT aBg (Zn aBg hT aDu ?_ (aEf _))));unfold Builtin.«set_iterator.__next__»;obtain⟨c1,d1,x1,l1⟩:=o
 dsimp only at hc hd
 subst hc hd
 wp_walk using Zb ho,Zh hoa hda hf,Yc hoa hda hf,wpAny_seqItems hot hdt
 rw[Ze,hpl]
 wp_walk using Zb ho
 simp only[raiseNew];refine Qc (wpAny_handled ?_);rw[show A.in1.handled=none by simp[hh]];refine Qc (Qe (wpAny_throw ?_));refine Qc (wpAny_isInstance (T:="StopIteration") (b:=true) ⟨_,Qs _ rfl,rfl⟩ isSubtype_stop (Qe (q _ _ ?_)));exact (((Zt ..).trans (Zt ..)).extBut.push _).push _
theorem aWj {it a:Addr}{slot i nx:Nat}{es:Array (Int×Qd)}{ep:Nat}{t:Zw}{x:Qd}{Q:Option Qd->Qf->Prop}(hi:aVe s.heap it (Zm slot) i a es.size ep)(hs:aMe s.heap a es ep t)(hf:t.fits es.size=true)
  (hn: ∀(A:Za) (E:Qd->Qf->Prop) (Q:Option (Qd×Nat)->Qf->Prop),Q (some (x,nx)) s->Qm (Ql prog w) A (setNext a slot i ep) Q E s)
  (q: ∀h',aVe h' it (Zm nx) ((i:Int)+1) a es.size ep->Yg it s.heap h'->Q (some x) {s with heap:=h'}):Qm (Ql prog w) A (pyNext (.ref it)) Q E s:=by
 obtain⟨o,ho,hc,hd⟩:=id hi;obtain⟨oa,hoa,hda⟩:=id hs;have hT:s.TypeIs (.ref it) "set_iterator":=⟨o,ho,hc⟩;unfold pyNext;refine Qc (wpAny_attempt (Ye (name:=Yh "__next__") hT aBg (Zn aBg hT aDu ?_ (aEf _))));unfold Builtin.«set_iterator.__next__»;obtain⟨c1,d1,x1,l1⟩:=o
 dsimp only at hc hd
 subst hc hd;generalize hSN:setNext=SN
 wp_walk using Zb ho,Zh hoa hda hf
 subst hSN;rw[Ze,Ze,Ze];refine hn _ _ _ ?_
 dsimp only
 refine Qc (wpAny_setField ho rfl (by simp) ?_);have ho2:=Y0 (Obj.mapFields fun z=>z.setIfInBounds 0 (Zm nx)) ho (Obj.isFreed_of_fields (Yw rfl _));have hd2:(Obj.mapFields (fun z=>z.setIfInBounds 0 (Zm nx)) {cls:=Value.type "set_iterator",dict:=d1,data:=Data.fields #[Zm slot,Zm i,Zc a,Zm es.size,Zm ep],slots:=l1}).data= .fields #[Zm nx,Zm i,Zc a,Zm es.size,Zm ep]:=by
  rw[Yw rfl];simp
 refine Qc (wpAny_setField ho2 hd2 (by simp) (Qe ⟨x,rfl,Qe (q _ ?_ ((Zt ..).trans (Zt ..)))⟩));exact⟨_,Y0 _ ho2 (Obj.isFreed_of_fields (Yw hd2 _)),(Obj.cls_mapFields ..).trans (Obj.cls_mapFields ..),by rw[Yw hd2];simp[Zm]⟩
theorem bCi {it a:Addr}{slot i:Nat}{es:Array (Int×Qd)}{ep:Nat}{t:Zw}{Q:Option Qd->Qf->Prop}(hh:A.handled=none)(hi:aVe s.heap it (Zm slot) i a es.size ep)(hs:aMe s.heap a es ep t)(hf:t.fits es.size=true)
  (hn: ∀(A:Za) (E:Qd->Qf->Prop) (Q:Option (Qd×Nat)->Qf->Prop),Q none s->Qm (Ql prog w) A (setNext a slot i ep) Q E s)
  (q: ∀h' tk,Heap.ExtBut it s.heap h'->Q none {s with heap:=h',toks:=tk}):Qm (Ql prog w) A (pyNext (.ref it)) Q E s:=by
 obtain⟨o,ho,hc,hd⟩:=id hi;obtain⟨oa,hoa,hda⟩:=id hs;have hT:s.TypeIs (.ref it) "set_iterator":=⟨o,ho,hc⟩;unfold pyNext;refine Qc (wpAny_attempt (Ye (name:=Yh "__next__") hT aBg (Zn aBg hT aDu ?_ (aEf _))));unfold Builtin.«set_iterator.__next__»;obtain⟨c1,d1,x1,l1⟩:=o
 dsimp only at hc hd
 subst hc hd;generalize hSN:setNext=SN
 wp_walk using Zb ho,Zh hoa hda hf
 subst hSN;rw[Ze,Ze,Ze];refine hn _ _ _ ?_
 dsimp only
 wp_walk using Zb ho
 simp only[raiseNew];refine Qc (wpAny_handled ?_);rw[show A.in1.handled=none by simp[hh]];refine Qc (Qe (wpAny_throw ?_));refine Qc (wpAny_isInstance (T:="StopIteration") (b:=true) ⟨_,Qs _ rfl,rfl⟩ isSubtype_stop (Qe (q _ _ ?_)));exact ((Zt ..).extBut.push _).push _
theorem aPz {a:Addr}{slot i:Nat}{es:Array (Int×Qd)}{ep:Nat}{t:Zw}{Q:Option (Qd×Nat)->Qf->Prop}(hb:w.params.followText "set-order"=true)(hs:aMe s.heap a es ep t)(hf:t.fits es.size=true)
  (q:Q (((pickOrder (w.params.setOrder a ep) es)[i]?).map fun e=>(e.2,slot)) s):Qm (Ql prog w) A (setNext a slot i ep) Q E s:=by
 obtain⟨oa,hoa,hda⟩:=hs;unfold setNext setsByText;refine Qc (Yc hoa hda hf (Qc (Qc (wpAny_askSetting (Qe ?_)))))
 dsimp only
 rw[if_pos (show (Ql prog w).w.params.followText "set-order"=true from hb),if_neg (by simp)];unfold setWalk setsByText;refine Qc (Qc (Yc hoa hda hf (Qc (Qc (wpAny_askSetting (Qe ?_))))))
 dsimp only
 rw[if_pos (show (Ql prog w).w.params.followText "set-order"=true from hb)];refine Qc (wpAny_askSetting (Qe (Qe q)))
theorem aS8 {a:Addr}{slot i:Nat}{es:Array (Int×Qd)}{ep:Nat}{t:Zw}{Q:Option (Qd×Nat)->Qf->Prop}(hb:w.params.followText "set-order"=false)(hl:t.led=true)(h1:es.size<=1)(hs:aMe s.heap a es ep t)(hf:t.fits es.size=true)
  (q:Q (match es[SetTable.below t.place slot]?,t.place[SetTable.below t.place slot]? with | some (_,x),some j=>some (x,j+1) | _,_=>none) s):Qm (Ql prog w) A (setNext a slot i ep) Q E s:=by
 obtain⟨oa,hoa,hda⟩:=hs;unfold setNext setsByText;refine Qc (Yc hoa hda hf (Qc (Qc (wpAny_askSetting (Qe ?_)))))
 dsimp only
 rw[if_neg (show ¬(Ql prog w).w.params.followText "set-order"=true by rw[show (Ql prog w).w.params.followText "set-order"=false from hb];decide)];have hd: ∀b:Bool,(b=true->False)->∀(x y:Sem (Option (Qd×Nat))),Qm (Ql prog w) A y Q E s->Qm (Ql prog w) A (if b=true then x else y) Q E s:=fun b hb x y hy=>by rw[if_neg hb];exact hy
 refine hd _ ?_ _ _ ?_
 ·intro h
  have h2:(!t.plain&&decide (es.size>1))=true:=h;simp at h2;omega
 ·refine Qc ?_
  show Qm _ _ (if (!t.led&& !es.isEmpty)=true then unsupported _ else pure ()) _ _ _;rw[if_neg (by simp[hl])];exact Qe (Qe q)
end
section
variable {prog:Qr}{w:Q2}{A:Za}{E:Qd->Qf->Prop}{s:Qf}
theorem aX2 {h h':Heap}{it a:Addr}{f:Qd}{i n ep:Int}(hi:aVe h it f i a n ep)(e: ∀o,h.get? it=some o->h'.get? it=some o):aVe h' it f i a n ep:=let ⟨o,g,r⟩:=hi;⟨o,e o g,r⟩
theorem aNu {h h':Heap}{a:Addr}{es:Array (Int×Qd)}{ep:Nat}{t:Zw}(hi:aMe h a es ep t)(e: ∀o,h.get? a=some o->h'.get? a=some o):aMe h' a es ep t:=let ⟨o,g,r⟩:=hi;⟨o,e o g,r⟩
theorem bC1 {h h':Heap}{a:Addr}{xs:Array Qd}(hi:IsTup h a xs)(e: ∀o,h.get? a=some o->h'.get? a=some o):IsTup h' a xs:=let ⟨o,g,r⟩:=hi;⟨o,e o g,r⟩
theorem Walks.aWl (hh:A.handled=none){it a tp:Addr}(na:a≠it)(nt:tp≠it){π:List Nat}{es:Array (Int×Qd)}{ep:Nat}{t:Zw}(hf:t.fits es.size=true)(hl:π.length=es.size)(hp: ∀k∈π,k<es.size):
  Walks prog w A it [it,a,tp] [it] es.size (fun i v=>(π.map fun k=>((es[k]?).map (·.2)).getD .none)[i]? =some v) (fun i h=>aVe h it (.ref tp) (i:Nat) a es.size ep/\aMe h a es ep t/\IsTup h tp (π.map fun (j:Nat)=>Zm j).toArray) where
 sub:=fun b hb=>by simp at hb;simp[hb]
 frame:=fun i h h' st hk=>⟨aX2 st.1 (hk it (by simp)),aNu st.2.1 (hk a (by simp)),bC1 st.2.2 (hk tp (by simp))⟩
 item:=fun i s Q E hi st hQ=>by
  have hi':i<π.length:=by omega
  have hk:π[i]? =some π[i]:=Q3 hi';have hj:π[i]<es.size:=hp _ (List.getElem_mem hi');have hx:es[π[i]]? =some (es[π[i]].1,es[π[i]].2):=by rw[Y7 hj]
  refine aN9 st.1 st.2.1 hf st.2.2 hk hx fun h' r sb=>hQ _ h' s.toks ?_ ⟨?_,aNu st.2.1 (fun o=>sb.extBut a o na),bC1 st.2.2 (fun o=>sb.extBut tp o nt)⟩ fun b o hb e=>sb.extBut b o (fun z=>hb (by simp[z])) e
  ·simp[hk,hx]
  ·simpa using r
 done:=fun s Q E st hQ=>by
  refine aPm hh (π:=π) (by rw[hl];exact st.1) st.2.1 hf st.2.2 fun h' tk x=>hQ h' tk fun b o hb q=>x b o (fun z=>hb (by simp[z])) q
 self:=fun _ _ _ _ st hQ=>aQ8 st.1 hQ
theorem Walks.bAb (hh:A.handled=none){it a:Addr}(na:a≠it){es:Array (Int×Qd)}{ep:Nat}{t:Zw}(hf:t.fits es.size=true)(hb:w.params.followText "set-order"=true):
  Walks prog w A it [it,a] [it] es.size (fun i v=>((pickOrder (w.params.setOrder a ep) es).toList.map (·.2))[i]? =some v) (fun i h=>aVe h it (Zm (0:Nat)) (i:Nat) a es.size ep/\aMe h a es ep t) where
 sub:=fun b hb=>by simp at hb;simp[hb]
 frame:=fun i h h' st hk=>⟨aX2 st.1 (hk it (by simp)),aNu st.2 (hk a (by simp))⟩
 item:=fun i s Q E hi st hQ=>by
  have hsz:(pickOrder (w.params.setOrder a ep) es).size=es.size:=by
   have:=(aJb (w.params.setOrder a ep) es).length_eq
   simpa using this
  have hx:(pickOrder (w.params.setOrder a ep) es)[i]? =some ((pickOrder (w.params.setOrder a ep) es)[i]'(by omega)):=Y7 (by omega);refine aWj (nx:=0) st.1 st.2 hf (fun A E Q q=>aPz hb st.2 hf (by rw[hx];exact q)) fun h' r sb=>hQ _ h' s.toks ?_ ⟨?_,aNu st.2 (fun o=>sb.extBut a o na)⟩ fun b o hb e=>sb.extBut b o (fun z=>hb (by simp[z])) e
  ·simp[hx]
  ·simpa using r
 done:=fun s Q E st hQ=>by
  have hsz:(pickOrder (w.params.setOrder a ep) es).size=es.size:=by
   have:=(aJb (w.params.setOrder a ep) es).length_eq
   simpa using this
  have hx:(pickOrder (w.params.setOrder a ep) es)[es.size]? =none:=Uz (by omega);refine bCi hh st.1 st.2 hf (fun A E Q q=>aPz hb st.2 hf (by rw[hx];exact q)) fun h' tk x=>hQ h' tk fun b o hb q=>x b o (fun z=>hb (by simp[z])) q
 self:=fun _ _ _ _ st hQ=>aQ8 st.1 hQ
theorem aQf {t:Zw}{n:Nat}(h:t.fits n=true):t.place.size=n:=by
 simp only[SetTable.fits,Q6,beq_iff_eq,decide_eq_true_eq] at h;exact h.1
theorem bF4 {xs:Array Nat}(h:xs.size<=1):SetTable.below xs 0=0:=by
 obtain⟨l⟩:=xs
 match l,h with
 | [],_=>rfl
 | [x],_=>simp[SetTable.below,SetTable.below.go]
theorem bF3 {xs:Array Nat}{x:Nat}(h:xs= #[x]):SetTable.below xs (x+1)=1:=by subst h;simp[SetTable.below,SetTable.below.go]
theorem Walks.bDt (hh:A.handled=none){it a:Addr}(na:a≠it){es:Array (Int×Qd)}{ep:Nat}{t:Zw}(hf:t.fits es.size=true)(hb:w.params.followText "set-order"=false)(hl:t.led=true)(h1:es.size<=1):
  Walks prog w A it [it,a] [it] es.size (fun i v=>(es.toList.map (·.2))[i]? =some v) (fun i h=>(∃slot:Nat,aVe h it (Zm slot) (i:Nat) a es.size ep/\SetTable.below t.place slot=i)/\aMe h a es ep t) where
 sub:=fun b hb=>by simp at hb;simp[hb]
 frame:=fun i h h' st hk=>⟨let ⟨c,x,y⟩:=st.1;⟨c,aX2 x (hk it (by simp)),y⟩,aNu st.2 (hk a (by simp))⟩
 item:=fun i s Q E hi st hQ=>by
  obtain⟨⟨c,x,y⟩,z⟩:=st;have hps:=aQf hf;have e1:es.size=1:=by omega
  have i0:i=0:=by omega
  subst i0;have hx:es[0]? =some (es[0].1,es[0].2):=by rw[Y7 hi]
  have hj:t.place[0]? =some t.place[0]:=Y7 (by omega);refine aWj (nx:=t.place[0]+1) x z hf (fun A E Q q=>aS8 hb hl h1 z hf (by rw[y,hx,hj];exact q)) fun h' r sb=>hQ _ h' s.toks ?_ ⟨⟨t.place[0]+1,by simpa using r,?_⟩,aNu z (fun o=>sb.extBut a o na)⟩ fun b o hb e=>sb.extBut b o (fun z=>hb (by simp[z])) e
  ·simp[hx]
  ·have ep1:t.place= #[t.place[0]]:=by
    apply Array.ext
    ·simp;omega
    ·intro k k1 k2
     have:k=0:=by omega
     subst this;rfl
   exact bF3 ep1
 done:=fun s Q E st hQ=>by
  obtain⟨⟨c,x,y⟩,z⟩:=st;have hx:es[es.size]? =none:=Uz (by omega);refine bCi hh x z hf (fun A E Q q=>aS8 hb hl h1 z hf (by rw[y,hx];exact q)) fun h' tk x=>hQ h' tk fun b o hb q=>x b o (fun z=>hb (by simp[z])) q
 self:=fun _ _ _ _ st hQ=>let ⟨_,x,_⟩:=st.1;aQ8 x hQ
theorem aUg (es:Array (Int×Qd)):(Yb es.size).map (fun k=>((es[k]?).map (·.2)).getD .none)=es.toList.map (·.2):=by
 apply List.ext_getElem
 ·simp
 ·intro i h1 h2
  simp at h1;simp[h1]
theorem aRv {α:Type}{b c:Bool}(e:b=c){x y:Sem α}{Q:α->Qf->Prop}(h:Qm (Ql prog w) A (if c=true then x else y) Q E s):Qm (Ql prog w) A (if b=true then x else y) Q E s:=by subst e;exact h
theorem bAd {a:Addr}{o:Obj}{es:Array (Int×Qd)}{ep:Nat}{t:Zw}{Q:Qd->Qf->Prop}(ho:s.heap.get? a=some o)(hx:o.ExactSet)(hd:o.data= .set es ep t)(hf:t.fits es.size=true)(hz:es.size<=Qq)
  (hw:w.params.followText "set-order"=true\/t.led=true) (hp:es.size<=1\/t.plain=false)
  (q: ∀it fp St (vals:List Qd) h' d,(∀B:Za,B.handled=none->Walks prog w B it fp [it] es.size (fun i v=>vals[i]? =some v) St)->St 0 h'->(∀b∈fp,b=a\/s.heap.objs.size<=b)->vals.Perm (es.toList.map (·.2))->s.heap.objs.size<=it->
   (∀b o,s.heap.get? b=some o->h'.get? b=some o)->Q (.ref it) {s with heap:=h',drawn:=d}):Qm (Ql prog w) A (pyIter (.ref a)) Q E s:=by
 have hT:s.TypeIs (.ref a) "set":=⟨o,ho,hx.1⟩;have lta:=Qp ho;refine wpAny_pyIter_slot hT F.slot_set_iter (Zn F.slot_set_iter hT aNc ?_ (aO2 _));unfold Builtin.«frozenset.__iter__»;refine Qc (m:=Builtin.Frozenset.slot0 "__iter__" ⟨[.ref a],[]⟩) (Qe ?_);unfold Builtin.Frozenset.sizeOf;refine Qc (Qc (Zh ho hd hf (Qe ?_)));unfold setDrawn setsByText;refine Qc (Qc (Yc ho hd hf (Qc (Qc (wpAny_askSetting (Qe (Qe ?_)))))));refine aRv (c:= !w.params.followText "set-order"&&(!t.plain&&decide (es.size>1))) rfl ?_;have tail: ∀(h1:Heap) (d:Drawn) (first:Qd),(∀b o,s.heap.get? b=some o->h1.get? b=some o)->Q (.ref h1.objs.size) {s with heap:=h1.push {cls:= .type "set_iterator",data:= .fields #[first,Zm (0:Nat),.ref a,Zm es.size,Zm ep]},drawn:=d}->
   Qm (Ql prog w) A.in1 (do let e<-setEpoch a;let v<-newFields "set_iterator" [first,Zm 0,.ref a,Zm es.size,Zm e];ret v) (fun fin s'=> ∃v,fin=Fin.done (Flow.ret v)/\∃T' r,s'.TypeIs v T'/\typeLookup (Value.type T') (Yh "__next__")=pure (some r)/\Q v s') E {s with heap:=h1,drawn:=d}:=by
  intro h1 d first hk q1;refine Qc (wpAny_setEpoch_of (hk _ _ ho) hd hf (Qc (Yd (Qe ⟨_,rfl,"set_iterator",_,⟨_,Qs _ rfl,rfl⟩,aBg.lookup,q1⟩))))
 have isi: ∀(h1:Heap) (first:Qd),aVe (h1.push {cls:= .type "set_iterator",data:= .fields #[first,Zm (0:Nat),.ref a,Zm es.size,Zm ep]}) h1.objs.size first (0:Nat) a es.size ep:=fun h1 first=>⟨_,Qs _ rfl,rfl,rfl⟩
 by_cases hb:w.params.followText "set-order"=true
 ·rw[if_neg (by simp[hb])]
  refine Qc (Qe (tail s.heap s.drawn _ (fun _ _ e=>e) ?_));refine q _ _ _ _ _ s.drawn (fun B hB=>Walks.bAb hB (Qy lta) hf hb) ⟨isi _ _,_,Qh _ ho,hd⟩ ?_ ?_ (Qn _) fun b o e=>Qh _ e
  ·intro b hb2;simp only[Y9,Yr,or_false] at hb2;exact hb2.elim (fun e=> .inr (e▸Qn _)) .inl
  ·exact (aJb _ es).map _
 ·have hb0:w.params.followText "set-order"=false:=by simpa using hb
  have hl:t.led=true:=hw.resolve_left hb;by_cases h1:es.size<=1
  ·rw[if_neg (by simp;omega)]
   refine Qc (Qe (tail s.heap s.drawn _ (fun _ _ e=>e) ?_));refine q _ _ _ _ _ s.drawn (fun B hB=>Walks.bDt hB (Qy lta) hf hb0 hl h1) ⟨⟨0,isi _ _,bF4 (by rw[aQf hf];exact h1)⟩,_,Qh _ ho,hd⟩ ?_ (List.Perm.refl _) (Qn _) fun b o e=>Qh _ e
   intro b hb2;simp only[Y9,Yr,or_false] at hb2;exact hb2.elim (fun e=> .inr (e▸Qn _)) .inl
  ·have hpl:t.plain=false:=hp.resolve_left (by omega)
   rw[if_pos (by simp[hb0,hpl];omega)];refine Qc (aU6 es.size (Yb es.size) _ _ (by simp) fun π d hπ=> ?_);have hlen:π.length=es.size:=by simpa using hπ.length_eq
   refine Qc (Yd ?_ (by show (π.map _).toArray.size<=Qq;simp;omega));refine tail (s.heap.push _) d _ (fun _ _ e=>Qh _ e) ?_;have lt1:a<(s.heap.push {cls:= .type "tuple",data:= .seq (π.map fun (i:Nat)=>Zm i).toArray}).objs.size:=by rw[size_push'];exact Ui lta
   refine q _ _ _ _ _ d (fun B hB=>Walks.aWl (tp:=s.heap.objs.size) hB (Qy lt1) (by rw[size_push'];exact Qy (Ji _)) hf hlen (fun k hk=>by simpa using hπ.subset hk)) ⟨isi _ _,⟨_,Qh _ (Qh _ ho),hd⟩,⟨_,Qh _ (Qs _ rfl),rfl,0,rfl⟩⟩ ?_ ?_ (by rw[size_push'];exact Jf _) fun b o e=>Qh _ (Qh _ e)
   ·intro b hb2;simp only[Y9,Yr,or_false] at hb2;rw[size_push'] at hb2;exact hb2.elim (fun e=> .inr (e▸Jf _)) (fun h=>h.elim .inl (fun e=> .inr (e▸Qn _)))
   ·rw[<-aUg];exact hπ.map _
end
section
variable {prog:Qr}{w:Q2}{A:Za}{E:Qd->Qf->Prop}{s:Qf}
theorem sub_set_self:isSubtype (.type "set") (.type "set")=pure true:=by rw[isSubtype_type];kernel_rfl
theorem aR7 {a:Addr}{o:Obj}{es:Array (Int×Qd)}{ep:Nat}{t:Zw}{Q:List Qd->Qf->Prop}(hh:A.handled=none)(ho:s.heap.get? a=some o)(hx:o.ExactSet)(hd:o.data= .set es ep t)(hf:t.fits es.size=true)(hz:es.size<=Qq)
  (hw:w.params.followText "set-order"=true\/t.led=true) (hp:es.size<=1\/t.plain=false)
  (hQ: ∀vals h' tk d,vals.Perm (es.toList.map (·.2))->s.heap.objs.size<=h'.objs.size->(∀b o,s.heap.get? b=some o->h'.get? b=some o)->Q vals {s with heap:=h',toks:=tk,drawn:=d}):Qm (Ql prog w) A (collect (.ref a)) Q E s:=by
 have lta:=Qp ho;have nea:s.heap.objs.size≠a:=Uh lta;have hT: ∀h' d,(h':Heap).get? a=some o->Shared.TypeIs {s with heap:=h',drawn:=d} (.ref a) "set":=fun h' d e=>⟨o,e,hx.1⟩
 generalize hL:({cls:= .type "list",data:= .seq ([]:List Qd).toArray}:Obj)=L;have ho1:(s.heap.push L).get? a=some o:=Qh _ ho;have l1:(s.heap.push L).get? s.heap.objs.size=some L:=Qs _ (by rw[<-hL];rfl);have h1:Builtin.List.listSameRef (.ref s.heap.objs.size) (.ref a)=false:=by simp[Builtin.List.listSameRef,nea]
 unfold collect;refine Qc (wpAny_runValue (Y3 F.entry_proto_collect ?_));rw[Around.under_plainId F.plain_proto_collect _];show Qm _ A.in1 (newList []>>=fun l=>again (.builtin "list.__iadd__" ⟨[l,.ref a],[]⟩)) _ _ s;refine Qc (Yd (Qe ⟨plainId_quiet F.plain_list_iadd _,Y3 F.entry_list_iadd ?_⟩));rw[Around.under_plainId F.plain_list_iadd _];show Qm _ A.in1 (Yu (.ref s.heap.objs.size) (.ref a) (.ref s.heap.objs.size)) _ _ _;rw[hL];unfold Yu;refine Qc (wpAny_typeOf (hT _ s.drawn ho1) ?_);rw[if_neg (by rw[h1];decide)];refine Qc (bAd (s:={s with heap:=s.heap.push L}) ho1 hx hd hf hz hw hp fun it fp St vals h2 d W0 st0 hfp hperm hit hk=>Qc (Z8 ?_));have ho2:=hk a o ho1;have l2:=hk _ _ l1;unfold Builtin.List.listLengthHint;refine Qc (wpAny_specialOf (hT _ d ho2) F.slot_set_len.lookup ?_);generalize hid:("set.__len__":String)=id0;(fail_if_success (clear hid id0));wp_delta;rw[show splitId id0=some ("set","__len__") from by subst hid;decide+kernel];subst hid;refine Qc (wpAny_isInstance (b:=true) (hT _ d ho2) sub_set_self ?_);rw[if_neg (by decide)];refine aRv (c:=true) ?_ ?_
 ·decide+kernel
 rw[if_pos rfl];refine Qc (wpAny_typeOf (hT _ d ho2) (Qe ?_));refine aRv (c:=true) ?_ ?_
 ·decide+kernel
 rw[if_pos rfl];subst hL;refine Qc (wpAny_rule (Qc ?_));show Qm _ A.in1 (updateSeq s.heap.objs.size (·.push .none)>>=fun _=>updateSeq s.heap.objs.size (·.pop)) _ _ _;refine Qc (wpAny_updateSeq l2 rfl ?_);have l3:=Y0 (Obj.mapSeq (·.push Value.none)) l2 rfl;refine wpAny_updateSeq l3 rfl ?_;have l4:=Y0 (Obj.mapSeq (·.pop)) l3 rfl;refine Qe ⟨plainId_quiet F.plain_extend_loop _,?_⟩;have W:=(W0 A.in1 (by simp[hh])).toS;have hit':s.heap.objs.size+1<=it:=by have h:=hit;dsimp only at h;rw[size_push'] at h;exact h
 have nei:s.heap.objs.size≠it:=Qy hit';have off:s.heap.objs.size∉fp:=by
  intro h;rcases hfp _ h with e | e
  ·exact nea e
  ·dsimp only at e;rw[size_push'] at e;exact absurd e (Nat.not_succ_le_self _)
 have hk2: ∀b u,b≠s.heap.objs.size->h2.get? b=some u->((h2.update s.heap.objs.size (Obj.mapSeq fun x=>x.push Value.none)).update s.heap.objs.size (Obj.mapSeq fun x=>x.pop)).get? b=some u:=fun b u hb e=>(Yv _ _ (Ne.symm hb)).trans ((Yv _ _ (Ne.symm hb)).trans e)
 refine codeAny_extend_loopS W hz _ off _ es.size 0 _ _ _ rfl (Y5 _) ((W0 A.in1 (by simp[hh])).frame _ _ _ st0 fun b hb u e=>hk2 b u (fun z=>off (z▸hb)) e) l4 (ItemsOf.nil _) fun s' acc c' hm hS' hacc=> ?_
 show Qm _ A (load s.heap.objs.size>>=_) _ _ s';refine Qc (wpAny_load hS' (Qe ?_));obtain⟨h',g',d',tk',os'⟩:=s';have eg:g'=s.gens:=hm.gens;have ed:d'=d:=hm.drawn;have eo:os'=s.os:=hm.os;subst eg ed eo;have hlen:vals.length=es.size:=by simpa using hperm.length_eq
 have ea:acc.toList=vals:=by
  have hsz:=hacc.1
  apply List.ext_getElem?
  intro i;by_cases hi:i<es.size
  ·have hv:=hacc.2 i acc[i] (by simp[hsz,hi])
   rw[hv];simp[hsz,hi]
  ·rw[Jh (by simp[hsz];omega),Jh (by omega)]
 rw[ea];refine hQ vals h' tk' _ hperm (J0 (Qp hS')) fun b u e=> ?_
 have lb:=Qp e;refine hm.heap b u ?_ (hk2 b u (Qy lb) (hk b u (Qh _ e)));simp only[Y9,Yr,or_false,not_or];exact⟨Qy lb,Qy (Nat.lt_trans lb hit')⟩
end
def leS (a b:Str):Bool:= !ltCps b.cps.toList a.cps.toList
def aWg (xs:List Str):List Str:=xs.mergeSort leS
theorem aL5 (a b:Str):leS a b=true↔a.cps.toList<=b.cps.toList:=by
 unfold leS;rw[ltCps_eq];simp
theorem aP3 (a b c:Str)(h1:leS a b=true)(h2:leS b c=true):leS a c=true:=by
 rw[aL5] at*;exact List.le_trans h1 h2
theorem aP4 (a b:Str):(leS a b || leS b a)=true:=by
 rw[Z1,aL5,aL5];exact List.le_total _ _
theorem bBd (a b:Str)(h1:leS a b=true)(h2:leS b a=true):a=b:=by
 rw[aL5] at*;exact Str.ext' (Array.toList_inj.mp (List.le_antisymm h1 h2))
theorem aLp (xs:List Str):(aWg xs).Perm xs:=List.mergeSort_perm xs leS
theorem aWf (xs:List Str):(aWg xs).Pairwise (fun a b=>leS a b=true):=List.pairwise_mergeSort aP3 aP4 xs
theorem aLv: ∀(l:List Str) (p:Str),risingS p l=true->(p::l).Pairwise (fun a b=>leS a b=true)
 | [],p,_=>by simp
 | x::r,p,h=>by
  have h':(!ltCps x.cps.toList p.cps.toList&&risingS x r)=true:=h;rw[Q6] at h';have ih:=aLv r x h'.2;refine List.pairwise_cons.mpr ⟨fun y hy=> ?_,ih⟩;rcases List.mem_cons.mp hy with e | e
  ·rw[e];exact h'.1
  ·exact aP3 _ _ _ h'.1 (List.rel_of_pairwise_cons ih e)
theorem aPk: ∀(l:List Str),sortedS l=true->l.Pairwise (fun a b=>leS a b=true)
 | [],_=> .nil
 | x::r,h=>aLv r x h
theorem bDq {xs ys:List Str}(hs:sortedS ys=true)(hp:ys.Perm xs):ys=aWg xs:=
 List.Perm.eq_of_pairwise (fun a b _ _=>bBd a b) (aPk ys hs) (aWf xs) (hp.trans (aLp xs).symm)
theorem aLz {α:Type}[DecidableEq α]: ∀(xs ys:List α),xs.Nodup->(∀k,k∈xs->k∈ys)->ys.length=xs.length->ys.Perm xs
 | [],ys,_,_,h=>by cases ys with | nil=>exact .refl _ | cons _ _=>simp at h
 | x::xs,ys,hn,hm,h=>by
  have hx:=hm x (by simp);have hp:=List.perm_cons_erase hx;refine hp.trans (List.Perm.cons x (aLz xs (ys.erase x) (List.nodup_cons.mp hn).2 (fun k hk=> ?_) ?_))
  ·have ne:k≠x:=fun e=>(List.nodup_cons.mp hn).1 (e▸hk)
   exact (List.mem_erase_of_ne ne).mpr (hm k (by simp[hk]))
  ·rw[List.length_erase_of_mem hx,h];simp
theorem aVb {σ:List Str}{v:Str}(h:σ.Nodup):(aQ0 σ v).Nodup:=by
 unfold aQ0;split
 ·exact h
 ·rename_i hc
  have hn:v∉σ:=fun hm=>hc (by simpa using hm)
  first
  | exact List.nodup_cons.mpr ⟨hn,h⟩
  |(rw[List.nodup_append];exact⟨h,by simp,by intro a ha b hb;simp at hb;subst hb;intro e;subst e;exact hn ha⟩)
theorem aL2 (vs:List Str): ∀(σ:List Str),σ.Nodup->(vs.foldl aQ0 σ).Nodup:=by
 induction vs with
 | nil=>intro σ h;exact h
 | cons v r ih=>intro σ h;exact ih _ (aVb h)
theorem aUn (vs:List Str):(aFj vs).Nodup:=aL2 vs [] .nil
section
variable {prog:Qr}{w:Q2}{A:Za}{E:Qd->Qf->Prop}{s:Qf}
theorem aWh {x:Qd}{xs:List Str}{Q:Qd->Qf->Prop}(hh:A.handled=none)(h64:xs.length<64)
  (hc: ∀(B:Za) (Q':List Qd->Qf->Prop),B.handled=none->(∀vals ts h' tk d,StrsAre vals ts->ts.Perm xs->s.heap.objs.size<=h'.objs.size->(∀b o,s.heap.get? b=some o->h'.get? b=some o)->Q' vals {s with heap:=h',toks:=tk,drawn:=d})->Qm (Ql prog w) B (collect x) Q' E s)
  (h: ∀out l h' tk d m,StrsAre out (aWg xs)->s.heap.objs.size<=l->h'.get? l=some {cls:= .type "list",data:= .seq out.toArray m}->(∀b o,s.heap.get? b=some o->h'.get? b=some o)->Q (.ref l) {s with heap:=h',toks:=tk,drawn:=d}):
  Qm (Ql prog w) A (call (.builtin "sorted") [x]) Q E s:=by
 refine Calls.call_function_entry kind_sorted plain_sorted entry_sorted (args_sorted1 _) ?_;unfold Builtin.«sorted»;refine Qc (m:=checkCount "sorted" 1 1 _) (Qe ?_);refine Qc (hc A.in1 _ (by simp[hh]) fun vals ts h1 tk d hS hp le hk=> ?_);have hvl:vals.length<64:=by rw[hS.len_eq,hp.length_eq];exact h64
 refine Qc (wpAny_newList ?_);have hoL:(h1.push (seqObj "list" vals.toArray 0)).get? h1.objs.size=some (seqObj "list" vals.toArray 0):=Qs _ rfl;show Qm _ _ _ _ _ {s with heap:=h1.push (seqObj "list" vals.toArray 0),toks:=tk,drawn:=d};refine Qc (Z8 (Zn slot_list_sort ⟨_,hoL,rfl⟩ entry_list_sort (list_sort_treeK strKind_oneLt hoL hS.keysOf (fun v₁ v₂ rest e=>keyKind_strs (by rw[<-e];exact hS)) hvl fun st' a1 a2=>⟨_,rfl,?_⟩) (args_list_sort _)));refine Qe ⟨_,rfl,?_⟩;obtain⟨ss',b1,b2,b3⟩:=sorted_out_str hS a1 a2;have e:=bDq b3 (b2.trans hp);subst e;generalize (Array.map (fun x=>x.snd) (arrOf st'))=out at b1⊢;obtain⟨ol⟩:=out;have k1:=get?_update_seq hoL (fun _=> #[]);have k2:=get?_update_seq (Qh (seqObj "list" #[] 0) (Qh (seqObj "tuple" vals.toArray 0) k1)) (fun _=>ol.toArray);refine h ol h1.objs.size _ tk d _ b1 le k2 fun b o e=> ?_
 have lt:=Qp (hk b o e);have ne:h1.objs.size≠b:=Uh lt;show (sortedHeap _ _ _ _).get? b=some o;unfold sortedHeap;rw[Yv _ _ ne];refine Qh _ (Qh _ ?_);rw[Yv _ _ ne];exact Qh _ (hk b o e)
theorem aWd: ∀(vals:List Qd),(∀v∈vals,∃k t,v=Ym k t)->∃ts,StrsAre vals ts
 | [],_=>⟨[],.nil⟩
 | v::vs,h=>by
  obtain⟨k,t,e⟩:=h v (by simp);obtain⟨ts,h2⟩:=aWd vs fun v hv=>h v (by simp[hv])
  subst e;exact⟨k::ts,.cons k t h2⟩
theorem aSr: ∀{vals:List Qd} {ts:List Str},StrsAre vals ts->∀{k:Str} {t:Tok},Ym k t∈vals->k∈ts
 | _,_,.cons y u r,k,t,h=>by
  rcases List.mem_cons.mp h with e | e
  ·injection e with e1;subst e1;simp
  ·exact Qw _ (aSr r e)
theorem aUc {a:Addr}{ss:List Str}{Q:Qd->Qf->Prop}(hh:A.handled=none)(h64:ss.length<64)(hn:ss.Nodup)(z:s.heap.SetOf (Qk prog w) a (fun k=>ss.contains k) ss.length)(zt:aVc w s.heap a)
  (h: ∀out l h' tk d m,StrsAre out (aWg ss)->s.heap.objs.size<=l->h'.get? l=some {cls:= .type "list",data:= .seq out.toArray m}->(∀b o,s.heap.get? b=some o->h'.get? b=some o)->Q (.ref l) {s with heap:=h',toks:=tk,drawn:=d}):
  Qm (Ql prog w) A (call (.builtin "sorted") [.ref a]) Q E s:=by
 obtain⟨o,es,ep,t,ho,hx,hd,hel,hm,hb,hf,hsz⟩:=z;obtain⟨o2,ho2,es2,ep2,t2,hd2,hw,hp⟩:=zt;rw[ho] at ho2;cases ho2;rw[hd] at hd2;cases hd2;have hs:Qq=16777216:=sizeLine_eq;refine aWh hh h64 (fun B Q' hB q=>aR7 hB ho hx hd hf (by unfold scanBound at hb;omega) hw (hp.imp_left fun e=>by omega) fun vals h' tk d pv le kp=> ?_) h;have hstr: ∀v∈vals,∃k t,v=Ym k t:=by
  intro v hv;obtain⟨e,he,rfl⟩:=List.mem_map.mp (pv.subset hv);obtain⟨⟨k,hk,_⟩,_⟩:=hel e he;obtain⟨t,et⟩:=Zx hk;exact⟨k,t,et⟩
 obtain⟨ts,hS⟩:=aWd vals hstr;refine q vals ts h' tk d hS (aLz ss ts hn (fun k hk=> ?_) ?_) le kp
 ·obtain⟨e,he,hi⟩:=(hm k).mp (by simpa using hk)
  obtain⟨t,et⟩:=Zx hi;refine aSr hS (t:=t) (pv.symm.subset ?_);rw[<-et];exact List.mem_map.mpr ⟨e,he,rfl⟩
 ·rw[<-hS.len_eq,pv.length_eq,Qv,Zj,hsz]
end
inductive D where
 | non | bl (b:Bool) | int (i:Int) | str (x:Str) | tup (ds:List D) | lst (ds:List D) | obj (C:Addr) (fs:List (Str×D))
 | dk (kvs:List (Key×D)) | dt (kvs:List (List Key×D)) | exc (C:Addr) | set (ss:List Str)
def excAt (a C:Addr)(h:Heap):Prop:= ∃o,h.get? a=some o/\o.cls= .ref C
def TQ (K:Qb)(H:Hp)(a:Addr)(vs:List V):Prop:=H a=some (.tup vs)
theorem TQ.of {K:Qb}{H:Hp}{a:Addr}{vs:List V}(h:H a=some (.tup vs)):TQ K H a vs:=h
theorem TQ.sq {K:Qb}{H:Hp}{a:Addr}{vs:List V}(h:TQ K H a vs):SqT K H a vs:=SqT.of h
instance {K:Qb} {H:Hp} {a:Addr} {vs:List V}:Coe (TQ K H a vs) (SqT K H a vs):=⟨TQ.sq⟩
theorem bDx {H H':Hp}(e:Same H H'){a:Addr}{u:HO}(h:Rd H a u):Rd H' a u:=h.imp (e _ _) fun⟨o,q⟩=>⟨o,e _ _ q⟩
mutual
inductive Is (K:Qb)(H:Hp):D->V->Prop where
 | non:Is K H .non .non
 | bl (b:Bool):Is K H (.bl b) (.bl b)
 | int (i:Int):Is K H (.int i) (.int i)
 | str (x:Str):Is K H (.str x) (.str x)
 | tup {a:Addr} {ds:List D} {vs:List V} (h:TQ K H a vs) (r:IsL K H ds vs):Is K H (.tup ds) (.ref a)
 | lst {a:Addr} {ds:List D} {vs:List V} (h:SqL K H a vs) (r:IsL K H ds vs):Is K H (.lst ds) (.ref a)
 | obj {a C dx:Addr} {fs:List (Str×D)} {vs:List (Str×V)} (h:H a=some (.ins C dx vs)) (r:IsF K H fs vs):Is K H (.obj C fs) (.ref a)
 | dk {a:Addr} {kvs:List (Key×D)} {vs:List (Key×V)} (h:Rd H a (.dK vs)) (r:IsK K H kvs vs):Is K H (.dk kvs) (.ref a)
 | dt {a:Addr} {kvs:List (List Key×D)} {vs:List (List Key×V)} (h:H a=some (.dT vs)) (r:IsT K H kvs vs):Is K H (.dt kvs) (.ref a)
 | exc {a C:Addr} (h:H a=some (.ext (excAt a C))):Is K H (.exc C) (.ref a)
 | set {a:Addr} {ss:List Str} (h:H a=some (.set (fun k=>ss.contains k) ss.length)):Is K H (.set ss) (.ref a)
inductive IsK (K:Qb)(H:Hp):List (Key×D)->List (Key×V)->Prop where
 | nil:IsK K H [] []
 | cons {x:Key} {d:D} {v:V} {ds:List (Key×D)} {vs:List (Key×V)} (h:Is K H d v) (r:IsK K H ds vs):IsK K H ((x,d)::ds) ((x,v)::vs)
inductive IsT (K:Qb)(H:Hp):List (List Key×D)->List (List Key×V)->Prop where
 | nil:IsT K H [] []
 | cons {x:List Key} {d:D} {v:V} {ds:List (List Key×D)} {vs:List (List Key×V)} (h:Is K H d v) (r:IsT K H ds vs):IsT K H ((x,d)::ds) ((x,v)::vs)
inductive IsL (K:Qb)(H:Hp):List D->List V->Prop where
 | nil:IsL K H [] []
 | cons {d:D} {v:V} {ds:List D} {vs:List V} (h:Is K H d v) (r:IsL K H ds vs):IsL K H (d::ds) (v::vs)
inductive IsF (K:Qb)(H:Hp):List (Str×D)->List (Str×V)->Prop where
 | nil:IsF K H [] []
 | cons {x:Str} {d:D} {v:V} {ds:List (Str×D)} {vs:List (Str×V)} (h:Is K H d v) (r:IsF K H ds vs):IsF K H ((x,d)::ds) ((x,v)::vs)
end
section
variable {K:Qb}{H H':Hp}
theorem SqT.mono {a:Addr}{xs:List V}(e:Same H H')(h:SqT K H a xs):SqT K H' a xs:=by
 rcases h with (h |⟨o,h⟩) | h
 ·exact .inl (.inl (e _ _ h))
 ·exact .inl (.inr ⟨o,e _ _ h⟩)
 ·exact .inr h
theorem Is.mono (e:Same H H'){d:D}{v:V}(h:Is K H d v):Is K H' d v:=
 Is.rec (motive_1:=fun d v _=>Is K H' d v) (motive_2:=fun ds vs _=>IsK K H' ds vs) (motive_3:=fun ds vs _=>IsT K H' ds vs) (motive_4:=fun ds vs _=>IsL K H' ds vs) (motive_5:=fun ds vs _=>IsF K H' ds vs)
  .non .bl .int .str (fun h _ r=> .tup (e _ _ h) r) (fun h _ r=> .lst (e.seq h) r) (fun h _ r=> .obj (e _ _ h) r) (fun h _ r=> .dk (bDx e h) r) (fun h _ r=> .dt (e _ _ h) r) (fun h=> .exc (e _ _ h)) (fun h=> .set (e _ _ h))
  .nil (fun _ _ i r=> .cons i r) .nil (fun _ _ i r=> .cons i r) .nil (fun _ _ i r=> .cons i r) .nil (fun _ _ i r=> .cons i r) h
theorem IsK.mono (e:Same H H'): ∀{ds:List (Key×D)} {vs:List (Key×V)},IsK K H ds vs->IsK K H' ds vs:=by
 intro ds
 induction ds with
 | nil=>intro vs h;cases h;exact .nil
 | cons d ds ih=>intro vs h;cases h with | cons i r=>exact .cons (i.mono e) (ih r)
theorem IsT.mono (e:Same H H'): ∀{ds:List (List Key×D)} {vs:List (List Key×V)},IsT K H ds vs->IsT K H' ds vs:=by
 intro ds
 induction ds with
 | nil=>intro vs h;cases h;exact .nil
 | cons d ds ih=>intro vs h;cases h with | cons i r=>exact .cons (i.mono e) (ih r)
theorem IsL.mono (e:Same H H'): ∀{ds:List (D)} {vs:List (V)},IsL K H ds vs->IsL K H' ds vs:=by
 intro ds
 induction ds with
 | nil=>intro vs h;cases h;exact .nil
 | cons d ds ih=>intro vs h;cases h with | cons i r=>exact .cons (i.mono e) (ih r)
theorem IsF.mono (e:Same H H'): ∀{ds:List (Str×D)} {vs:List (Str×V)},IsF K H ds vs->IsF K H' ds vs:=by
 intro ds
 induction ds with
 | nil=>intro vs h;cases h;exact .nil
 | cons d ds ih=>intro vs h;cases h with | cons i r=>exact .cons (i.mono e) (ih r)
theorem IsL.length: ∀{ds:List D} {vs:List V},IsL K H ds vs->ds.length=vs.length:=by
 intro ds
 induction ds with
 | nil=>intro vs h;cases h;rfl
 | cons d ds ih=>intro vs h;cases h with | cons _ r=>exact congrArg (· +1) (ih r)
theorem IsL.get: ∀{ds:List D} {vs:List V} {i:Nat} {d:D},IsL K H ds vs->ds[i]? =some d->∃v,vs[i]? =some v/\Is K H d v
 | _,_,_,_,.nil,e=>by simp at e
 | _,_,0,_,.cons h _,e=>by simp at e;subst e;exact⟨_,rfl,h⟩
 | _,_,i+1,d,.cons _ r,e=>by
  obtain⟨v,h1,h2⟩:=IsL.get (i:=i) (d:=d) r (by simpa using e);exact⟨v,by simpa using h1,h2⟩
theorem IsL.bLa: ∀{ds:List D} {vs:List V} {i:Nat} {v:V},IsL K H ds vs->vs[i]? =some v->∃d,ds[i]? =some d/\Is K H d v
 | _,_,_,_,.nil,e=>by simp at e
 | _,_,0,_,.cons h _,e=>by simp at e;subst e;exact⟨_,rfl,h⟩
 | _,_,i+1,v,.cons _ r,e=>by
  obtain⟨d,h1,h2⟩:=IsL.bLa (i:=i) (v:=v) r (by simpa using e);exact⟨d,by simpa using h1,h2⟩
theorem IsL.append: ∀{ds es:List D} {vs ws:List V},IsL K H ds vs->IsL K H es ws->IsL K H (ds++es) (vs++ws):=by
 intro ds
 induction ds with
 | nil=>intro es vs ws h s;cases h;exact s
 | cons d ds ih=>intro es vs ws h s;cases h with | cons i r=>exact .cons i (ih r s)
theorem IsL.take: ∀{ds:List D} {vs:List V} (n:Nat),IsL K H ds vs->IsL K H (ds.take n) (vs.take n)
 | _,_,0,_=> .nil
 | _,_,_+1,.nil=> .nil
 | _,_,n+1,.cons h r=> .cons h (IsL.take n r)
theorem IsL.drop: ∀{ds:List D} {vs:List V} (n:Nat),IsL K H ds vs->IsL K H (ds.drop n) (vs.drop n)
 | _,_,0,r=>r
 | _,_,_+1,.nil=> .nil
 | _,_,n+1,.cons _ r=>IsL.drop n r
theorem IsF.lookup: ∀{fs:List (Str×D)} {vs:List (Str×V)} {x:Str} {d:D},IsF K H fs vs->fs.lookup x=some d->∃v,vs.lookup x=some v/\Is K H d v
 | _,_,_,_,.nil,e=>by simp at e
 | _,_,x,d,.cons (x:=y) (d:=d') (v:=v') (ds:=fs) (vs:=vs) h r,e=>by
  rw[Uj] at e⊢;cases q:(x==y) with
  | true=>rw[q] at e;simp at e;subst e;exact⟨_,rfl,h⟩
  | false=>rw[q] at e;exact IsF.lookup r e
theorem IsF.aUr: ∀{fs:List (Str×D)} {vs:List (Str×V)} {x:Str},IsF K H fs vs->fs.lookup x=none->vs.lookup x=none:=by
 intro fs
 induction fs with
 | nil=>intro vs x h e;cases h;rfl
 | cons f fs ih=>
  intro vs x h e;cases h with
  | cons i r=>
   rename_i y d' v' vs;rw[Uj] at e⊢;cases q:(x==y) with
   | true=>rw[q] at e;simp at e
   | false=>rw[q] at e;exact ih r e
theorem IsF.length: ∀{ds:List (Str×D)} {vs:List (Str×V)},IsF K H ds vs->ds.length=vs.length:=by
 intro ds
 induction ds with
 | nil=>intro vs h;cases h;rfl
 | cons d ds ih=>intro vs h;cases h with | cons _ r=>exact congrArg (· +1) (ih r)
theorem aTh: ∀(ns:List Int),IsL K H (ns.map D.int) (ns.map V.int)
 | []=> .nil
 | n::r=> .cons (.int n) (aTh r)
end
inductive DO where
 | k (kvs:List (Key×D)) | t (kvs:List (List Key×D))
def DO.d:DO->D
 | .k kvs=> .dk kvs
 | .t kvs=> .dt kvs
def kD:Key->D
 | .inl i=> .int i
 | .inr x=> .str x
inductive NK where
 | l | k (ks:List Key) | t (ks:List (List Key))
def NK.d:NK->List (List D)->D
 | .l,ls=> .lst (ls.map D.lst)
 | .k ks,ls=> .dk (ks.zip (ls.map D.lst))
 | .t ks,ls=> .dt (ks.zip (ls.map D.lst))
inductive SV where
 | sh (d:D) | own (ds:List D) | oin (a C dx:Addr) (fs:List (Str×D)) | ow (o:DO) | tk (ks:List Key) | nl (kd:NK) (ls:List (List D))
abbrev Rho:=List (Option SV)
def SV.cur:SV->D
 | .sh d=>d
 | .own ds=> .lst ds
 | .oin _ C _ fs=> .obj C fs
 | .ow o=>o.d
 | .tk ks=> .tup (ks.map kD)
 | .nl kd ls=>kd.d ls
open Classical in
def Off (H:Hp)(O:Nat->Option Addr):Hp:=fun b=>if∃i,O i=some b then none else H b
theorem Off.same (H:Hp)(O:Nat->Option Addr):Same (Off H O) H:=fun b o h=>by
 unfold Off at h;split at h
 ·cases h
 ·exact h
theorem Off.of {H:Hp}{O:Nat->Option Addr}{b:Addr}{o:HO}(h:H b=some o)(n: ∀i,O i≠some b):Off H O b=some o:=by
 unfold Off;rw[if_neg (fun⟨i,e⟩=>n i e)];exact h
theorem Off.not {H:Hp}{O:Nat->Option Addr}{b:Addr}{o:HO}(h:Off H O b=some o): ∀i,O i≠some b:=fun i e=>by
 unfold Off at h;rw[if_pos ⟨i,e⟩] at h;cases h
theorem Off.mono {H H':Hp}{O:Nat->Option Addr}(e:Same H H'):Same (Off H O) (Off H' O):=fun b o h=>Off.of (e _ _ (Off.same H O b o h)) (Off.not h)
theorem Off.less {H:Hp}{O O':Nat->Option Addr}(e: ∀i a,O' i=some a->∃j,O j=some a):Same (Off H O) (Off H O'):=fun b o h=>Off.of (Off.same H O b o h) fun i q=>by
 obtain⟨j,z⟩:=e i b q;exact Off.not h j z
theorem Off.upd {H:Hp}{O:Nat->Option Addr}{a:Addr}{o:HO}{i:Nat}(h:O i=some a):Off (upd H a o) O=Off H O:=by
 funext b
 unfold Off;by_cases q: ∃j,O j=some b
 ·rw[if_pos q,if_pos q]
 ·rw[if_neg q,if_neg q,aAq]
  intro z;subst z;exact q ⟨i,h⟩
def bM6:HO->Bool
 | .lst _=>true
 | .ins _ _ _=>true
 | .dK _=>true
 | .dT _=>true
 | _=>false
def aZz (H:Hp)(O:Nat->Option Addr):Prop:= ∀i a,O i=some a->∃w,H a=some w/\bM6 w=true
def IsO (K:Qb)(H:Hp):DO->HO->Prop
 | .k kvs,.dK vs=>IsK K H kvs vs
 | .t kvs,.dT vs=>IsT K H kvs vs
 | _,_=>False
theorem IsO.mono {K:Qb}{H H':Hp}(e:Same H H'){o:DO}{w:HO}(h:IsO K H o w):IsO K H' o w:=by
 cases o<;>cases w<;>first | exact Qg h | skip
 ·exact IsK.mono e h
 ·exact IsT.mono e h
theorem IsO.is {K:Qb}{H:Hp}{o:DO}{w:HO}{a:Addr}(ha:H a=some w)(h:IsO K H o w):Is K H o.d (.ref a):=by
 cases o<;>cases w<;>first | exact Qg h | skip
 ·exact .dk (.inl ha) h
 ·exact .dt ha h
theorem bK4 {K:Qb}{H:Hp}(k:Key):Is K H (kD k) (kV k):=by
 cases k
 ·exact .int _
 ·exact .str _
theorem bC2 {K:Qb}{H:Hp}: ∀(ks:List Key),IsL K H (ks.map kD) (ks.map kV)
 | []=> .nil
 | k::ks=> .cons (bK4 k) (bC2 ks)
theorem aZz.mono {H H':Hp}{O:Nat->Option Addr}(e:Same H H')(h:aZz H O):aZz H' O:=fun i a q=>by
 obtain⟨w,h1,h2⟩:=h i a q;exact⟨w,e _ _ h1,h2⟩
def nx (n i j:Nat):Nat:=n*(j+1)+i
def PV:NK->List Addr->HO->Prop
 | .l,bs,.lst vs=>vs=bs.map V.ref
 | .k ks,bs,.dK kvs=>ks.length=bs.length/\kvs=ks.zip (bs.map V.ref)
 | .t ks,bs,.dT kvs=>ks.length=bs.length/\kvs=ks.zip (bs.map V.ref)
 | _,_,_=>False
def InL (K:Qb)(H:Hp)(O:Nat->Option Addr)(n i:Nat):Nat->List Addr->List (List D)->Prop
 | _,[],[]=>True
 | j,b::bs,ds::ls=>(O (nx n i j)=some b/\∃vs,H b=some (.lst vs)/\IsL K (Off H O) ds vs)/\InL K H O n i (j+1) bs ls
 | _,_,_=>False
theorem bKq {n i:Nat}(j:Nat):n<=nx n i j:=by
 unfold nx;rw[Nat.mul_add,Nat.mul_one];omega
theorem InL.move {K:Qb}{H H':Hp}{O O':Nat->Option Addr}{n i:Nat}(hO: ∀m b w,n<=m->O m=some b->H b=some w->O' m=some b/\H' b=some w)(sm:Same (Off H O) (Off H' O')): ∀{bs:List Addr} {ls:List (List D)} {j:Nat},InL K H O n i j bs ls->InL K H' O' n i j bs ls
 | [],[],_,_=>True.intro
 | b::bs,ds::ls,j,⟨⟨h1,vs,h2,h3⟩,h4⟩=>by
  obtain⟨e1,e2⟩:=hO _ b _ (bKq j) h1 h2;exact⟨⟨e1,vs,e2,h3.mono sm⟩,InL.move hO sm h4⟩
 | [],_::_,_,h=>Qg h
 | _::_,[],_,h=>Qg h
def NL (K:Qb)(H:Hp)(O:Nat->Option Addr)(σ:St)(i:Nat)(kd:NK)(ls:List (List D)):Prop:=
 ∃a w bs,O i=some a/\σ[i]? =some (some (.ref a))/\H a=some w/\PV kd bs w/\InL K H O σ.length i 0 bs ls
theorem NL.move {K:Qb}{H H':Hp}{O O':Nat->Option Addr}{σ σ':St}{i:Nat}{kd:NK}{ls:List (List D)}(hl:σ'.length=σ.length)(hs:σ'[i]? =σ[i]?)(hO: ∀m b w,(m=i\/σ.length<=m)->O m=some b->H b=some w->O' m=some b/\H' b=some w)(sm:Same (Off H O) (Off H' O'))
  (h:NL K H O σ i kd ls):NL K H' O' σ' i kd ls:=by
 obtain⟨a,w,bs,h1,h2,h3,h4,h5⟩:=h;obtain⟨e1,e2⟩:=hO i a w (.inl rfl) h1 h3;refine⟨a,w,bs,e1,hs.trans h2,e2,h4,?_⟩;rw[hl];exact InL.move (fun m b w hm=>hO m b w (.inr hm)) sm h5
def Slot (K:Qb)(H:Hp)(O:Nat->Option Addr)(σ:St)(i:Nat):SV->Prop
 | .sh d=> ∃v,σ[i]? =some (some v)/\Is K (Off H O) d v
 | .own ds=> ∃a vs,O i=some a/\σ[i]? =some (some (.ref a))/\H a=some (.lst vs)/\IsL K (Off H O) ds vs
 | .oin a C dx fs=>O i=some a/\σ[i]? =some (some (.ref a))/\dx≠a/\(∃vs,H a=some (.ins C dx vs)/\IsF K (Off H O) fs vs)
 | .ow o=> ∃a w,O i=some a/\σ[i]? =some (some (.ref a))/\H a=some w/\IsO K (Off H O) o w
 | .tk ks=> ∃a,σ[i]? =some (some (.ref a))/\Off H O a=some (.tup (ks.map kV))
 | .nl kd ls=>NL K H O σ i kd ls
theorem bC4 {K:Qb}{H:Hp}{O:Nat->Option Addr}{n i:Nat}: ∀{bs:List Addr} {ls:List (List D)} {j:Nat},InL K H O n i j bs ls->IsL K H (ls.map D.lst) (bs.map V.ref)
 | [],[],_,_=> .nil
 | b::bs,ds::ls,j,⟨⟨_,vs,h2,h3⟩,h4⟩=> .cons (.lst (SqL.of h2) (h3.mono (Off.same _ _))) (bC4 h4)
 | [],_::_,_,h=>Qg h
 | _::_,[],_,h=>Qg h
theorem aYb {K:Qb}{H:Hp}: ∀{ks:List Key} {ds:List D} {vs:List V},IsL K H ds vs->IsK K H (ks.zip ds) (ks.zip vs)
 | [],_,_,_=> .nil
 | _::_,_,_,.nil=> .nil
 | _::_,_,_,.cons i r=> .cons i (aYb r)
theorem aX9 {K:Qb}{H:Hp}: ∀{ks:List (List Key)} {ds:List D} {vs:List V},IsL K H ds vs->IsT K H (ks.zip ds) (ks.zip vs)
 | [],_,_,_=> .nil
 | _::_,_,_,.nil=> .nil
 | _::_,_,_,.cons i r=> .cons i (aX9 r)
theorem NL.is {K:Qb}{H:Hp}{O:Nat->Option Addr}{σ:St}{i:Nat}{kd:NK}{ls:List (List D)}(h:NL K H O σ i kd ls): ∃v,σ[i]? =some (some v)/\Is K H (kd.d ls) v:=by
 obtain⟨a,w,bs,h1,h2,h3,h4,h5⟩:=h;refine⟨.ref a,h2,?_⟩;have z:=bC4 h5;cases kd<;>cases w<;>first | exact Qg h4 | skip
 ·cases h4;exact .lst (SqL.of h3) z
 ·cases h4.2;exact .dk (.inl h3) (aYb z)
 ·cases h4.2;exact .dt h3 (aX9 z)
def Rel (K:Qb)(H₀:Hp)(ρ:Rho)(σ:St)(H:Hp):Prop:=
 ∃O:Nat->Option Addr,(∀i j a,O i=some a->O j=some a->i=j)/\aZz H O/\Same H₀ (Off H O)/\ρ.length=σ.length/\∀i sv,ρ[i]? =some (some sv)->Slot K H O σ i sv
section
variable {K:Qb}{H₀ H H':Hp}{ρ:Rho}{σ:St}
theorem Slot.mono {O:Nat->Option Addr}{i:Nat}{sv:SV}(e:Same H H')(h:Slot K H O σ i sv):Slot K H' O σ i sv:=by
 cases sv with
 | sh d=>obtain⟨v,h1,h2⟩:=h;exact⟨v,h1,h2.mono (Off.mono e)⟩
 | own ds=>obtain⟨a,vs,h1,h2,h3,h4⟩:=h;exact⟨a,vs,h1,h2,e _ _ h3,h4.mono (Off.mono e)⟩
 | oin a C dx fs=>obtain⟨h1,h2,h3,vs,h4,h5⟩:=h;exact⟨h1,h2,h3,vs,e _ _ h4,h5.mono (Off.mono e)⟩
 | ow o=>obtain⟨a,w,h1,h2,h3,h4⟩:=h;exact⟨a,w,h1,h2,e _ _ h3,h4.mono (Off.mono e)⟩
 | tk ks=>obtain⟨a,h1,h2⟩:=h;exact⟨a,h1,Off.mono e _ _ h2⟩
 | nl kd ls=>exact NL.move rfl rfl (fun m b w _ e1 e2=>⟨e1,e _ _ e2⟩) (Off.mono e) h
theorem Rel.mono (e:Same H H')(r:Rel K H₀ ρ σ H):Rel K H₀ ρ σ H':=by
 obtain⟨O,h1,ho,h2,hl,h3⟩:=r;exact⟨O,h1,ho.mono e,h2.trans (Off.mono e),hl,fun i sv q=>(h3 i sv q).mono e⟩
theorem Rel.get (r:Rel K H₀ ρ σ H){i:Nat}{sv:SV}(q:ρ[i]? =some (some sv)): ∃v,σ[i]? =some (some v)/\Is K H sv.cur v:=by
 obtain⟨O,h1,ho,h2,hl,h3⟩:=r;have z:=h3 i sv q;cases sv with
 | sh d=>obtain⟨v,e1,e2⟩:=z;exact⟨v,e1,e2.mono (Off.same _ _)⟩
 | own ds=>obtain⟨a,vs,e1,e2,e3,e4⟩:=z;exact⟨.ref a,e2,.lst (SqL.of e3) (e4.mono (Off.same _ _))⟩
 | oin a C dx fs=>obtain⟨e1,e2,e3,vs,e4,e5⟩:=z;exact⟨.ref a,e2,.obj e4 (e5.mono (Off.same _ _))⟩
 | ow o=>obtain⟨a,w,e1,e2,e3,e4⟩:=z;exact⟨.ref a,e2,(e4.mono (Off.same _ _)).is e3⟩
 | tk ks=>obtain⟨a,e1,e2⟩:=z;exact⟨.ref a,e1,.tup (TQ.of (Off.same _ _ _ _ e2)) (bC2 ks)⟩
 | nl kd ls=>exact NL.is z
theorem Rel.kept (r:Rel K H₀ ρ σ H):Same H₀ H:=by
 obtain⟨O,h1,ho,h2,_⟩:=r;exact h2.trans (Off.same _ _)
end
mutual
def D.imm:D->Bool
 | .non=>true | .bl _=>true | .int _=>true | .str _=>true
 | .tup ds=>aIj ds
 | .lst _=>false
 | .obj _ _=>false
 | .dk _=>false
 | .dt _=>false
 | .exc _=>false
 | .set _=>false
def aIj:List D->Bool
 | []=>true
 | d::ds=>d.imm&&aIj ds
end
section
variable {K:Qb}{H H':Hp}
theorem Is.alike (ht: ∀b xs,H b=some (.tup xs)->H' b=some (.tup xs))(hf: ∀b o u,H b=some (.frz o u)->H' b=some (.frz o u)){d:D}{v:V}(q:d.imm=true)(h:Is K H d v):Is K H' d v:=
 Is.rec (motive_1:=fun d v _=>d.imm=true->Is K H' d v) (motive_2:=fun _ _ _=>True) (motive_3:=fun _ _ _=>True) (motive_4:=fun ds vs _=>aIj ds=true->IsL K H' ds vs) (motive_5:=fun _ _ _=>True)
  (fun _=> .non) (fun b _=> .bl b) (fun i _=> .int i) (fun x _=> .str x) (fun h _ r q=> .tup (ht _ _ h) (r q)) (fun _ _ _ q=>Yi (show false=true from q)) (fun _ _ _ q=>Yi (show false=true from q)) (fun _ _ _ q=>Yi (show false=true from q)) (fun _ _ _ q=>Yi (show false=true from q)) (fun _ q=>Yi (show false=true from q)) (fun _ q=>Yi (show false=true from q))
  trivial (fun _ _ _ _=>trivial) trivial (fun _ _ _ _=>trivial) (fun _=> .nil) (fun _ _ i r q=> .cons (i (Bool.and_eq_true_iff.mp q).1) (r (Bool.and_eq_true_iff.mp q).2)) trivial (fun _ _ _ _=>trivial) h q
theorem IsL.alike (ht: ∀b xs,H b=some (.tup xs)->H' b=some (.tup xs))(hf: ∀b o u,H b=some (.frz o u)->H' b=some (.frz o u)): ∀{ds:List D} {vs:List V},aIj ds=true->IsL K H ds vs->IsL K H' ds vs:=by
 intro ds
 induction ds with
 | nil=>intro vs q h;cases h;exact .nil
 | cons d ds ih=>
  intro vs q h;rw[aIj,Q6] at q;cases h with | cons i r=>exact .cons (Is.alike ht hf q.1 i) (ih q.2 r)
theorem aRl {O:Nat->Option Addr}(ho:aZz H O){d:D}{v:V}(q:d.imm=true)(h:Is K H d v):Is K (Off H O) d v:=by
 refine Is.alike (fun b xs e=>Off.of e fun i z=> ?_) (fun b o u e=>Off.of e fun i z=> ?_) q h
 ·obtain⟨u,w,m⟩:=ho i b z;rw[w] at e;cases e;cases m
 ·obtain⟨u,w,m⟩:=ho i b z;rw[w] at e;cases e;cases m
theorem aOm {O:Nat->Option Addr}(ho:aZz H O){ds:List D}{vs:List V}(q:aIj ds=true)(h:IsL K H ds vs):IsL K (Off H O) ds vs:=by
 refine IsL.alike (fun b xs e=>Off.of e fun i z=> ?_) (fun b o u e=>Off.of e fun i z=> ?_) q h
 ·obtain⟨u,w,m⟩:=ho i b z;rw[w] at e;cases e;cases m
 ·obtain⟨u,w,m⟩:=ho i b z;rw[w] at e;cases e;cases m
end
abbrev M (α:Type):=Option (Except Addr α)
def ok {α:Type}(a:α):M α:=some (.ok a)
def err {α:Type}(c:Addr):M α:=some (.error c)
def bnd {α β:Type}(m:M α)(k:α->M β):M β:=match m with
 | none=>none
 | some (.error c)=>some (.error c)
 | some (.ok a)=>k a
@[simp] theorem aDd {α β:Type} (a:α) (k:α->M β):bnd (ok a) k=k a:=rfl
@[simp] theorem bLh {α β:Type} (c:Addr) (k:α->M β):bnd (err c:M α) k=err c:=rfl
@[simp] theorem bJj {α β:Type} (k:α->M β):bnd (none:M α) k=none:=rfl
theorem aB7 {α:Type}{a b:α}(h:ok a=ok b):a=b:=by cases h;rfl
theorem aY7 {α β:Type}{m:M α}{k:α->M β}{b:β}(h:bnd m k=ok b): ∃a,m=ok a/\k a=ok b:=by
 unfold bnd at h;split at h
 ·cases h
 ·cases h
 ·exact⟨_,rfl,h⟩
def Fly (P:Qr)(w:Q2)(outer:List Env)(s:Qf)(ea c:Addr)(H':Hp)(s':Qf):Prop:=
 ∃Bs a0,Heap.FlyingW Bs outer ea (.ref c) a0 s'.heap/\(∀b o o',s.heap.get? b=some o'->b∉frs outer->s'.heap.get? b=some o->Bs.get? b=some o)/\HOk P w H' Bs
def Exc (X:Cx)(pins:List (Addr×Obj))(σ:St)(H:Hp)(c:Addr)(e:Qd)(s:Qf):Prop:= ∃ea,e= .ref ea/\
 ((∃h args,Heap.MadeExcOf h s.heap ea (.ref c) args/\Inv X pins σ H {s with heap:=h})\/
  (∃s1 H1,Inv X pins σ H1 s1/\s.os=s1.os/\AllBare s.gens/\Un (frs X.stack) [] H1 H s1.heap s.heap/\Fly X.prog X.w X.stack s1 ea c H s))
def Thr (X:Cx)(σ:St)(H:Hp)(c:Addr):Prop:= ∀(pins:List (Addr×Obj)) (s:Qf) (H':Hp) (e:Qd),Same H H'->Exc X pins σ H' c e s->X.xe e s
theorem Thr.mono {X:Cx}{σ:St}{H H':Hp}{c:Addr}(e:Same H H')(t:Thr X σ H c):Thr X σ H' c:=fun pins s H2 ev q x=>t pins s H2 ev (e.trans q) x
def Res {α:Type}(X:Cx)(σ:St)(H:Hp)(Q:α->Prop)(m:M α):Prop:=match m with
 | none=>False
 | some (.error c)=>Thr X σ H c
 | some (.ok a)=>Q a
theorem Res.bind {α β:Type}{X:Cx}{σ:St}{H:Hp}{Q:β->Prop}{m:M α}{k:α->M β}(h:Res X σ H Q (bnd m k)):Res X σ H (fun a=>Res X σ H Q (k a)) m:=by
 unfold bnd at h;split at h
 ·exact h
 ·exact h
 ·exact h
theorem Res.mono {α:Type}{X:Cx}{σ:St}{H H':Hp}{Q Q':α->Prop}{m:M α}(e:Same H H')(h:Res X σ H Q m)(i: ∀a,Q a->Q' a):Res X σ H' Q' m:=by
 unfold Res at*;split at h
 ·exact h
 ·exact Thr.mono e h
 ·exact i _ h
theorem Res.imp {α:Type}{X:Cx}{σ:St}{H:Hp}{Q Q':α->Prop}{m:M α}(h:Res X σ H Q m)(i: ∀a,Q a->Q' a):Res X σ H Q' m:=h.mono (Same.refl H) i
def tD (X:Cx)(B:Hp)(f:Rho->M D):TE:=fun σ H Q=> ∃ρ,Rel X.K B ρ σ H/\Res X σ H (fun d=> ∀v H',Same H H'->Is X.K H' d v->Q v H') (f ρ)
def tDT (X:Cx)(B:Hp)(f:Rho->M Bool):TT:=fun σ H Q=> ∃ρ,Rel X.K B ρ σ H/\Res X σ H (fun b=> ∀H',Same H H'->Q b H') (f ρ)
def tDA (X:Cx)(B:Hp)(f:Rho->M (List D)):TA:=fun σ H Q=> ∃ρ,Rel X.K B ρ σ H/\Res X σ H (fun ds=> ∀vs H',Same H H'->IsL X.K H' ds vs->Q vs H') (f ρ)
abbrev PD (X:Cx)(B:Hp)(e:Expr)(f:Rho->M D):Prop:=PE X e (tD X B f)
abbrev PDT (X:Cx)(B:Hp)(e:Expr)(f:Rho->M Bool):Prop:=PT X e (tDT X B f)
abbrev PDW (X:Cx)(B:Hp)(e:Expr)(f:Rho->M Bool):Prop:=PW X e (tDT X B f)
abbrev PDA (X:Cx)(B:Hp)(es:List Expr)(f:Rho->M (List D)):Prop:=PA X es (tDA X B f)
section
variable {X:Cx}{B:Hp}{e a b c:Expr}{es:List Expr}{pos:Pos}
theorem PE.of {t t':TE}(h:PE X e t)(i: ∀σ H Q,t' σ H Q->t σ H Q):PE X e t':=fun pins s σ H Q I q=>h pins s σ H Q I (i σ H Q q)
theorem PT.of {t t':TT}(h:PT X e t)(i: ∀σ H Q,t' σ H Q->t σ H Q):PT X e t':=fun pins s σ H Q I q=>h pins s σ H Q I (i σ H Q q)
theorem PA.of {t t':TA}(h:PA X es t)(i: ∀σ H Q,t' σ H Q->t σ H Q):PA X es t':=fun pos pins s σ H Q I q=>h pos pins s σ H Q I (i σ H Q q)
def look (i:Nat):Rho->M D:=fun ρ=>match ρ[i]? with
 | some (some sv)=>ok sv.cur
 | _=>none
theorem aAe (i:Nat){x:Str}{pos:Pos}(hN:X.N[i]? =some x:=by rfl)(hv:Vis X.env.scope x:=by first | exact Zf rfl | exact Ud (Zf rfl) | exact Ud (Ud rfl))(hd:(x==("__debug__":Str))=false:=by decide)
  (hcd:(x==("__classdict__":Str))=false:=by decide):PD X B (.Name x pos) (look i):=by
 refine PE.of (aE8 hN hv hd hcd) fun σ H Q h=> ?_
 obtain⟨ρ,r,h⟩:=h;unfold look at h;split at h
 ·rename_i sv q
  obtain⟨v,e1,e2⟩:=r.get q;exact⟨v,e1,h v H (Same.refl H) e2⟩
 ·exact Qg h
def con (d:D):Rho->M D:=fun _=>ok d
theorem aAr {i j pos}:PD X B (.Constant (.int i) j pos) (con (.int i)):=PE.of bHe fun σ H Q ⟨ρ,r,h⟩=>h _ H (Same.refl H) (.int i)
theorem bEi {i j pos}:PD X B (.Constant (.bool i) j pos) (con (.bl i)):=PE.of bKk fun σ H Q ⟨ρ,r,h⟩=>h _ H (Same.refl H) (.bl i)
theorem aFs {x j pos}:PD X B (.Constant (.str x) j pos) (con (.str x)):=PE.of bCn fun σ H Q ⟨ρ,r,h⟩=>h _ H (Same.refl H) (.str x)
def b2 (g:D->D->M D)(fa fb:Rho->M D):Rho->M D:=fun ρ=>bnd (fa ρ) fun x=>bnd (fb ρ) fun y=>g x y
def aQx (X:Cx)(r:R2)(g:D->D->M D):Prop:= ∀(H:Hp) (x y:V) (dx dy d:D) (Q:VK),Is X.K H dx x->Is X.K H dy y->g dx dy=ok d->(∀v H',Same H H'->Is X.K H' d v->Q v H')->r x y H Q
def aHn {α β:Type}(g:α->β->M D):Prop:= ∀x y c,g x y≠err c
variable {fa fb fc:Rho->M D}
theorem aTv {r:R2}{g:D->D->M D}(hg:aQx X r g)(hn:aHn g){σ:St}{H:Hp}{Q:VK}(h:tD X B (b2 g fa fb) σ H Q):tOp r (tD X B fa) (tD X B fb) σ H Q:=by
 obtain⟨ρ,r1,h⟩:=h;refine⟨ρ,r1,(Res.bind h).imp fun dx h1 v H1 e1 i1=>⟨ρ,r1.mono e1,(Res.bind h1).mono e1 fun dy h2 u H2 e2 i2=> ?_⟩⟩;cases q:g dx dy with
 | none=>rw[q] at h2;exact Qg h2
 | some z=>
  cases z with
  | error c=>exact absurd q (hn dx dy c)
  | ok d=>
   rw[q] at h2;exact hg H2 v u dx dy d Q (i1.mono e2) i2 q fun w H3 e3 i3=>h2 w H3 ((e1.trans e2).trans e3) i3
theorem aUj {op:Operator}{r:R2}{g:D->D->M D}(ho:OpR X (binaryOp op) r)(hg:aQx X r g)(hn:aHn g)(ha:PD X B a fa)(hb:PD X B b fb):PD X B (.BinOp a op b pos) (b2 g fa fb):=
 PE.of (bKh ho ha hb) fun _ _ _ h=>aTv hg hn h
theorem bCs {op:CmpOp}{r:R2}{g:D->D->M D}(ho:OpR X (Yl op) r)(hg:aQx X r g)(hn:aHn g)(ha:PD X B a fa)(hb:PD X B b fb)(hm:Yt op b=false):PD X B (.Compare a [op] [b] pos) (b2 g fa fb):=
 PE.of (bD9 ho ha hb hm) fun _ _ _ h=>aTv hg hn h
def tru:D->M Bool
 | .non=>ok false
 | .bl b=>ok b
 | .int i=>ok (i !=0)
 | .tup ds=>ok (!ds.isEmpty)
 | .lst ds=>ok (!ds.isEmpty)
 | _=>none
def bF1:D->M Bool
 | .bl b=>ok b
 | _=>none
def test (f:Rho->M D):Rho->M Bool:=fun ρ=>bnd (f ρ) tru
def aA9 (f:Rho->M D):Rho->M Bool:=fun ρ=>bnd (f ρ) bF1
theorem aFr {op:CmpOp}{r:R2}{g:D->D->M D}(ho:OpR X (Yl op) r)(hg:aQx X r g)(hn:aHn g)(ha:PD X B a fa)(hb:PD X B b fb)(hm:Yt op b=false):PDT X B (.Compare a [op] [b] pos) (aA9 (b2 g fa fb)):=by
 refine PT.of (bD0 ho ha hb hm) fun σ H Q h=> ?_
 obtain⟨ρ,r1,h⟩:=h;refine aTv hg hn ⟨ρ,r1,(Res.bind h).imp fun d h1 v H1 e1 i1=> ?_⟩;unfold bF1 at h1;split at h1
 ·rename_i k
  cases i1;exact⟨k,rfl,h1 H1 e1⟩
 ·exact Qg h1
theorem aL7 {K:Qb}{H:Hp}{ds:List D}{vs:List V}(r:IsL K H ds vs):vs.isEmpty=ds.isEmpty:=by cases r<;>rfl
theorem bJn {K:Qb}{H:Hp}{d:D}{v:V}{k:Bool}(i:Is K H d v)(h:tru d=ok k):bLk K v H k:=by
 cases i with
 | non=>exact (aB7 h).symm
 | bl b=>exact (aB7 h).symm
 | int i=>exact (aB7 h).symm
 | str x=>exact absurd h (by simp[tru,ok])
 | tup h1 r=>exact .inr (.inl ⟨_,h1,by rw[aL7 r];exact (aB7 h).symm⟩)
 | lst h1 r=>exact .inl ⟨_,h1,by rw[aL7 r];exact (aB7 h).symm⟩
 | obj h1 r=>exact absurd h (by simp[tru,ok])
 | dk h1 r=>exact absurd h (by simp[tru,ok])
 | dt h1 r=>exact absurd h (by simp[tru,ok])
 | exc h1=>exact absurd h (by simp[tru,ok])
 | set h1=>exact absurd h (by simp[tru,ok])
theorem aV9 (d:D)(c:Addr):tru d≠err c:=by cases d<;>simp[tru,ok,err]
theorem aRe (ha:PD X B a fa)(he: ∀whole,isTrue a X.env whole=(do let v<-whole;standAt a.pos;holding [v] (truthy v)):=by intro _;rfl):PDT X B a (test fa):=by
 refine PT.of (bAn ha he) fun σ H Q h=> ?_
 obtain⟨ρ,r1,h⟩:=h;refine⟨ρ,r1,(Res.bind h).imp fun d h1 v H1 e1 i1=> ?_⟩;cases q:tru d with
 | none=>rw[q] at h1;exact Qg h1
 | some z=>
  cases z with
  | error c=>exact absurd q (aV9 d c)
  | ok k=>rw[q] at h1;exact⟨k,bJn i1 q,h1 H1 e1⟩
variable {ta tb tc:Rho->M Bool}{rest:List Expr}
def orB (f g:Rho->M Bool):Rho->M Bool:=fun ρ=>bnd (f ρ) fun x=>if x=true then ok true else g ρ
def bCu (f:Rho->M Bool):Rho->M Bool:=fun ρ=>bnd (f ρ) fun x=>ok (!x)
theorem aRf (ha:PDT X B a ta):PDT X B (.UnaryOp .Not a pos) (bCu ta):=by
 refine PT.of (bG5 ha) fun σ H Q h=> ?_
 obtain⟨ρ,r1,h⟩:=h;exact⟨ρ,r1,(Res.bind h).imp fun x h1 H1 e1=>h1 H1 e1⟩
def bGh (f g:Rho->M D):Rho->M D:=fun ρ=>bnd (f ρ) fun x=>bnd (bF1 x) fun k=>if k=true then g ρ else ok (.bl false)
def bKr (f:Rho->M D):Rho->M D:=fun ρ=>bnd (f ρ) fun x=>bnd (bF1 x) fun k=>ok (.bl (!k))
theorem aTu {σ:St}{H:Hp}{Q:Bool->Prop}{d:D}(h:Res X σ H Q (bF1 d)): ∃k,d= .bl k/\Q k:=by
 unfold bF1 at h;split at h
 ·exact⟨_,rfl,h⟩
 ·exact Qg h
theorem bHj {op}(h:PD X B a fa):PD X B (.BoolOp op [a] pos) fa:=bHb h
theorem bCt (ha:PD X B a fa)(hb:PD X B (.BoolOp .And (b::rest) pos) fb):PD X B (.BoolOp .And (a::b::rest) pos) (bGh fa fb):=by
 refine PE.of (bHf ha hb) fun σ H Q h=> ?_
 obtain⟨ρ,r1,h⟩:=h;refine⟨ρ,r1,(Res.bind h).imp fun d h1 v H1 e1 i1=> ?_⟩;obtain⟨k,rfl,h2⟩:=aTu (Res.bind h1);cases i1;refine⟨k,rfl,?_⟩;cases k with
 | true=>exact⟨ρ,r1.mono e1,Res.mono e1 h2 fun y q u H2 e2 i2=>q u H2 (e1.trans e2) i2⟩
 | false=>exact h2 _ H1 e1 (.bl false)
theorem bHk (ha:PD X B a fa):PD X B (.UnaryOp .Not a pos) (bKr fa):=by
 refine PE.of (bHc ha) fun σ H Q h=> ?_
 obtain⟨ρ,r1,h⟩:=h;refine⟨ρ,r1,(Res.bind h).imp fun d h1 v H1 e1 i1=> ?_⟩;obtain⟨k,rfl,h2⟩:=aTu (Res.bind h1);cases i1;exact⟨k,rfl,h2 _ H1 e1 (.bl _)⟩
def aG1:Expr->Bool
 | .Starred .. =>false
 | _=>true
theorem aBu {e:Expr}{es:List Expr}{env:Env}(h:aG1 e=true):Qz (e::es) env=(false,eval e env)::Qz es env:=by
 cases e<;>first | rfl | cases h
theorem aPj {e:Expr}{env:Env}(h:aG1 e=true):Qz [e] env=[(false,eval e env)]:=aBu h
theorem bDp {e f:Expr}{env:Env}(h:aG1 e=true)(h':aG1 f=true):Qz [e,f] env=[(false,eval e env),(false,eval f env)]:=by rw[aBu h,aPj h']
def aBf:Rho->M (List D):=fun _=>ok []
def aAh (f:Rho->M D)(g:Rho->M (List D)):Rho->M (List D):=fun ρ=>bnd (f ρ) fun x=>bnd (g ρ) fun xs=>ok (x::xs)
variable {ga:Rho->M (List D)}
theorem aAk:PDA X B [] aBf:=PA.of aFu fun σ H Q ⟨ρ,r,h⟩=>h [] H (Same.refl H) .nil
theorem aAa (ha:PD X B e fa)(hr:PDA X B es ga)(hs:Qz (e::es) X.env=(false,eval e X.env)::Qz es X.env:=by exact aBu rfl):PDA X B (e::es) (aAh fa ga):=by
 refine PA.of (aC3 ha hr hs) fun σ H Q h=> ?_
 obtain⟨ρ,r1,h⟩:=h;refine⟨ρ,r1,(Res.bind h).imp fun d h1 v H1 e1 i1=>⟨ρ,r1.mono e1,(Res.bind h1).mono e1 fun ds h2 vs H2 e2 i2=> ?_⟩⟩;exact h2 (v::vs) H2 (e1.trans e2) (.cons (i1.mono e2) i2)
theorem aA4 {H:Hp}{p:Addr}(h:H p=none)(o:HO):Same H (upd H p o):=fun b u q=>by rw[aAq (aBi q h)];exact q
def mkT (g:Rho->M (List D)):Rho->M D:=fun ρ=>bnd (g ρ) fun ds=>if ds.length<=1000 then ok (.tup ds) else none
def mkL (g:Rho->M (List D)):Rho->M D:=fun ρ=>bnd (g ρ) fun ds=>if ds.length<=1000 then ok (.lst ds) else none
theorem aRq {n:Nat}(h:n<=1000):n<=Qq:=J0 (aWi h)
theorem aDc {x1}(h:PDA X B es ga):PD X B (.Tuple es x1 pos) (mkT ga):=by
 refine PE.of (bHa h) fun σ H Q h=> ?_
 obtain⟨ρ,r1,h⟩:=h;refine⟨ρ,r1,(Res.bind h).imp fun ds h1 vs H1 e1 i1=> ?_⟩;by_cases hl:ds.length<=1000
 ·rw[if_pos hl] at h1
  exact⟨by rw[<-i1.length];exact aRq hl,fun p hp=>h1 _ _ (e1.trans (aA4 hp _)) (.tup (TQ.of aAs) (i1.mono (aA4 hp _)))⟩
 ·rw[if_neg hl] at h1;exact Qg h1
theorem aJy (h:PDA X B es ga):PD X B (.List es pos) (mkL ga):=by
 refine PE.of (bCo h) fun σ H Q h=> ?_
 obtain⟨ρ,r1,h⟩:=h;refine⟨ρ,r1,(Res.bind h).imp fun ds h1 vs H1 e1 i1=> ?_⟩;by_cases hl:ds.length<=1000
 ·rw[if_pos hl] at h1
  exact⟨by rw[<-i1.length];exact aRq hl,fun p hp=>h1 _ _ (e1.trans (aA4 hp _)) (.lst (SqL.of aAs) (i1.mono (aA4 hp _)))⟩
 ·rw[if_neg hl] at h1;exact Qg h1
end
def bBx:D->D->M D
 | .int i,.int j=>ok (.int (i-j))
 | _,_=>none
def bCw (i j:Int):Bool:=decide (Builtin.Int.intBits i<=1048576)&&decide (Builtin.Int.intBits j<=1048576)
def bJg:D->D->M D
 | .int i,.int j=>if bCw i j=true then ok (.int (i*j)) else none
 | _,_=>none
def aHj:D->D->M D
 | .int i,.int j=>if 0<j/\j<1073741824 then ok (.int (i/j)) else none
 | _,_=>none
def aGs:D->D->M D
 | .int i,.int j=>if 0<j then ok (.int (i%j)) else none
 | _,_=>none
def bGf:D->D->M D
 | .int i,.int j=>if 0<=j/\j<=1000/\i.natAbs<1000 then ok (.int (i^j.toNat)) else none
 | _,_=>none
section
variable {X:Cx}{B:Hp}{a b:Expr}{fa fb:Rho->M D}{pos:Pos}
theorem bEx {i j:Int}(h:bCw i j=true):IntMulOk i j:=by
 unfold bCw at h;rw[Q6] at h;exact IntMulOk.of_bits (of_decide_eq_true h.1) (of_decide_eq_true h.2)
theorem bEm:OpR X (binaryOp .Mult) (rI (fun i j=>bCw i j=true) fun i j=> .int (i*j)):=opI fun _ _ _ _ _ _ _ hc q=>mul_int q (bEx hc)
theorem bGz {h:Int->Int->Int}{g:D->D->M D}(hg: ∀dx dy d,g dx dy=ok d->∃i j,dx= .int i/\dy= .int j/\d= .int (h i j)):aQx X (rI0 fun i j=> .int (h i j)) g:=by
 intro H x y dx dy d Q ix iy e q;obtain⟨i,j,rfl,rfl,rfl⟩:=hg _ _ _ e;cases ix;cases iy;exact⟨i,j,rfl,rfl,q _ H (Same.refl H) (.int _)⟩
theorem bDy {C:Int->Int->Prop}{h:Int->Int->Int}{g:D->D->M D}(hg: ∀dx dy d,g dx dy=ok d->∃i j,dx= .int i/\dy= .int j/\C i j/\d= .int (h i j)):aQx X (rI C fun i j=> .int (h i j)) g:=by
 intro H x y dx dy d Q ix iy e q;obtain⟨i,j,rfl,rfl,c,rfl⟩:=hg _ _ _ e;cases ix;cases iy;exact⟨i,j,rfl,rfl,c,q _ H (Same.refl H) (.int _)⟩
theorem aW3 (ha:PD X B a fa)(hb:PD X B b fb):PD X B (.BinOp a .Sub b pos) (b2 bBx fa fb):=
 aUj bHn (bGz fun dx dy d e=>by
  unfold bBx at e;split at e<;>first |(cases e;done) | exact⟨_,_,rfl,rfl,(aB7 e).symm⟩) (by intro x y c h;unfold bBx at h;(repeat' split at h)<;>cases h) ha hb
theorem aRh (ha:PD X B a fa)(hb:PD X B b fb):PD X B (.BinOp a .FloorDiv b pos) (b2 aHj fa fb):=
 aUj bEn (bDy fun dx dy d e=>by
  unfold aHj at e;split at e<;>first |(cases e;done) | skip
  split at e
  ·rename_i h;exact⟨_,_,rfl,rfl,h,(aB7 e).symm⟩
  ·exact nomatch e) (by intro x y c h;unfold aHj at h;(repeat' split at h)<;>cases h) ha hb
theorem aJx (ha:PD X B a fa)(hb:PD X B b fb):PD X B (.BinOp a .Mod b pos) (b2 aGs fa fb):=
 aUj bHr (bDy fun dx dy d e=>by
  unfold aGs at e;split at e<;>first |(cases e;done) | skip
  split at e
  ·rename_i h;exact⟨_,_,rfl,rfl,h,(aB7 e).symm⟩
  ·exact nomatch e) (by intro x y c h;unfold aGs at h;(repeat' split at h)<;>cases h) ha hb
theorem bHi (ha:PD X B a fa)(hb:PD X B b fb):PD X B (.BinOp a .Pow b pos) (b2 bGf fa fb):=
 aUj bHp (bDy fun dx dy d e=>by
  unfold bGf at e;split at e<;>first |(cases e;done) | skip
  split at e
  ·rename_i h;exact⟨_,_,rfl,rfl,⟨h.1,by omega,by have:=h.2.2;omega⟩,(aB7 e).symm⟩
  ·exact nomatch e) (by intro x y c h;unfold bGf at h;(repeat' split at h)<;>cases h) ha hb
def gLt:D->D->M D
 | .int i,.int j=>ok (.bl (decide (i<j)))
 | _,_=>none
def gGt:D->D->M D
 | .int i,.int j=>ok (.bl (decide (j<i)))
 | _,_=>none
def gGe:D->D->M D
 | .int i,.int j=>ok (.bl (decide (j<=i)))
 | _,_=>none
def eqF:D->D->Option Bool
 | .non,.non=>some true
 | .non,.int _=>some false
 | .int _,.non=>some false
 | .non,.bl _=>some false
 | .bl _,.non=>some false
 | .non,.str _=>some false
 | .str _,.non=>some false
 | .int i,.int j=>some (decide (i=j))
 | .bl i,.bl j=>some (decide (i=j))
 | .str i,.str j=>some (decide (i=j))
 | .int _,.str _=>some false
 | .str _,.int _=>some false
 | .bl _,.str _=>some false
 | .str _,.bl _=>some false
 | _,_=>none
def gEq (x y:D):M D:=match eqF x y with
 | some b=>ok (.bl b)
 | none=>none
def gNe (x y:D):M D:=match eqF x y with
 | some b=>ok (.bl (!b))
 | none=>none
theorem bCl {h:Int->Int->Bool}{g:D->D->M D}(hg: ∀dx dy d,g dx dy=ok d->∃i j,dx= .int i/\dy= .int j/\d= .bl (h i j)):aQx X (rI0 fun i j=> .bl (h i j)) g:=by
 intro H x y dx dy d Q ix iy e q;obtain⟨i,j,rfl,rfl,rfl⟩:=hg _ _ _ e;cases ix;cases iy;exact⟨i,j,rfl,rfl,q _ H (Same.refl H) (.bl _)⟩
theorem bMq:aQx X (rI0 fun i j=> .bl (decide (i<j))) gLt:=bCl fun dx dy d e=>by
  unfold gLt at e;split at e<;>first |(cases e;done) | exact⟨_,_,rfl,rfl,(aB7 e).symm⟩
theorem bMt:aQx X (rI0 fun i j=> .bl (decide (j<=i))) gGe:=bCl fun dx dy d e=>by
  unfold gGe at e;split at e<;>first |(cases e;done) | exact⟨_,_,rfl,rfl,(aB7 e).symm⟩
theorem bM3:aHn gLt:=by intro x y c h;unfold gLt at h;split at h<;>cases h
theorem bM5:aHn gGe:=by intro x y c h;unfold gGe at h;split at h<;>cases h
theorem n_eq:aHn gEq:=by intro x y c h;unfold gEq at h;split at h<;>exact nomatch h
theorem bM2:aHn gNe:=by intro x y c h;unfold gNe at h;split at h<;>exact nomatch h
theorem bIv {K:Qb}{H:Hp}{dx dy:D}{x y:V}{b:Bool}(ix:Is K H dx x)(iy:Is K H dy y)(e:eqF dx dy=some b):bJz x y=true/\decide (x=y)=b:=by
 cases ix with
 | non=>cases iy<;>first |(cases e;done) |(have e':=Option.some.inj e;subst e';exact⟨rfl,by simp⟩)
 | bl=>cases iy<;>first |(cases e;done) |(have e':=Option.some.inj e;subst e';exact⟨rfl,by simp⟩)
 | int=>cases iy<;>first |(cases e;done) |(have e':=Option.some.inj e;subst e';exact⟨rfl,by simp⟩)
 | str=>cases iy<;>first |(cases e;done) |(have e':=Option.some.inj e;subst e';exact⟨rfl,by simp⟩)
 | _=>exact nomatch e
theorem bLs:aQx X rEq gEq:=by
 intro H x y dx dy d Q ix iy e q;unfold gEq at e;split at e
 ·rename_i b hb
  obtain⟨h1,h2⟩:=bIv ix iy hb;have e':=aB7 e;subst e';exact⟨h1,by rw[h2];exact q _ H (Same.refl H) (.bl _)⟩
 ·exact nomatch e
theorem bMp:aQx X rNe gNe:=by
 intro H x y dx dy d Q ix iy e q;unfold gNe at e;split at e
 ·rename_i b hb
  obtain⟨h1,h2⟩:=bIv ix iy hb;have e':=aB7 e;subst e';exact⟨h1,by rw[h2];exact q _ H (Same.refl H) (.bl _)⟩
 ·exact nomatch e
theorem bKl (ha:PD X B a fa)(hb:PD X B b fb):PD X B (.Compare a [.GtE] [b] pos) (b2 gGe fa fb):=bCs bKp bMt bM5 ha hb (aL0 _)
theorem bKm (ha:PD X B a fa)(hb:PD X B b fb):PD X B (.Compare a [.Eq] [b] pos) (b2 gEq fa fb):=bCs bHs bLs n_eq ha hb (aL0 _)
theorem bHg (ha:PD X B a fa)(hb:PD X B b fb):PDT X B (.Compare a [.Lt] [b] pos) (aA9 (b2 gLt fa fb)):=aFr bKo bMq bM3 ha hb (aL0 _)
theorem aDn (ha:PD X B a fa)(hb:PD X B b fb):PDT X B (.Compare a [.Eq] [b] pos) (aA9 (b2 gEq fa fb)):=aFr bHs bLs n_eq ha hb (aL0 _)
theorem bCq (ha:PD X B a fa)(hb:PD X B b fb):PDT X B (.Compare a [.NotEq] [b] pos) (aA9 (b2 gNe fa fb)):=aFr bKn bMp bM2 ha hb (aL0 _)
def gIx:D->D->M D
 | .lst ds,.int i=>match atI ds i with | some d=>ok d | none=>none
 | .tup ds,.int i=>match atI ds i with | some d=>ok d | none=>none
 | .str z,.int i=>if z.length<=1000 then (match atI z.cps.toList i with | some c=>ok (.str ⟨#[c]⟩) | none=>none) else none
 | _,_=>none
theorem bM4:aHn gIx:=by intro x y c h;unfold gIx at h;(repeat' split at h)<;>cases h
theorem aZa {K:Qb}{H:Hp}{ds:List D}{vs:List V}{i:Int}{d:D}(r:IsL K H ds vs)(e:atI ds i=some d): ∃v,atI vs i=some v/\Is K H d v:=by
 unfold atI at e⊢;rw[r.length] at e;cases q:ixN vs.length i with
 | none=>rw[q] at e;exact nomatch e
 | some j=>rw[q] at e;exact r.get e
theorem bMr:aQx X (rIx X.K) gIx:=by
 intro H x y dx dy d Q ix iy e q;unfold gIx at e;split at e
 ·split at e
  ·rename_i d' hd
   cases ix with
   | lst h r=>
    cases iy;have e':=aB7 e;subst e';obtain⟨v,h1,h2⟩:=aZa r hd;exact .inl ⟨_,_,_,v,rfl,rfl,h,h1,q _ H (Same.refl H) h2⟩
  ·cases e
 ·split at e
  ·rename_i d' hd
   cases ix with
   | tup h r=>
    cases iy;have e':=aB7 e;subst e';obtain⟨v,h1,h2⟩:=aZa r hd;exact .inr (.inl ⟨_,_,_,v,rfl,rfl,h,h1,q _ H (Same.refl H) h2⟩)
  ·cases e
 ·split at e
  ·rename_i hz
   split at e
   ·rename_i c hc
    cases ix;cases iy;have e':=aB7 e;subst e';exact .inr (.inr ⟨_,_,c,rfl,rfl,Zi hz (by decide),hc,q _ H (Same.refl H) (.str _)⟩)
   ·cases e
  ·cases e
 ·cases e
theorem aHd (ha:PD X B a fa)(hb:PD X B b fb)(hs:aZc b):PD X B (.Subscript a b pos) (b2 gIx fa fb):=PE.of (bKi bIf ha hb hs) fun _ _ _ h=>aTv bMr bM4 h
def aM5 (f:Rho->M D):Rho->M (Option Int):=fun ρ=>bnd (f ρ) fun d=>match d with | .int i=>ok (some i) | _=>none
def aM6:Rho->M (Option Int):=fun _=>ok none
def tDO (X:Cx)(B:Hp)(f:Rho->M (Option Int)):TO:=fun σ H Q=> ∃ρ,Rel X.K B ρ σ H/\Res X σ H (fun o=> ∀H',Same H H'->Q o H') (f ρ)
theorem aOh:PO X none (tDO X B aM6):=fun pins s σ H Q I ⟨ρ,r,h⟩=>bD5 pins s σ H Q I (h H (Same.refl H))
theorem aOg {e:Expr}(he:PD X B e fa):PO X (some e) (tDO X B (aM5 fa)):=fun pins s σ H Q I ⟨ρ,r,h⟩=>by
 refine bD4 he pins s σ H Q I ⟨ρ,r,(Res.bind h).imp fun d h1 v H1 e1 i1=> ?_⟩;cases i1<;>first | exact Qg h1 | exact⟨_,rfl,h1 H1 e1⟩
def cutD (xs:List D)(lo hi:Option Int):List D:=(xs.drop (HT.sIx xs.length 0 lo)).take (HT.sIx xs.length xs.length hi-HT.sIx xs.length 0 lo)
def aDr (z:Str)(lo hi:Option Int):Str:=⟨((z.cps.toList.drop (HT.sIx z.length 0 lo)).take (HT.sIx z.length z.length hi-HT.sIx z.length 0 lo)).toArray⟩
theorem aQk {α:Type}(xs:List α){i j:Nat}(h:i=0)(h':j=xs.length):(xs.drop i).take (j-i)=xs:=by
 subst h h';rw[List.drop_zero,Nat.sub_zero,List.take_length]
section
variable {prog:Qr}{w:Q2}{A:Za}{E:Qd->Qf->Prop}{s:Qf}
theorem aHi {t sl:Addr}{items:Array Qd}{vl vu:Qd}{lo hi:Option Int}{Q:Qd->Qf->Prop}(ht:IsTup s.heap t items)(hs:s.heap.IsSliceOf sl vl vu .none)(pl:IsPart vl lo)(pu:IsPart vu hi)
  (hw:HT.sIx items.size 0 lo=0/\HT.sIx items.size items.size hi=items.size) (h:Q (.ref t) s):Qm (Ql prog w) A (getItem (.ref t) (.ref sl)) Q E s:=by
 obtain⟨os,hos,hcs,hds⟩:=id hs;have hTs:s.TypeIs (.ref sl) "slice":=⟨os,hos,hcs⟩;unfold getItem
 try with_reducible refine Z8 ?_
 first | refine Qc (Qe ?_) | skip
 refine Qc (wpAny_sequenceKey ht.typeIs (by decide) ?_);refine Qc (Ye (name:=Yh "__getitem__") ht.typeIs Yk
  (Zn Yk ht.typeIs entry_tuple_getitem ?_ (args_tuple_getitem _ _)))
 show Qm _ _ (Builtin.Tuple.tupleItemsOf (.ref t)>>=_) _ _ s;refine Qc (tupleItemsOf_ ht ?_);refine Qc (wpAny_typeOf hTs ?_);rw[if_pos (by decide)];refine Qc (HT.aE6 hs pl pu ?_);show Qm _ _ (if (((HT.sIx items.size 0 lo:Nat):Int)==0&&(1:Int)==1&&(HT.sIx items.size items.size hi-HT.sIx items.size 0 lo)==items.size)=true then _ else _) _ _ s;rw[if_pos (by rw[hw.1,hw.2];simp)];refine Qc (m:=Builtin.Tuple.tupleIsExact _) (Qc (m:=typeOf _) (wpAny_typeOf ht.typeIs (Qe ?_)));rw[if_pos (by decide)];exact Qc (wpAny_rule (Qc (Qe (Qe ⟨_,rfl,Qe h⟩))))
theorem aN7 (z:Str)(l u:Option (Int×Tok)):slicePicked z l u none=(Yb (HT.sIx z.length z.length (u.map (·.1))-HT.sIx z.length 0 (l.map (·.1)))).map (HT.sIx z.length 0 (l.map (·.1))+ ·):=by
 have cl: ∀(i:Int) (d:Nat),max 0 (min (if i<0 then i+(z.length:Int) else i) (z.length:Int))=((HT.sIx z.length d (some i):Nat):Int):=by
  intro i d;show _=(((if i<0 then (i+(z.length:Int)).toNat else min i.toNat z.length):Nat):Int);by_cases hv:i<0
  ·simp only[if_pos hv];omega
  ·simp only[if_neg hv];omega
 have e:slicePicked z l u none=sliceRange ((HT.sIx z.length 0 (l.map (·.1)):Nat):Int) ((HT.sIx z.length z.length (u.map (·.1)):Nat):Int) 1:=by
  unfold slicePicked Builtin.Str.strSliceIndices;simp only[Option.map_none,Jv,show (1:Int)>0 by decide,if_true]
  congr 1
  ·cases l with
   | none=>rfl
   | some i=>exact cl i.1 0
  ·cases u with
   | none=>rfl
   | some i=>exact cl i.1 z.length
 rw[e,sliceRange_one]
end
section
variable {X:Cx}
def bMu (K:Qb):V->Option Int->Option Int->Hp->VK->Prop:=fun x lo hi H Q=> ∃a xs,x= .ref a/\SqT K H a xs/\(HT.sIx xs.length 0 lo=0/\HT.sIx xs.length xs.length hi=xs.length)/\Q (.ref a) H
theorem bDr:SlR X (bMu X.K):=by
 intro pins s σ H x v vl vu lo hi sl Q I rx hs pl pu h;obtain⟨a,xs,rfl,hx,hw,q⟩:=h;cases rx;obtain⟨its,r,ht,hz⟩:=I.tuple hx;have hlen:its.toArray.size=xs.length:=by rw[Qo];exact r.length.symm
 exact⟨"tuple",_,PyProof.Rows.slot_tuple_getitem.lookup,ht.typeIs,aHi ht hs pl pu (by rw[hlen];exact hw) ⟨.ref a,H,I,rfl,q⟩⟩
def bMw:V->Option Int->Option Int->Hp->VK->Prop:=fun x lo hi H Q=> ∃z,x= .str z/\z.length<=Qq/\Q (.str (aDr z lo hi)) H
theorem part_of {v:Qd}{o:Option Int}(p:IsPart v o): ∃l:Option (Int×Tok),v=partValue l/\l.map (·.1)=o:=by
 cases p with
 | none=>exact⟨none,rfl,rfl⟩
 | int i t=>exact⟨some (i,t),rfl,rfl⟩
theorem bGu:SlR X bMw:=by
 intro pins s σ H x v vl vu lo hi sl Q I rx hs pl pu h;obtain⟨z,rfl,hz,q⟩:=h;obtain⟨t,rfl⟩:=rx;obtain⟨l,rfl,rfl⟩:=part_of pl;obtain⟨u,rfl,rfl⟩:=part_of pu;refine⟨"str",_,slot_str_getitem.lookup,typeIs_str s z t,?_⟩;refine wpAny_getItem_str_slice (l:=l) (u:=u) (st:=none) hs rfl ?_;have hp:=aN7 z l u;have hj:HT.sIx z.length z.length (u.map (·.1))<=z.length:=HT.aWr _ _ (Qn _) _;have hi0:HT.sIx z.length 0 (l.map (·.1))<=z.length:=HT.aWr _ 0 (Y5 _) _;have hc:z.cps.toList.length=z.length:=by simp[Str.length]
 unfold sliceMade;rw[hp];split
 ·rename_i hh
  simp only[Option.map_none,Jv,Qv,Y2,Q6,beq_iff_eq] at hh;have e:aDr z (l.map (·.1)) (u.map (·.1))=z:=by
   unfold aDr;rw[aQk _ (by omega) (by omega)]
  exact⟨.str z,H,I,⟨t,rfl⟩,by rw[e] at q;exact q⟩
 ·rw[pick_run]
  refine⟨?_,⟨.str (aDr z (l.map (·.1)) (u.map (·.1))),H,I.tok _,⟨_,rfl⟩,q⟩⟩;show ((z.cps.toList.drop (HT.sIx z.length 0 (l.map (·.1)))).take _).toArray.size<=Qq;rw[Qo,Zu,Jx,hc];omega
end
def bL4:D->Option Int->Option Int->M D
 | .lst ds,lo,hi=>ok (.lst (cutD ds lo hi))
 | .tup ds,lo,hi=>ok (.tup (cutD ds lo hi))
 | .str z,lo,hi=>if z.length<=1000 then ok (.str (aDr z lo hi)) else none
 | _,_,_=>none
def aZx (fa:Rho->M D)(fl fh:Rho->M (Option Int)):Rho->M D:=fun ρ=>bnd (fa ρ) fun x=>bnd (fl ρ) fun l=>bnd (fh ρ) fun h=>bL4 x l h
theorem aYa {K:Qb}{H:Hp}{ds:List D}{vs:List V}(r:IsL K H ds vs)(lo hi:Option Int):IsL K H (cutD ds lo hi) (bDd vs lo hi):=by
 unfold cutD bDd;rw[r.length];exact (r.drop _).take _
theorem aOi {e:Expr}{lo hi:Option Expr}{fl fh:Rho->M (Option Int)}{p2:Pos}(he:PD X B e fa)(hl:PO X lo (tDO X B fl))(hu:PO X hi (tDO X B fh)):PD X B (.Subscript e (.Slice lo hi none p2) pos) (aZx fa fl fh):=by
 refine PE.of (bAs (SlR.or bDs (SlR.or bGt (SlR.or bDr bGu))) he hl hu) fun σ H Q h=> ?_
 obtain⟨ρ,r1,h⟩:=h;refine⟨ρ,r1,(Res.bind h).imp fun d h1 v H1 e1 i1=>⟨ρ,r1.mono e1,(Res.bind h1).mono e1 fun l h2 H2 e2=>⟨ρ,(r1.mono e1).mono e2,(Res.bind h2).mono (e1.trans e2) fun u h3 H3 e3=> ?_⟩⟩⟩;have i3:=(i1.mono e2).mono e3;cases i3 with
 | lst hh r=>exact .inl ⟨_,_,rfl,hh,fun p hp=>h3 _ _ (((e1.trans e2).trans e3).trans (aA4 hp _)) (.lst (SqL.of aAs) ((aYa r l u).mono (aA4 hp _)))⟩
 | tup hh r=>
  rename_i a' ds' vs';have hlen:=r.length;by_cases hn:HT.sIx vs'.length 0 l=0/\HT.sIx vs'.length vs'.length u=vs'.length
  ·have e:cutD ds' l u=ds':=by
    unfold cutD;rw[hlen];exact aQk _ hn.1 (by rw[hn.2,hlen])
   refine .inr (.inr (.inl ⟨_,_,rfl,hh,hn,?_⟩));have h4:=h3 _ _ ((e1.trans e2).trans e3) (show Is X.K H3 (.tup (cutD ds' l u)) (.ref a') by rw[e];exact .tup hh r);exact h4
  ·exact .inr (.inl ⟨_,_,rfl,hh,hn,fun p hp=>h3 _ _ (((e1.trans e2).trans e3).trans (aA4 hp _)) (.tup (TQ.of aAs) ((aYa r l u).mono (aA4 hp _)))⟩)
 | str z=>
  dsimp only[bL4] at h3
  split at h3
  ·rename_i hz
   exact .inr (.inr (.inr ⟨_,rfl,Zi hz (by decide),h3 _ _ ((e1.trans e2).trans e3) (.str _)⟩))
  ·exact Qg h3
 | _=>exact Qg h3
end
def tyN:D->Option String
 | .non=>some "NoneType"
 | .bl _=>some "bool"
 | .int _=>some "int"
 | .str _=>some "str"
 | .tup _=>some "tuple"
 | .lst _=>some "list"
 | .obj _ _=>none
 | .dk _=>some "dict"
 | .dt _=>some "dict"
 | .exc _=>none
 | .set _=>none
def isB (t T:String):Bool:=t==T ||(t=="bool"&&T=="int")
def bK2:List String:=["tuple","list","bool","str","int","dict"]
theorem bE8 (K:Qb){d:D}{t T:String}(ht:tyN d=some t)(hT:T∈bK2):Qa K (.type t) (.type T)=some (isB t T):=by
 unfold bK2 at hT;simp only[Y9,Yr,or_false] at hT;cases d<;>(have e:=ht;unfold tyN at e;first |(cases e;done) | skip)<;>(have e':=Option.some.inj e;subst e')<;>rcases hT with rfl | rfl | rfl | rfl | rfl | rfl<;>kernel_rfl
section
variable {X:Cx}{B:Hp}{pins:List (Addr×Obj)}{σ:St}{H:Hp}{s:Qf}
theorem bH9 {d:D}{x:V}{u:Qd}{t:String}(I:Inv X pins σ H s)(i:Is X.K H d x)(r:RelV x u)(ht:tyN d=some t):
  ∃HH:Heap->Prop,PySem.W.KitX X.K u (.type t) HH/\HH s.heap/\u≠ .builtin "__main__.__loader__#opaque":=by
 cases i with
 | non=>cases r;cases ht;exact⟨_,PySem.W.kitx_none,True.intro,fun z=>nomatch z⟩
 | bl b=>cases r;cases ht;exact⟨_,PySem.W.kitx_bool,True.intro,fun z=>nomatch z⟩
 | int b=>obtain⟨t,rfl⟩:=r;cases ht;exact⟨_,PySem.W.kitx_int,True.intro,fun z=>nomatch z⟩
 | str b=>obtain⟨t,rfl⟩:=r;cases ht;exact⟨_,PySem.W.kitx_str,True.intro,fun z=>nomatch z⟩
 | lst h rr=>
  cases r;cases ht;obtain⟨its,_,⟨o,n,e,hc,_,_⟩,_⟩:=I.list h;exact⟨_,PySem.W.kitx_list,⟨o,e,hc⟩,fun z=>nomatch z⟩
 | tup h rr=>
  cases r;cases ht;obtain⟨its,_,⟨o,e,hc,_,_⟩,_⟩:=I.tuple h.sq;exact⟨_,PySem.W.kitx_tuple,⟨o,e,hc⟩,fun z=>nomatch z⟩
 | obj h rr=>cases ht
 | dk h rr=>
  cases r;cases ht;obtain⟨_,_,vs,_,o,es,ep,e1,e2,_⟩:=(show aCn X.prog X.w H s.heap _ (.dK _) from h.ok I.hok);exact⟨_,U8,⟨o,e1,e2.1⟩,fun z=>nomatch z⟩
 | dt h rr=>
  cases r;cases ht;obtain⟨_,_,vs,_,o,es,ep,e1,e2,_⟩:=(show aCn X.prog X.w H s.heap _ (.dT _) from I.hok _ _ h);exact⟨_,U8,⟨o,e1,e2.1⟩,fun z=>nomatch z⟩
 | exc h=>cases ht
 | set h=>cases ht
end
section
variable {X:Cx}{B:Hp}{e:Expr}{fa:Rho->M D}{pos p p2:Pos}
def isi (T:String)(f:Rho->M D):Rho->M D:=fun ρ=>bnd (f ρ) fun d=>match tyN d with | some t=>ok (.bl (isB t T)) | none=>none
theorem bCr {x:Str}{T:String}(hg:Gl X "isinstance")(hm:X.mg "isinstance"=none)(hg2:Gl X x)(hm2:X.mg x=none)(hv:Yq x=some (.type T))(hT:T∈bK2)(ha:PD X B e fa)(hn:x≠"__name__":=by decide)(hd:(x==("__debug__":Str))=false:=by decide)
  (he:Qz [e,.Name x p2] X.env=[(false,eval e X.env),(false,eval (.Name x p2) X.env)]:=by exact bDp rfl rfl) (he2:Qz [.Name x p2] X.env=[(false,eval (.Name x p2) X.env)]:=by exact aPj rfl):PD X B (.Call (.Name "isinstance" p) [e,.Name x p2] [] pos) (isi T fa):=by
 have hc:aHp X (.builtin "isinstance") (fun xs H Q=> ∃d y t,xs=[y,.ty T]/\Is X.K H d y/\tyN d=some t/\Q (.bl (isB t T)) H):=by
  intro pins s σ H xs us Q I r h;obtain⟨d,y,t,rfl,i,ht,q⟩:=h;obtain⟨u,w',rfl,r1,r2⟩:=vals2 r;cases r2;obtain⟨HH,k1,k2,k3⟩:=bH9 I i r1 ht;exact PySem.W.kia_one k1 I.kIn k2 (bE8 X.K ht hT) k3 fun tk=>⟨.bl _,H,I.tok _,rfl,q⟩
 refine PE.of (aGa hc hg hm boot_isinstance (aC3 ha (aC3 (aWy hg2 hm2 hv (v:=V.ty T) rfl hn hd) aFu he2) (by rw[he,he2])) (he:=by rw[he,he2]) (hpl:=by rw[he2];rfl)) fun σ H Q h=> ?_
 obtain⟨ρ,r1,h⟩:=h;refine⟨ρ,r1,(Res.bind h).imp fun d h1 v H1 e1 i1=> ?_⟩;cases q:tyN d with
 | none=>rw[q] at h1;exact Qg h1
 | some t=>rw[q] at h1;exact⟨d,v,t,rfl,i1,q,h1 _ H1 e1 (.bl _)⟩
def aPd:D->M D
 | .tup ds=>ok (.int ds.length)
 | .lst ds=>ok (.int ds.length)
 | _=>none
def f1 (g:D->M D)(f:Rho->M D):Rho->M D:=fun ρ=>bnd (f ρ) g
theorem aS6 (hg:Gl X "len")(hm:X.mg "len"=none)(ha:PD X B e fa)(he:Qz [e] X.env=[(false,eval e X.env)]:=by exact aPj rfl):PD X B (.Call (.Name "len" p) [e] [] pos) (f1 aPd fa):=by
 refine PE.of (aGa aJ1 hg hm PySem.boot_len (aC3 ha aFu he) (he:=by rw[he];rfl) (hpl:=by rfl)) fun σ H Q h=> ?_
 obtain⟨ρ,r1,h⟩:=h;refine⟨ρ,r1,(Res.bind h).imp fun d h1 v H1 e1 i1=> ?_⟩;cases i1 with
 | lst hh r=>exact⟨_,_,rfl,.inl hh,by rw[<-r.length];exact h1 _ H1 e1 (.int _)⟩
 | tup hh r=>exact⟨_,_,rfl,.inr hh,by rw[<-r.length];exact h1 _ H1 e1 (.int _)⟩
 | _=>exact Qg h1
end
inductive Out where
 | nx (ρ:Rho) | rt (d:D) | bk (ρ:Rho) | ct (ρ:Rho) | ex (c:Addr) (ρ:Rho)
def Good (X:Cx)(B:Hp)(E:Ends):Out->Prop
 | .nx ρ=> ∀σ H,Rel X.K B ρ σ H->E.nx σ H
 | .rt d=> ∀v H,Same B H->Is X.K H d v->E.rt v H
 | .bk ρ=> ∀σ H,Rel X.K B ρ σ H->E.bk σ H
 | .ct ρ=> ∀σ H,Rel X.K B ρ σ H->E.ct σ H
 | .ex c ρ=> ∀(pins:List (Addr×Obj)) (s:Qf) (σ:St) (H:Hp) (e:Qd),Rel X.K B ρ σ H->Exc X pins σ H c e s->X.xe e s
def aNd (X:Cx)(B:Hp)(E:Ends):Option Out->Prop
 | none=>False
 | some o=>Good X B E o
def tDS (X:Cx)(B:Hp)(F:Rho->Option Out):TS:=fun E σ H=> ∃ρ,Rel X.K B ρ σ H/\aNd X B E (F ρ)
abbrev PDS (X:Cx)(B:Hp)(st:Stmt)(F:Rho->Option Out):Prop:=PS X st (tDS X B F)
abbrev PDB (X:Cx)(B:Hp)(st:List Stmt)(F:Rho->Option Out):Prop:=PSs X st (tDS X B F)
def lft {α:Type}(m:M α)(ρ:Rho)(k:α->Option Out):Option Out:=match m with
 | none=>none
 | some (.error c)=>some (.ex c ρ)
 | some (.ok a)=>k a
@[simp] theorem bCz {α:Type} (a:α) (ρ:Rho) (k:α->Option Out):lft (ok a) ρ k=k a:=rfl
@[simp] theorem bK0 {α:Type} (c:Addr) (ρ:Rho) (k:α->Option Out):lft (err c:M α) ρ k=some (.ex c ρ):=rfl
theorem aD3 {α:Type}{X:Cx}{B:Hp}{E:Ends}{σ:St}{H:Hp}{ρ:Rho}{m:M α}{k:α->Option Out}(r:Rel X.K B ρ σ H)(h:aNd X B E (lft m ρ k)):Res X σ H (fun a=>aNd X B E (k a)) m:=by
 unfold lft at h;split at h
 ·exact h
 ·exact fun pins s H' e q x=>h pins s σ H' e (r.mono q) x
 ·exact h
section
variable {X:Cx}{B:Hp}{e c:Expr}{fa:Rho->M D}{tc:Rho->M Bool}{pos pos':Pos}{st:Stmt}{sts rest:List Stmt}{F G:Rho->Option Out}
theorem PS.of {t t':TS}(h:PS X st t)(i: ∀E σ H,t' E σ H->t E σ H):PS X st t':=fun pins s σ H E I q=>h pins s σ H E I (i E σ H q)
theorem PSs.of {t t':TS}(h:PSs X sts t)(i: ∀E σ H,t' E σ H->t E σ H):PSs X sts t':=fun pins s σ H E I q=>h pins s σ H E I (i E σ H q)
def aA8:Rho->Option Out:=fun ρ=>some (.nx ρ)
def aAy (F G:Rho->Option Out):Rho->Option Out:=fun ρ=>match F ρ with
 | some (.nx ρ')=>G ρ'
 | o=>o
theorem aAi:PDB X B [] aA8:=PSs.of aDe fun E σ H ⟨ρ,r,h⟩=>h σ H r
theorem aAc (h1:PDS X B st F)(h2:PDB X B rest G):PDB X B (st::rest) (aAy F G):=by
 refine PSs.of (aBo h1 h2) fun E σ H h=> ?_
 obtain⟨ρ,r,h⟩:=h;refine⟨ρ,r,?_⟩;unfold aAy at h;cases q:F ρ with
 | none=>rw[q] at h;exact h
 | some o=>
  rw[q] at h;cases o with
  | nx ρ'=>exact fun σ' H' r'=>⟨ρ',r',h⟩
  | rt d=>exact h
  | bk ρ'=>exact h
  | ct ρ'=>exact h
  | ex c ρ'=>exact h
def aH7 (f:Rho->M D):Rho->Option Out:=fun ρ=>lft (f ρ) ρ fun d=>some (.rt d)
theorem aCw (he:PD X B e fa):PDS X B (.Return (some e) pos) (aH7 fa):=by
 refine PS.of (bG6 he) fun E σ H h=> ?_
 obtain⟨ρ,r,h⟩:=h;exact⟨ρ,r,(aD3 r h).imp fun d h1 v H1 e1 i1=>h1 v H1 (r.kept.trans e1) i1⟩
def aD1 (f:Rho->M D):Rho->Option Out:=fun ρ=>lft (f ρ) ρ fun _=>some (.nx ρ)
theorem aB6 (he:PD X B e fa)(hs:swapsWith e none pos.line X.env=pure false:=by rfl):PDS X B (.Expr e pos) (aD1 fa):=by
 refine PS.of (aLy he hs) fun E σ H h=> ?_
 obtain⟨ρ,r,h⟩:=h;exact⟨ρ,r,(aD3 r h).imp fun d h1 v H1 e1 i1=>h1 σ H1 (r.mono e1)⟩
theorem aH9:PDS X B st (fun _=>none):=PS.of bAo fun E σ H ⟨ρ,r,h⟩=>h
def sIf (t:Rho->M Bool)(F G:Rho->Option Out):Rho->Option Out:=fun ρ=>lft (t ρ) ρ fun k=>if k=true then F ρ else G ρ
theorem aCm {a b:List Stmt}(hc:PDT X B c tc)(ha:PDB X B a F)(hb:PDB X B b G):PDS X B (.If c a b pos) (sIf tc F G):=by
 refine PS.of (aM2 hc ha hb) fun E σ H h=> ?_
 obtain⟨ρ,r,h⟩:=h;refine⟨ρ,r,(aD3 r h).imp fun k h1 H1 e1=> ?_⟩;cases k with
 | true=>exact⟨ρ,r.mono e1,h1⟩
 | false=>exact⟨ρ,r.mono e1,h1⟩
def SV.rel:SV->SV
 | .sh d=> .sh d
 | .own ds=> .sh (.lst ds)
 | .oin a C dx fs=> .sh (.obj C fs)
 | .ow o=> .sh o.d
 | .tk ks=> .sh (.tup (ks.map kD))
 | .nl kd ls=> .sh (kd.d ls)
def free (ρ:Rho):Rho:=ρ.map fun o=>o.map SV.rel
def aMh (i:Nat)(d:D)(ρ:Rho):Rho:=if d.imm=true then ρ.set i (some (.sh d)) else (free ρ).set i (some (.sh d))
theorem Rel.aWk {K:Qb}{H₀ H:Hp}{ρ:Rho}{σ:St}{i:Nat}{d:D}{v:V}(O:Nat->Option Addr)(h1: ∀i j a,O i=some a->O j=some a->i=j)(ho:aZz H O)(h2:Same H₀ (Off H O))(hl:ρ.length=σ.length)(h3: ∀j sv,ρ[j]? =some (some sv)->j≠i->Slot K H O σ j sv)
  (iv:Is K (Off H O) d v):Rel K H₀ (ρ.set i (some (.sh d))) (σ.set i (some v)) H:=by
 by_cases hi:i<σ.length
 case neg=>
  have s1: ∀x:Option SV,ρ.set i x=ρ:=fun x=>Z6 (by omega)
  have s2: ∀x:Option V,σ.set i x=σ:=fun x=>Z6 (by omega)
  rw[s1,s2];exact⟨O,h1,ho,h2,hl,fun j sv q=>h3 j sv q (fun z=>by have:=(List.getElem?_eq_some_iff.mp q).1;omega)⟩
 have hO: ∀(j:Nat) (a:Addr),(if j=i then none else O j)=some a->O j=some a:=fun j a q=>by
  split at q
  ·cases q
  ·exact q
 have less:Same (Off H O) (Off H fun j=>if j=i then none else O j):=Off.less fun j a q=>⟨j,hO j a q⟩
 refine⟨fun j=>if j=i then none else O j,fun j k a q1 q2=>h1 j k a (hO j a q1) (hO k a q2),fun j a q=>ho j a (hO j a q),h2.trans less,by rw[Q5,Q5,hl],fun j sv q=> ?_⟩;by_cases e:j=i
 ·subst e
  have hj:j<ρ.length:=by
   have:=(List.getElem?_eq_some_iff.mp q).1
   rwa [Q5] at this
  rw[Q1 hj] at q;have q':=Option.some.inj (Option.some.inj q);subst q';exact⟨v,Q1 (by rw[<-hl];exact hj),iv.mono less⟩
 ·rw[Qj (Ne.symm e)] at q
  have z:=h3 j sv q e;cases sv with
  | sh d'=>obtain⟨v',e1,e2⟩:=z;exact⟨v',by rw[Qj (Ne.symm e)];exact e1,e2.mono less⟩
  | own ds=>obtain⟨a,vs,e1,e2,e3,e4⟩:=z;exact⟨a,vs,by show (if j=i then none else O j)=some a;rw[if_neg e];exact e1,by rw[Qj (Ne.symm e)];exact e2,e3,e4.mono less⟩
  | oin a C dx fs=>obtain⟨e1,e2,e3,vs,e4,e5⟩:=z;exact⟨by show (if j=i then none else O j)=some a;rw[if_neg e];exact e1,by rw[Qj (Ne.symm e)];exact e2,e3,vs,e4,e5.mono less⟩
  | ow o=>obtain⟨a,w,e1,e2,e3,e4⟩:=z;exact⟨a,w,by show (if j=i then none else O j)=some a;rw[if_neg e];exact e1,by rw[Qj (Ne.symm e)];exact e2,e3,e4.mono less⟩
  | tk ks=>obtain⟨a,e1,e2⟩:=z;exact⟨a,by rw[Qj (Ne.symm e)];exact e1,less _ _ e2⟩
  | nl kd ls=>exact NL.move (by rw[Q5]) (Qj (Ne.symm e)) (fun m b w hm e1 e2=>⟨by show (if m=i then none else O m)=some b;rw[if_neg (by rcases hm with h | h<;>omega)];exact e1,e2⟩) less z
theorem Rel.freed {K:Qb}{H₀ H:Hp}{ρ:Rho}{σ:St}(r:Rel K H₀ ρ σ H):Rel K H₀ (free ρ) σ H:=by
 obtain⟨O,h1,ho,h2,hl,h3⟩:=id r;have e0:Off H (fun _=>none)=H:=by funext b;unfold Off;rw[if_neg (fun⟨i,e⟩=>nomatch e)]
 refine⟨fun _=>none,(by intro _ _ _ q;cases q),(by intro _ _ q;cases q),by rw[e0];exact r.kept,by unfold free;rw[Qv,hl],fun i sv q=> ?_⟩;unfold free at q;rw[Zp] at q;obtain⟨o,e1,e2⟩:=Option.map_eq_some_iff.mp q;cases o with
 | none=>cases e2
 | some sv0=>
  have e2':sv0.rel=sv:=Option.some.inj e2;subst e2';obtain⟨v,e3,e4⟩:=r.get e1;have:sv0.rel= .sh sv0.cur:=by cases sv0<;>rfl
  rw[this];exact⟨v,e3,by rw[e0];exact e4⟩
theorem Rel.aMh {K:Qb}{H₀ H:Hp}{ρ:Rho}{σ:St}{i:Nat}{d:D}{v:V}(r:Rel K H₀ ρ σ H)(iv:Is K H d v):Rel K H₀ (aMh i d ρ) (σ.set i (some v)) H:=by
 unfold PU.aMh;by_cases q:d.imm=true
 ·rw[if_pos q]
  obtain⟨O,h1,ho,h2,hl,h3⟩:=r;exact Rel.aWk O h1 ho h2 hl (fun j sv e _=>h3 j sv e) (aRl ho q iv)
 ·rw[if_neg q]
  obtain⟨O,h1,ho,h2,hl,h3⟩:=r.freed;have e0:Off H (fun _=>none)=H:=by funext b;unfold Off;rw[if_neg (fun⟨i,e⟩=>nomatch e)]
  have s0:Same (Off H O) (Off H fun _=>none):=Off.less (by intro j a q;cases q);refine Rel.aWk (fun _=>none) (by intro _ _ _ q;cases q) (by intro _ _ q;cases q) (h2.trans s0) hl (fun j sv e _=> ?_) (by rw[e0];exact iv);unfold free at e;rw[Zp] at e;obtain⟨o,e1,e2⟩:=Option.map_eq_some_iff.mp e;cases o with
  | none=>cases e2
  | some sv0=>
   have e2':sv0.rel=sv:=Option.some.inj e2;subst e2';have z:=h3 j sv0.rel (by unfold free;rw[Zp,e1];rfl);have:sv0.rel= .sh sv0.cur:=by cases sv0<;>rfl
   rw[this] at z⊢;obtain⟨v',f1,f2⟩:=z;exact⟨v',f1,f2.mono s0⟩
def aLu (i:Nat)(f:Rho->M D):Rho->Option Out:=fun ρ=>lft (f ρ) ρ fun d=>some (.nx (aMh i d ρ))
theorem aE0 {i:Nat}{x:Str}(hN:X.N.Nodup)(hi:X.N[i]? =some x)(hx:Loc X.env.scope x)(he:PD X B e fa)(hs:swapsWith e (some (.Name x pos')) pos.line X.env=pure false:=by rfl)(hf:X.fn x=true\/X.env.scope.names.lookup x=some .local:=by first | exact .inl rfl | exact .inr rfl | assumption):
  PDS X B (.Assign [.Name x pos'] e pos) (aLu i fa):=by
 refine PS.of (aWw hN hi hx he hs hf) fun E σ H h=> ?_
 obtain⟨ρ,r,h⟩:=h;exact⟨ρ,r,(aD3 r h).imp fun d h1 v H1 e1 i1=>h1 _ H1 ((r.mono e1).aMh i1)⟩
end
def spR (K:Qb)(H:Hp)(Q:VK)(E:XK):M D->Prop
 | none=>False
 | some (.error c)=> ∀H',Same H H'->E (.ref c) none H'
 | some (.ok d)=> ∀v H',Same H H'->Is K H' d v->Q v H'
def spD (K:Qb)(n:Nat)(F:List D->M D):Sp:=fun vs H Q E=> ∃ds,IsL K H ds vs/\vs.length=n/\spR K H Q E (F ds)
def CXD (P:Qr)(w:Q2):CXT:=fun outer H s E e s'=> ∃(c ea:Addr) (H':Hp),e= .ref ea/\s'.os=s.os/\AllBare s'.gens/\Un (frs outer) [] H H' s.heap s'.heap/\Fly P w outer s ea c H' s'/\E (.ref c) none H'
abbrev FnD (P:Qr)(w:Q2)(K:Qb)(mg:Str->Option Qd)(base:Heap)(k:Nat)(f:Addr)(fd:Z5)(ps:List Str)(F:List D->M D):Prop:=aSh P w K mg base (CXD P w) k f fd ps (spD K ps.length F)
def Def (P:Qr)(w:Q2)(K:Qb)(mg:Str->Option Qd)(base:Heap)(k:Nat)(x:Str)(F:List D->M D):Prop:=
 ∃f fd ps,mg x=some (.ref f)/\Jo K (.ref f)=true/\Binds K fd ps []/\(∀ds r,F ds=some r->ds.length=ps.length)/\FnD P w K mg base k f fd ps F
def Mth (P:Qr)(w:Q2)(K:Qb)(mg:Str->Option Qd)(base:Heap)(k:Nat)(C:Addr)(m:Str)(F:List D->M D):Prop:=
 ∃f fd ps,Cls K C/\Meth K C m f/\Binds K fd ps []/\(∀ds r,F ds=some r->ds.length=ps.length)/\FnD P w K mg base k f fd ps F
section
variable {X:Cx}{B:Hp}{k:Nat}{f:Addr}{fd:Z5}{ps:List Str}{F:List D->M D}{pins:List (Addr×Obj)}{σ:St}{H:Hp}{s:Qf}{Q:VK}{us:List Qd}{vs:List V}{ds:List D}
theorem bGv (G:FnD X.prog X.w X.K X.mg X.base k f fd ps F)(hr:aEx k X.A)(hb:Binds X.K fd ps [])(I:Inv X pins σ H s)(r:Vals vs us)(i:IsL X.K H ds vs)
  (h:Res X σ H (fun d=> ∀v H',Same H H'->Is X.K H' d v->Q v H') (F ds)) (hL: ∀ds r,F ds=some r->ds.length=ps.length):Qm (Ql X.prog X.w) X.A (call (.ref f) us) (EP X pins σ Q) X.xe s:=by
 have hn:ds.length=ps.length:=by
  cases q:F ds with
  | none=>rw[q] at h;exact Qg h
  | some z=>exact hL ds z q
 have hl:(us++ []).length=ps.length:=by rw[Zl,<-r.length,<-i.length];exact hn
 have hbb:=hb s us I.kIn hl;rw[Zl] at hbb;have hsp:spD X.K ps.length F vs H Q (fun cv _ H'=> ∃c,cv= .ref c/\Same H H'/\Thr X σ H c):=by
  refine⟨ds,i,by rw[<-i.length];exact hn,?_⟩;cases q:F ds with
  | none=>rw[q] at h;exact Qg h
  | some z=>
   rw[q] at h;cases z with
   | error c=>exact fun H' e=>⟨c,rfl,e,h⟩
   | ok d=>exact h
 refine wpAny_call (codeAny_mono (G.run X.A X.stack s H ⟨us,[]⟩ us vs Q _ hr I.env0 hbb r hsp) fun r s' hq=> ?_);cases r with
 | error e=>
  obtain⟨c,ea,H',ee,os,bare,un,fl,c',ec,sm',th⟩:=hq;cases ec;exact th pins s' H' e sm' ⟨ea,ee,.inr ⟨s,H,I,os,bare,un,fl⟩⟩
 | ok fl=>
  cases fl with
  | ret u=>exact I.after hq
  | next=>exact Qg hq
  | brk=>exact Qg hq
  | cont=>exact Qg hq
variable {x m:Str}{p pos apos:Pos}{e o:Expr}{es:List Expr}{ga:Rho->M (List D)}{fo:Rho->M D}{C:Addr}
def app (F:List D->M D)(g:Rho->M (List D)):Rho->M D:=fun ρ=>bnd (g ρ) F
theorem aZb {R:List V->Hp->Prop}(hR: ∀ds vs H1,Same H H1->IsL X.K H1 ds vs->Res X σ H1 (fun d=> ∀v H',Same H1 H'->Is X.K H' d v->Q v H') (F ds)->R vs H1)(h:tD X B (app F ga) σ H Q):tDA X B ga σ H R:=by
 obtain⟨ρ,r,h⟩:=h;exact⟨ρ,r,(Res.bind h).imp fun ds h1 vs H1 e1 i1=>hR ds vs H1 e1 i1 (h1.mono e1 fun d q v H2 e2 i2=>q v H2 (e1.trans e2) i2)⟩
theorem aBs (G:Def X.prog X.w X.K X.mg X.base k x F)(hr:aEx k X.A)(hg:Gl X x)(ha:PDA X B (e::es) ga)(hdb:(x==("__debug__":Str))=false:=by decide)(he:Qz (e::es) X.env=(false,eval e X.env)::Qz es X.env:=by exact aBu rfl)
  (hpl:(backTo pos (Qz es X.env)).any (·.1)=false:=by rfl):PD X B (.Call (.Name x p) (e::es) [] pos) (app F ga):=by
 intro pins s σ H Q I h;obtain⟨f,fd,ps,h1,h2,h3,hl,h4⟩:=G;refine Y1 (aHh I hg h1 ?_ hdb);refine Jp (h₀:=X.base) I.ok.mod.kin h2 (thn (ha pos pins s σ H _ I (aZb (R:=fun vs H1=> ∃ds,IsL X.K H1 ds vs/\Res X σ H1 (fun d=> ∀v H',Same H1 H'->Is X.K H' d v->Q v H') (F ds)) (fun ds vs H1 e1 i1 h1=>⟨ds,i1,h1⟩) h)) fun us s1 ⟨vs,H1,I1,r,ds,i1,q⟩=>⟨I1.kIn,?_⟩) he hpl;exact bGv h4 hr h3 I1 r i1 q hl
def bB8 (m:Str)(FM:Addr->Option (List D->M D))(fo:Rho->M D)(g:Rho->M (List D)):Rho->M D:=fun ρ=>bnd (fo ρ) fun x=>match x with
 | .obj C fs=>match FM C,fs.lookup m with
  | some F,none=>bnd (g ρ) fun ds=>F (x::ds)
  | _,_=>none
 | _=>none
theorem aOj {pl:Sem Bool}{FM:Addr->Option (List D->M D)}(G: ∀C F,FM C=some F->Mth X.prog X.w X.K X.mg X.base k C m F)(hr:aEx k X.A)(he:PD X B o fo)(ha:PDA X B (e::es) ga)
  (hst:Qz (e::es) X.env=(false,eval e X.env)::Qz es X.env:=by exact aBu rfl) (hpl:(backTo pos (Qz es X.env)).any (·.1)=false:=by rfl)
  (ht:eval (.Call (.Attribute o m apos) (e::es) [] pos) X.env=(do
   let ov<-eval o X.env
   standAt apos.atName
   let (f,first)<-holding [ov] (getMethod ov m pl)
   callWith pos f first (backTo pos (Qz (e::es) X.env)) (backToKw pos (keywordEach [] X.env))):=by rfl):
  PD X B (.Call (.Attribute o m apos) (e::es) [] pos) (bB8 m FM fo ga):=by
 intro pins s σ H Q I h;obtain⟨ρ,r,h⟩:=h;refine Uw (pl:=pl) (thn (he pins s σ H (fun v H1=> ∃a C dx fs vs F,v= .ref a/\H1 a=some (.ins C dx vs)/\IsF X.K H1 fs vs/\fs.lookup m=none/\FM C=some F/\Same H H1/\Res X σ H (fun ds=>Res X σ H (fun d=> ∀v H',Same H H'->Is X.K H' d v->Q v H') (F (.obj C fs::ds))) (ga ρ)) I ⟨ρ,r,(Res.bind h).imp fun d h1 v H1 e1 i1=> ?_⟩) fun u s1 hP=> ?_) ht
 ·cases i1 with
  | obj hh rr=>
   dsimp only at h1
   split at h1
   ·rename_i F hF hl;exact⟨_,_,_,_,_,F,rfl,hh,rr,hl,hF,e1,Res.bind h1⟩
   ·exact Qg h1
  | _=>exact Qg h1
 obtain⟨x,H1,I1,rx,a,C,dx,fs,vs,F,ex,ea,ifs,l,hF,e1,q⟩:=hP;subst ex;obtain rfl:u=Zc a:=rx;obtain⟨f,fd,ps,h1,h2,h3,hl,h4⟩:=G C F hF;refine aNw I1 ea h1 h2 (ifs.aUr l) ?_;have q':tDA X B ga σ H1 (fun vs' H2=> ∃ds,Same H1 H2/\IsL X.K H2 ds vs'/\Res X σ H (fun d=> ∀v H',Same H H'->Is X.K H' d v->Q v H') (F (.obj C fs::ds))):=
  ⟨ρ,r.mono e1,Res.mono e1 q fun ds q1 vs' H2 e2 i2=>⟨ds,e2,i2,q1⟩⟩
 refine Jp (first:=[.ref a]) (h₀:=X.base) I.ok.mod.kin h2.kp (thn (ha pos pins s1 σ H1 _ I1 q') fun us s2 ⟨vs',H2,I2,r2,ds,e2,i2,q2⟩=>⟨I2.kIn,?_⟩) hst hpl;exact bGv (us:= .ref a::us) (vs:= .ref a::vs') (ds:= .obj C fs::ds) h4 hr h3 I2 (.cons rfl r2) (.cons (.obj (e2 _ _ ea) (ifs.mono e2)) i2) (q2.mono (e1.trans e2) fun d z v H' e' i'=>z v H' ((e1.trans e2).trans e') i') hl
def fld (cs:Addr->Bool)(f:Str)(fo:Rho->M D):Rho->M D:=fun ρ=>bnd (fo ρ) fun x=>match x with
 | .obj C fs=>if cs C=true then (match fs.lookup f with | some d=>ok d | none=>none) else none
 | _=>none
theorem aW6 {cs:Addr->Bool}{f:Str}(hC: ∀C,cs C=true->Cls X.K C/\aD8 X.K C f)(he:PD X B o fo)(hb:attributeBase o f X.env (eval o X.env)=eval o X.env:=by rfl):PD X B (.Attribute o f pos) (fld cs f fo):=by
 refine PE.of (bCp he hb) fun σ H Q h=> ?_
 obtain⟨ρ,r,h⟩:=h;refine⟨ρ,r,(Res.bind h).imp fun d h1 v H1 e1 i1=> ?_⟩;cases i1 with
 | obj hh rr=>
  rename_i a C dx fs vs
  dsimp only at h1
  split at h1
  ·rename_i hc
   split at h1
   ·rename_i d hl
    obtain⟨v,q1,q2⟩:=rr.lookup hl;exact⟨a,C,dx,vs,v,rfl,hh,(hC C hc).1,(hC C hc).2,q1,h1 v H1 e1 q2⟩
   ·exact Qg h1
  ·exact Qg h1
 | _=>exact Qg h1
def hid (H:Hp)(a:Addr):Hp:=fun b=>if b=a then none else H b
def spI (K:Qb)(C:Addr)(n:Nat)(F:List D->M (List (Str×D))):Sp:=fun vs H Q E=> ∃a dx ws ds,vs= .ref a::ws/\H a=some (.ins C dx [])/\dx≠a/\IsL K (hid H a) ds ws/\vs.length=n/\(match F ds with
 | none=>False
 | some (.error c)=> ∀H',Same (hid H a) H'->E (.ref c) none H'
 | some (.ok fs)=> ∀H' fvs,H' a=some (.ins C dx fvs)->IsF K H' fs fvs->Same (hid H a) H'->Q .non H')
def Ctor (P:Qr)(w:Q2)(K:Qb)(mg:Str->Option Qd)(base:Heap)(k:Nat)(x:Str)(C:Addr)(F:List D->M (List (Str×D))):Prop:=
 ∃f fd ps,mg x=some (.ref C)/\Mk K C f/\Binds K fd ps []/\(∀ds r,F ds=some r->ds.length+1=ps.length)/\aSh P w K mg base (CXD P w) k f fd ps (spI K C ps.length F)
def mkO (C:Addr)(F:List D->M (List (Str×D)))(ds:List D):M D:=bnd (F ds) fun fs=>ok (.obj C fs)
theorem run_mk {ps:List Str}{F:List D->M (List (Str×D))}(Mm:Mk X.K C f)(G:aSh X.prog X.w X.K X.mg X.base (CXD X.prog X.w) k f fd ps (spI X.K C ps.length F))(hr:aEx (k+1) X.A)(hb:Binds X.K fd ps [])(I:Inv X pins σ H s)(r:Vals vs us)(i:IsL X.K H ds vs)
  (h:Res X σ H (fun d=> ∀v H',Same H H'->Is X.K H' d v->Q v H') (mkO C F ds)) (hL: ∀ds r,F ds=some r->ds.length+1=ps.length):Qm (Ql X.prog X.w) X.A (call (.ref C) us) (EP X pins σ Q) X.xe s:=by
 have hF: ∃z,F ds=some z:=by
  cases q:F ds with
  | none=>unfold mkO at h;rw[q] at h;exact Qg h
  | some z=>exact⟨z,rfl⟩
 obtain⟨z,hz⟩:=hF;have hn:=hL ds z hz;have hsp: ∀x dx,H x=none->H dx=none->dx≠x->spI X.K C ps.length F (.ref x::vs) (upd (upd H dx (.own x)) x (.ins C dx [])) (fun v H2=>v= .non/\Q (.ref x) H2) (fun cv _ H'=> ∃c,cv= .ref c/\Same H H'/\Thr X σ H c):=by
  intro x dx hx hdx ne;have sm:Same H (hid (upd (upd H dx (.own x)) x (.ins C dx [])) x):=fun b o q=>by
   have hb:b≠x:=aBi q hx;unfold hid;rw[if_neg hb,aAq hb,aAq (aBi q hdx)];exact q
  refine⟨x,dx,vs,ds,rfl,aAs,ne,i.mono sm,by rw[Q4,<-i.length];exact hn,?_⟩;unfold mkO at h;rw[hz] at h⊢;cases z with
  | error c=>exact fun H' e=>⟨c,rfl,sm.trans e,h⟩
  | ok fs=>exact fun H' fvs e1 e2 e3=>⟨rfl,h _ H' (sm.trans e3) (.obj e1 e2)⟩
 have hq:=hsp (s.heap.objs.size+1) s.heap.objs.size (I.hok.fresh (Jf _)) (I.hok.fresh (Qn _)) (Qy (Ji _));have I2:=Inv.made (C:=C) I;have r2:Vals (V.ref (s.heap.objs.size+1)::vs) (Zc (s.heap.objs.size+1)::us):= .cons rfl r;have hl:((Zc (s.heap.objs.size+1)::us)++ []).length=ps.length:=by
  rw[Zl,Q4,<-r.length,<-i.length];exact hn
 have hbb:=hb {s with heap:=(s.heap.push Zk).push (Zy C s.heap.objs.size)} (Zc (s.heap.objs.size+1)::us) I2.kIn hl;rw[Zl] at hbb;refine wpAny_call (aTa (f:=f) I.kIn Mm.makes Mm.init (beq_iff_eq.mp Mm.fn) (codeAny_mono (G.run _ X.stack _ _ ⟨Zc (s.heap.objs.size+1)::us,[]⟩ (Zc (s.heap.objs.size+1)::us) _ _ _ (hr.make C us [])
  (I2.env0.make C us []) hbb r2 hq) fun r s' hq'=> ?_))
 cases r with
 | error e=>
  obtain⟨c,ea,H',ee,os,bare,un,fl,c',ec,sm',th⟩:=hq';cases ec;exact th pins s' H' e sm' ⟨ea,ee,.inr ⟨_,_,I2,os,bare,un,fl⟩⟩
 | ok fl=>
  cases fl with
  | ret u=>
   obtain⟨v,H',I3,rv,ev,q3⟩:=I2.after hq';subst ev;exact⟨rv,⟨V.ref (s.heap.objs.size+1),H',I3,rfl,q3⟩⟩
  | next=>exact Qg hq'
  | brk=>exact Qg hq'
  | cont=>exact Qg hq'
theorem aW5 {F:List D->M (List (Str×D))}(G:Ctor X.prog X.w X.K X.mg X.base k x C F)(hr:aEx (k+1) X.A)(hg:Gl X x)(ha:PDA X B (e::es) ga)(hdb:(x==("__debug__":Str))=false:=by decide)(he:Qz (e::es) X.env=(false,eval e X.env)::Qz es X.env:=by exact aBu rfl)
  (hpl:(backTo pos (Qz es X.env)).any (·.1)=false:=by rfl):PD X B (.Call (.Name x p) (e::es) [] pos) (app (mkO C F) ga):=by
 intro pins s σ H Q I h;obtain⟨f,fd,ps,h1,h2,h3,hl,h4⟩:=G;refine Y1 (aHh I hg h1 ?_ hdb);refine Jp (h₀:=X.base) I.ok.mod.kin h2.kp (thn (ha pos pins s σ H _ I (aZb (R:=fun vs H1=> ∃ds,IsL X.K H1 ds vs/\Res X σ H1 (fun d=> ∀v H',Same H1 H'->Is X.K H' d v->Q v H') (mkO C F ds)) (fun ds vs H1 e1 i1 h1=>⟨ds,i1,h1⟩) h)) fun us s1 ⟨vs,H1,I1,r,ds,i1,q⟩=>⟨I1.kIn,?_⟩) he hpl;exact run_mk h2 h4 hr h3 I1 r i1 q hl
theorem aKy {F:List D->M (List (Str×D))}(G:Ctor X.prog X.w X.K X.mg X.base k x C F)(hr:aEx (k+1) X.A)(hg:Gl X x)(hdb:(x==("__debug__":Str))=false:=by decide):PD X B (.Call (.Name x p) [] [] pos) (fun _=>mkO C F []):=by
 intro pins s σ H Q I h;obtain⟨f,fd,ps,h1,h2,h3,hl,h4⟩:=G;obtain⟨ρ,r,h⟩:=h;refine Y1 (aHh I hg h1 ?_ hdb);exact U4 I.kIn h2.kp (run_mk (us:=[]) (vs:=[]) (ds:=[]) h2 h4 hr h3 I .nil .nil h hl)
end
def tDG (X:Cx)(B:Hp)(G:D->Rho->Option Rho):TG:=fun v σ H Q=> ∃ρ d ρ',Rel X.K B ρ σ H/\Is X.K H d v/\G d ρ=some ρ'/\∀σ' H',Rel X.K B ρ' σ' H'->Q σ' H'
abbrev PDG (X:Cx)(B:Hp)(tg:Expr)(G:D->Rho->Option Rho):Prop:=PG X tg (tDG X B G)
section
variable {X:Cx}{B:Hp}{tg:Expr}{pos:Pos}{x:Str}
def gN (i:Nat):D->Rho->Option Rho:=fun d ρ=>some (aMh i d ρ)
theorem aKw {i:Nat}(hN:X.N.Nodup)(hi:X.N[i]? =some x)(hx:Loc X.env.scope x)(hf:X.fn x=true\/X.env.scope.names.lookup x=some .local:=by first | exact .inl rfl | exact .inr rfl | assumption):PDG X B (.Name x pos) (gN i):=by
 intro pins s σ H v u Q I r h;obtain⟨ρ,d,ρ',r1,i1,e,q⟩:=h;cases e;exact aOd hN hi hx hf pins s σ H v u Q I r (q _ H (r1.aMh i1))
def gN2 (i j:Nat):D->Rho->Option Rho:=fun d ρ=>match d with
 | .tup [a,b]=>some (aMh j b (aMh i a ρ))
 | _=>none
theorem bAx {i j:Nat}{y:Str}{p1 p2:Pos}{k:Nat}(hc:X.calm=true)(hN:X.N.Nodup)(hi:X.N[i]? =some x)(hx:Loc X.env.scope x)(hj:X.N[j]? =some y)(hy:Loc X.env.scope y)
  (hf:X.fn x=true\/X.env.scope.names.lookup x=some .local:=by first | exact .inl rfl | exact .inr rfl | assumption) (hf2:X.fn y=true\/X.env.scope.names.lookup y=some .local:=by first | exact .inl rfl | exact .inr rfl | assumption):
  PDG X B (.Tuple [.Name x p1,.Name y p2] k pos) (gN2 i j):=by
 intro pins s σ H v u Q I r h;obtain⟨ρ,d,ρ',r1,i1,e,q⟩:=h;unfold gN2 at e;split at e
 ·rename_i a b
  cases e;cases i1 with
  | tup hh rr=>
   cases rr with
   | cons ia rr=>
    cases rr with
    | cons ib rr=>
     cases rr;refine bG9 (n:=2) hc (aS0 (aOd hN hi hx hf) (aS0 (aOd hN hj hy hf2) bD6)) rfl rfl pins s σ H _ u Q I r ?_;refine⟨_,_,rfl,hh.sq,rfl,_,_,rfl,_,_,rfl,rfl,?_⟩;exact q _ H ((r1.aMh ia).aMh ib)
 ·cases e
end
def loop (G:D->Rho->Option Rho)(F:Rho->Option Out):List D->Rho->Option Out
 | [],ρ=>some (.nx ρ)
 | d::ds,ρ=>match G d ρ with
  | none=>none
  | some ρ1=>match F ρ1 with
   | some (.nx ρ2)=>loop G F ds ρ2
   | some (.ct ρ2)=>loop G F ds ρ2
   | some (.bk ρ2)=>some (.nx ρ2)
   | some (.rt d)=>some (.rt d)
   | some (.ex c ρ2)=>some (.ex c ρ2)
   | none=>none
structure ItD (K:Qb)(J:It)(ds:List D)(B:Hp):Prop where
 go: ∀j H,Same B H->j<ds.length->J.go j H
 yld: ∀j H x H',Same B H->J.yld j H x H'->j<ds.length->Same H H'/\∃d,ds[j]? =some d/\Is K H' d x
 stop: ∀j H,Same B H->ds.length<=j->J.stop j H
theorem aTg {K:Qb}{a:Addr}{ds:List D}{vs:List V}{B:Hp}(h:SqL K B a vs)(r:IsL K B ds vs):ItD K (Itl K a) ds B where
 go:=fun j H e q=>⟨vs,vs[j]'(by rw[<-r.length];exact q),e.seq h,by simp[show j<vs.length by rw[<-r.length];exact q]⟩
 yld:=fun j H x H' e y q=>by
  obtain⟨y1,y2⟩:=y;subst y1;obtain⟨d,h1,h2⟩:=r.bLa (y2 vs (e.seq h));exact⟨Same.refl _,d,h1,h2.mono e⟩
 stop:=fun j H e q=>⟨vs,e.seq h,by rw[<-r.length];exact q⟩
theorem aX6 {K:Qb}{a:Addr}{ds:List D}{vs:List V}{B:Hp}(h:SqT K B a vs)(r:IsL K B ds vs):ItD K (Itt K a) ds B where
 go:=fun j H e q=>⟨vs,vs[j]'(by rw[<-r.length];exact q),SqT.mono e h,by simp[show j<vs.length by rw[<-r.length];exact q]⟩
 yld:=fun j H x H' e y q=>by
  obtain⟨y1,y2⟩:=y;subst y1;obtain⟨d,h1,h2⟩:=r.bLa (y2 vs (SqT.mono e h));exact⟨Same.refl _,d,h1,h2.mono e⟩
 stop:=fun j H e q=>⟨vs,SqT.mono e h,by rw[<-r.length];exact q⟩
def rng (lo:Int)(n:Nat):List D:=(Yb n).map fun (j:Nat)=>D.int (lo+(j:Int))
theorem aX7 {K:Qb}(lo:Int)(n:Nat)(B:Hp):ItD K (Itr lo n) (rng lo n) B where
 go:=fun j H e q=>by unfold rng at q;rw[Qv,Y2] at q;exact q
 yld:=fun j H x H' e y q=>by
  unfold rng at q;rw[Qv,Y2] at q;obtain⟨y1,y2⟩:=y;subst y2;subst y1;refine⟨Same.refl _,.int (lo+j),?_,.int _⟩;unfold rng;rw[Zp,List.getElem?_range q];rfl
 stop:=fun j H e q=>by unfold rng at q;rw[Qv,Y2] at q;exact q
section
variable {X:Cx}{B:Hp}{tg iter:Expr}{pos:Pos}{G:D->Rho->Option Rho}{F:Rho->Option Out}{body:List Stmt}
theorem Rel.sub {K:Qb}{B B':Hp}{ρ:Rho}{σ:St}{H:Hp}(e:Same B B')(r:Rel K B' ρ σ H):Rel K B ρ σ H:=by
 obtain⟨O,h1,ho,h2,hl,h3⟩:=r;exact⟨O,h1,ho,e.trans h2,hl,h3⟩
def bDi (X:Cx)(B:Hp)(σ:St)(ds:List D)(ρ1:Rho)(J:It)(H1:Hp):Prop:= ∃B',ItD X.K J ds B'/\Rel X.K B' ρ1 σ H1/\Same B B'
theorem bFi {J:It}{H1:Hp}{σ:St}{E:Ends}{ds:List D}{ρ1:Rho}(hi:bDi X B σ ds ρ1 J H1)(h:aNd X B E (loop G F ds ρ1)){g:TG}{tb:TS}(hg: ∀B v σ H Q,tDG X B G v σ H Q->g v σ H Q)(hb: ∀B E σ H,tDS X B F E σ H->tb E σ H):
  ∃W:Nat->Nat->St->Hp->Prop,(∃m,W 0 m σ H1)/\∀i m σ H,W i m σ H->
   (J.stop i H/\E.nx σ H)\/(J.go i H/\∃N:St->Hp->Prop,(∀σ' H',N σ' H'->∃m',m'<m/\W (i+1) m' σ' H')/\∀x H',J.yld i H x H'->g x σ H' fun σ2 H2=>tb {E with nx:=N,ct:=N,bk:=E.nx} σ2 H2):=by
 obtain⟨B',hJ,r1,sB⟩:=hi;refine⟨fun j m σ H=>m=ds.length-j/\j<=ds.length/\∃ρj,Rel X.K B' ρj σ H/\aNd X B E (loop G F (ds.drop j) ρj),⟨ds.length,by simp,Y5 _,ρ1,r1,by simpa using h⟩,?_⟩
 rintro j m σ H ⟨rfl,hj,ρj,rj,gj⟩
 have sH:Same B' H:=rj.kept;by_cases hlt:j<ds.length
 ·have hd:ds.drop j=ds[j]::ds.drop (j+1):=Jr hlt
  rw[hd] at gj;refine .inr ⟨hJ.go j H sH hlt,fun σ' H'=> ∃ρ',Rel X.K B' ρ' σ' H'/\aNd X B E (loop G F (ds.drop (j+1)) ρ'),fun σ' H' ⟨ρ',r',g'⟩=>⟨ds.length-(j+1),by omega,rfl,hlt,ρ',r',g'⟩,fun x H' y=> ?_⟩;obtain⟨e1,d,e2,e3⟩:=hJ.yld j H x H' sH y hlt;have ed:ds[j]=d:=by rw[Q3 hlt] at e2;exact Option.some.inj e2
  rw[ed] at gj;unfold loop at gj;cases q:G d ρj with
  | none=>rw[q] at gj;exact Qg gj
  | some ρa=>
   rw[q] at gj;refine hg B' x σ H' _ ⟨ρj,d,ρa,rj.mono e1,e3,q,fun σ2 H2 r2=>hb B' _ σ2 H2 ⟨ρa,r2,?_⟩⟩
   dsimp only at gj
   cases qf:F ρa with
   | none=>rw[qf] at gj;exact Qg gj
   | some o=>
    rw[qf] at gj;cases o with
    | nx ρ2=>exact fun σ3 H3 r3=>⟨ρ2,r3,gj⟩
    | ct ρ2=>exact fun σ3 H3 r3=>⟨ρ2,r3,gj⟩
    | bk ρ2=>exact fun σ3 H3 r3=>gj σ3 H3 (r3.sub sB)
    | rt d=>exact fun v H3 s3 i3=>gj v H3 (sB.trans s3) i3
    | ex c ρ2=>exact fun pins s σ3 H3 ev r3 x3=>gj pins s σ3 H3 ev (r3.sub sB) x3
 ·have e:ds.drop j=[]:=U6 (by omega)
  rw[e] at gj;exact .inl ⟨hJ.stop j H sH (by omega),gj σ H (rj.sub sB)⟩
def itD:D->M (List D)
 | .lst ds=>ok ds
 | .tup ds=>ok ds
 | _=>none
def iD (X:Cx)(tl:TE):TI:=fun σ H R=>tl σ H fun x H1=>(∃a,x= .ref a/\(∃xs,SqL X.K H1 a xs)/\R (Itl X.K a) H1)\/(∃a,x= .ref a/\(∃xs,SqT X.K H1 a xs)/\R (Itt X.K a) H1)
theorem bLx {l:Expr}{tl:TE}(hl:PE X l tl):PI X tg l (iD X tl):=by
 intro pins s σ H R I h;refine thn (hl pins s σ H _ I h) fun v s1 ⟨x,H1,I1,r1,q1⟩=> ?_
 rcases q1 with⟨a,e,⟨xs,hq⟩,q⟩ |⟨a,e,⟨xs,hq⟩,q⟩
 ·subst e
  cases r1;obtain⟨its,rv,p,hz⟩:=I1.list hq;refine wpAny_pyIter_list p.isList ?_;refine⟨s1.heap.objs.size,[s1.heap.objs.size],_,_,H1,rfl,I1.kept (t':=s1.toks) fun b o e=>Qh _ e,aV7 a _,⟨_,Qs _ rfl,rfl,rfl⟩,fun b hb=> ?_,q⟩;have e:b=s1.heap.objs.size:=by simpa using hb
  subst e;exact I1.bIr (Qn _) (I1.hok.fresh (Qn _))
 ·subst e
  cases r1;obtain⟨its,rv,p,hz⟩:=I1.tuple hq;refine wpAny_pyIter_tuple (show s1.heap.IsTuple a its.toArray from p) ?_;refine⟨s1.heap.objs.size,[s1.heap.objs.size],_,_,H1,rfl,I1.kept (t':=s1.toks) fun b o e=>Qh _ e,aUa a _,⟨_,Qs _ rfl,rfl,rfl⟩,fun b hb=> ?_,q⟩;have e:b=s1.heap.objs.size:=by simpa using hb
  subst e;exact I1.bIr (Qn _) (I1.hok.fresh (Qn _))
theorem aOf {wi:TI}{S:Rho->Option Out}(hp:PassesOwn (Ql X.prog X.w) X.A X.env X.xe)(hc:X.calm=true)(hi:PI X tg iter wi)(hg: ∀B,PDG X B tg G)(hb: ∀B,PDB X B body F)
  (hr: ∀E σ H R,tDS X B S E σ H->(∀J H1 ds ρ1,bDi X B σ ds ρ1 J H1->aNd X B E (loop G F ds ρ1)->R J H1)->wi σ H R) (hs: ∀x,Zs iter X.env x=pure x:=by intro _;rfl):PDS X B (.For tg iter body [] pos) S:=by
 have hg':PG X tg (fun v σ H Q=> ∃B,tDG X B G v σ H Q):=fun pins s σ H v u Q I r ⟨B,h⟩=>hg B pins s σ H v u Q I r h
 have hb':PSs X body (fun E σ H=> ∃B,tDS X B F E σ H):=fun pins s σ H E I ⟨B,h⟩=>hb B pins s σ H E I h
 refine PS.of (bG7 hp hc hi hg' hb' hs) fun E σ H h=> ?_
 exact hr E σ H _ h fun J H1 ds ρ1 i1 g1=>bFi (g:=fun v σ H Q=> ∃B,tDG X B G v σ H Q) (tb:=fun E σ H=> ∃B,tDS X B F E σ H) i1 g1 (fun B v σ H Q q=>⟨B,q⟩) fun B E σ H q=>⟨B,q⟩
def aFi (i:Nat)(ρ:Rho):Rho:=match ρ[i]? with
 | some (some (.own _))=>free ρ
 | some (some (.oin _ _ _ _))=>free ρ
 | some (some (.ow _))=>free ρ
 | some (some (.tk _))=>free ρ
 | some (some (.nl _ _))=>free ρ
 | _=>ρ
def aM0 (i:Nat)(G:D->Rho->Option Rho)(F:Rho->Option Out):Rho->Option Out:=fun ρ=>match look i ρ with
 | some (.ok d)=>(match itD d with
  | some (.ok ds)=>loop G F ds (aFi i ρ)
  | _=>none)
 | _=>none
theorem Rel.base {K:Qb}{B:Hp}{ρ:Rho}{σ:St}{H:Hp}(r:Rel K B ρ σ H): ∃B',Rel K B' ρ σ H/\Same B B'/\Same B' H/\(∀(i:Nat) (d:D),ρ[i]? =some (some (SV.sh d))->∃v,σ[i]? =some (some v)/\Is K B' d v)/\(∀d v,d.imm=true->Is K H d v->Is K B' d v):=by
 obtain⟨O,h1,ho,h2,hl,h3⟩:=r;exact⟨Off H O,⟨O,h1,ho,Same.refl _,hl,h3⟩,h2,Off.same _ _,fun i d q=>h3 i _ q,fun d v q i=>aRl ho q i⟩
theorem Rel.aJm {K:Qb}{B:Hp}{ρ:Rho}{σ:St}{H:Hp}(r:Rel K B ρ σ H):Rel K H (free ρ) σ H:=by
 have e0:Off H (fun _=>none)=H:=by funext b;unfold Off;rw[if_neg (fun⟨i,e⟩=>nomatch e)]
 refine⟨fun _=>none,(by intro _ _ _ q;cases q),(by intro _ _ q;cases q),by rw[e0];exact Same.refl _,?_,fun i sv q=> ?_⟩
 ·obtain⟨O,_,_,_,hl,_⟩:=r.freed
  exact hl
 ·unfold free at q
  rw[Zp] at q;obtain⟨o,e1,e2⟩:=Option.map_eq_some_iff.mp q;cases o with
  | none=>cases e2
  | some sv0=>
   have e2':sv0.rel=sv:=Option.some.inj e2;subst e2';obtain⟨v,e3,e4⟩:=r.get e1;have:sv0.rel= .sh sv0.cur:=by cases sv0<;>rfl
   rw[this];exact⟨v,e3,by rw[e0];exact e4⟩
theorem aOr {K:Qb}{H:Hp}{d:D}{v:V}{ds:List D}(i:Is K H d v)(h:itD d=ok ds): ∃a vs,v= .ref a/\IsL K H ds vs/\(SqL K H a vs\/SqT K H a vs):=by
 cases i with
 | lst hh r=>have:=aB7 h;subst this;exact⟨_,_,rfl,r,.inl hh⟩
 | tup hh r=>have:=aB7 h;subst this;exact⟨_,_,rfl,r,.inr hh⟩
 | _=>exact nomatch h
theorem aOe (i:Nat){x:Str}{p:Pos}(hN:X.N[i]? =some x)(hv:Vis X.env.scope x)(hp:PassesOwn (Ql X.prog X.w) X.A X.env X.xe)(hc:X.calm=true)(hg: ∀B,PDG X B tg G)(hb: ∀B,PDB X B body F)
  (hd:(x==("__debug__":Str))=false:=by decide) (hcd:(x==("__classdict__":Str))=false:=by decide) (hs: ∀y,Zs (.Name x p) X.env y=pure y:=by intro _;rfl):PDS X B (.For tg (.Name x p) body [] pos) (aM0 i G F):=by
 refine aOf hp hc (bLx (aE8 hN hv hd hcd)) hg hb (fun E σ H R h k=> ?_) hs;obtain⟨ρ,r,h⟩:=h;unfold aM0 look at h;split at h
 ·rename_i d0 hd0
  split at hd0
  ·rename_i sv q
   have e:=aB7 hd0;subst e;split at h
   ·rename_i ds hds
    obtain⟨v,e1,e2⟩:=r.get q;obtain⟨a,vs,rfl,il,hq⟩:=aOr e2 hds;refine⟨_,e1,?_⟩;have key: ∃B' vs,Rel X.K B' (aFi i ρ) σ H/\Same B B'/\IsL X.K B' ds vs/\(SqL X.K B' a vs\/SqT X.K B' a vs):=by
     cases sv with
     | sh d=>
      obtain⟨B',b1,b2,b3,b4,b5⟩:=r.base;obtain⟨v',f1,f2⟩:=b4 i d q;rw[e1] at f1;have:=Option.some.inj (Option.some.inj f1);subst this;obtain⟨a',vs',ea,il',hq'⟩:=aOr f2 hds;cases ea;have e:aFi i ρ=ρ:=by unfold aFi;rw[q]
      exact⟨B',vs',by rw[e];exact b1,b2,il',hq'⟩
     | own ds'=>
      have e:aFi i ρ=free ρ:=by unfold aFi;rw[q]
      exact⟨H,vs,by rw[e];exact r.aJm,r.kept,il,hq⟩
     | oin a C dx fs=>
      have e:aFi i ρ=free ρ:=by unfold aFi;rw[q]
      exact⟨H,vs,by rw[e];exact r.aJm,r.kept,il,hq⟩
     | ow o=>
      have e:aFi i ρ=free ρ:=by unfold aFi;rw[q]
      exact⟨H,vs,by rw[e];exact r.aJm,r.kept,il,hq⟩
     | tk ks=>
      have e:aFi i ρ=free ρ:=by unfold aFi;rw[q]
      exact⟨H,vs,by rw[e];exact r.aJm,r.kept,il,hq⟩
     | nl kd ls=>
      have e:aFi i ρ=free ρ:=by unfold aFi;rw[q]
      exact⟨H,vs,by rw[e];exact r.aJm,r.kept,il,hq⟩
    obtain⟨B',vs',k1,k2,k3,k4⟩:=key;rcases k4 with k4 | k4
    ·exact .inl ⟨a,rfl,⟨_,k1.kept.seq k4⟩,k _ H ds (aFi i ρ) ⟨B',aTg k4 k3,k1,k2⟩ h⟩
    ·exact .inr ⟨a,rfl,⟨_,SqT.mono k1.kept k4⟩,k _ H ds (aFi i ρ) ⟨B',aX6 k4 k3,k1,k2⟩ h⟩
   ·exact Qg h
  ·exact nomatch hd0
 ·exact Qg h
def aWt (f:Rho->M D)(G:D->Rho->Option Rho)(F:Rho->Option Out):Rho->Option Out:=fun ρ=>lft (f ρ) ρ fun d=>match itD d with
 | some (.ok ds)=>loop G F ds (if d.imm=true then ρ else free ρ)
 | _=>none
theorem bAu {fa:Rho->M D}(hp:PassesOwn (Ql X.prog X.w) X.A X.env X.xe)(hc:X.calm=true)(he:PD X B iter fa)(hg: ∀B,PDG X B tg G)(hb: ∀B,PDB X B body F)(hs: ∀y,Zs iter X.env y=pure y:=by intro _;rfl):PDS X B (.For tg iter body [] pos) (aWt fa G F):=by
 refine aOf hp hc (bLx he) hg hb (fun E σ H R h k=> ?_) hs;obtain⟨ρ,r,h⟩:=h;refine⟨ρ,r,(aD3 r h).imp fun d h1 v H1 e1 i1=> ?_⟩;split at h1
 ·rename_i ds hds
  obtain⟨a,vs,rfl,il,hq⟩:=aOr i1 hds;have r1:=r.mono e1;have key: ∃B' vs,Rel X.K B' (if d.imm=true then ρ else free ρ) σ H1/\Same B B'/\IsL X.K B' ds vs/\(SqL X.K B' a vs\/SqT X.K B' a vs):=by
   by_cases q:d.imm=true
   ·obtain⟨B',b1,b2,b3,b4,b5⟩:=r1.base
    obtain⟨a',vs',ea,il',hq'⟩:=aOr (b5 d _ q i1) hds;cases ea;rw[if_pos q];exact⟨B',vs',b1,b2,il',hq'⟩
   ·rw[if_neg q]
    exact⟨H1,vs,r1.aJm,r1.kept,il,hq⟩
  obtain⟨B',vs',k1,k2,k3,k4⟩:=key;rcases k4 with k4 | k4
  ·exact .inl ⟨a,rfl,⟨_,k1.kept.seq k4⟩,k _ H1 ds _ ⟨B',aTg k4 k3,k1,k2⟩ h1⟩
  ·exact .inr ⟨a,rfl,⟨_,SqT.mono k1.kept k4⟩,k _ H1 ds _ ⟨B',aX6 k4 k3,k1,k2⟩ h1⟩
 ·exact Qg h1
def aPp (f:Rho->M D)(G:D->Rho->Option Rho)(F:Rho->Option Out):Rho->Option Out:=fun ρ=>lft (f ρ) ρ fun d=>match d with
 | .int j=>if j<2^62/\ -(2^62)<=j then loop G F (rng 0 j.toNat) ρ else none
 | _=>none
theorem aW1 {a:Expr}{fa:Rho->M D}{p p1:Pos}(hgl:Gl X "range")(hm:X.mg "range"=none)(hp:PassesOwn (Ql X.prog X.w) X.A X.env X.xe)(hc:X.calm=true)(he:PD X B a fa)(hg: ∀B,PDG X B tg G)(hb: ∀B,PDB X B body F)
  (hst:Qz [a] X.env=[(false,eval a X.env)]:=by exact aPj rfl) (hs: ∀y,Zs (.Call (.Name "range" p) [a] [] p1) X.env y=pure y:=by intro _;rfl):PDS X B (.For tg (.Call (.Name "range" p) [a] [] p1) body [] pos) (aPp fa G F):=by
 refine aOf hp hc (aPt hgl hm (aC3 he aFu hst) hst) hg hb (fun E σ H R h k=> ?_) hs;obtain⟨ρ,r,h⟩:=h;refine⟨ρ,r,(aD3 r h).imp fun d h1 v H1 e1 i1=> ?_⟩;cases i1<;>first | exact Qg h1 | skip
 rename_i j
 dsimp only at h1
 split at h1
 ·rename_i hj
  obtain⟨B',b1,b2,b3,b4,b5⟩:=(r.mono e1).base;exact⟨j,rfl,hj.2,hj.1,k _ H1 _ ρ ⟨B',aX7 0 j.toNat B',b1,b2⟩ h1⟩
 ·exact Qg h1
end
def putD (f:Str)(v:D):List (Str×D)->List (Str×D)
 | []=> [(f,v)]
 |(g,x)::r=>if g=f then (g,v)::r else (g,x)::putD f v r
theorem aYd {K:Qb}{H:Hp}{f:Str}{d:D}{v:V}(i:Is K H d v): ∀{fs:List (Str×D)} {vs:List (Str×V)},IsF K H fs vs->IsF K H (putD f d fs) (aNq f v vs)
 | _,_,.nil=> .cons i .nil
 | _,_,.cons (x:=g) h r=>by
  unfold putD aNq;by_cases q:g=f
  ·rw[if_pos q,if_pos q];exact .cons i r
  ·rw[if_neg q,if_neg q];exact .cons h (aYd i r)
section
variable {X:Cx}{B:Hp}{e:Expr}{fa:Rho->M D}{pos pos' p:Pos}{x f:Str}
theorem Rel.put {K:Qb}{B H:Hp}{ρ:Rho}{σ:St}{i:Nat}{a C dx:Addr}{fs:List (Str×D)}{d:D}{v:V}(O:Nat->Option Addr)(h1: ∀i j a,O i=some a->O j=some a->i=j)(ho:aZz H O)(h2:Same B (Off H O))(hl:ρ.length=σ.length)
  (h3: ∀i sv,ρ[i]? =some (some sv)->Slot K H O σ i sv) (q:ρ[i]? =some (some (.oin a C dx fs))) (iv:Is K (Off H O) d v) {vs:List (Str×V)} (hv:H a=some (.ins C dx vs)):Rel K B (ρ.set i (some (.oin a C dx (putD f d fs)))) σ (upd H a (.ins C dx (aNq f v vs))):=by
 obtain⟨z1,z2,z3,vs',z4,z5⟩:=h3 i _ q;rw[hv] at z4;cases z4;have eo:Off (upd H a (.ins C dx (aNq f v vs))) O=Off H O:=Off.upd z1;refine⟨O,h1,fun j b qj=> ?_,by rw[eo];exact h2,by rw[Q5,hl],fun j sv qj=> ?_⟩
 ·by_cases e:b=a
  ·subst e;exact⟨_,aAs,rfl⟩
  ·obtain⟨u,w,m⟩:=ho j b qj
   exact⟨u,by rw[aAq e];exact w,m⟩
 ·by_cases e:j=i
  ·subst e
   have hj:j<ρ.length:=(List.getElem?_eq_some_iff.mp q).1;rw[Q1 hj] at qj;have q':=Option.some.inj (Option.some.inj qj);subst q';exact⟨z1,z2,z3,_,aAs,by rw[eo];exact aYd iv z5⟩
  ·rw[Qj (Ne.symm e)] at qj
   have z:=h3 j sv qj;cases sv with
   | sh d'=>obtain⟨v',e1,e2⟩:=z;exact⟨v',e1,by rw[eo];exact e2⟩
   | own ds=>
    obtain⟨b,ws,e1,e2,e3,e4⟩:=z;have nb:b≠a:=fun w=>e (h1 j i a (by rw[<-w];exact e1) z1)
    exact⟨b,ws,e1,e2,by rw[aAq nb];exact e3,by rw[eo];exact e4⟩
   | oin b C' dx' fs'=>
    obtain⟨e1,e2,e3,ws,e4,e5⟩:=z;have nb:b≠a:=fun w=>e (h1 j i a (by rw[<-w];exact e1) z1)
    exact⟨e1,e2,e3,ws,by rw[aAq nb];exact e4,by rw[eo];exact e5⟩
   | ow o=>
    obtain⟨b,u,e1,e2,e3,e4⟩:=z;have nb:b≠a:=fun w=>e (h1 j i a (by rw[<-w];exact e1) z1)
    exact⟨b,u,e1,e2,by rw[aAq nb];exact e3,by rw[eo];exact e4⟩
   | tk ks=>obtain⟨b,e1,e2⟩:=z;exact⟨b,e1,by rw[eo];exact e2⟩
   | nl kd ls=>
    have hi:i<σ.length:=by have:=(List.getElem?_eq_some_iff.mp q).1;omega
    exact NL.move rfl rfl (fun m b w hm e1 e2=>⟨e1,by rw[aAq (fun z=>absurd (h1 m i a (by rw[<-z];exact e1) z1) (by rcases hm with h | h<;>omega))];exact e2⟩) (by rw[eo];exact Same.refl _) z
def putAt (cs:Addr->Bool)(i:Nat)(f:Str)(d:D)(ρ:Rho):Option Out:=match ρ[i]? with
 | some (some (.oin a C dx fs))=>if cs C=true/\fs.length<1000 then some (.nx (ρ.set i (some (.oin a C dx (putD f d fs))))) else none
 | _=>none
def aM1 (cs:Addr->Bool)(i:Nat)(f:Str)(fa:Rho->M D):Rho->Option Out:=fun ρ=>lft (fa ρ) ρ fun d=>if d.imm=true then putAt cs i f d ρ else none
theorem aGb {cs:Addr->Bool}{i:Nat}(hC: ∀C,cs C=true->Cls X.K C/\aD8 X.K C f)(hN:X.N[i]? =some x)(hv:Vis X.env.scope x)(he:PD X B e fa)(hs:swapsWith e (some (.Attribute (.Name x p) f pos')) pos.line X.env=pure false:=by rfl)
  (hd:(x==("__debug__":Str))=false:=by decide) (hcd:(x==("__classdict__":Str))=false:=by decide):PDS X B (.Assign [.Attribute (.Name x p) f pos'] e pos) (aM1 cs i f fa):=by
 refine PS.of (aSw (aE8 hN hv hd hcd) he hs) fun E σ H h=> ?_
 obtain⟨ρ,r,h⟩:=h;refine⟨ρ,r,(aD3 r h).imp fun d h1 v H1 e1 i1=> ?_⟩;split at h1
 ·rename_i hm
  unfold putAt at h1;split at h1
  ·rename_i a C dx fs q
   split at h1
   ·rename_i hc
    obtain⟨O,g1,go,g2,gl,g3⟩:=r.mono e1;obtain⟨z1,z2,z3,vs,z4,z5⟩:=g3 i _ q;exact⟨_,z2,a,C,dx,vs,rfl,z4,(hC C hc.1).1,(hC C hc.1).2,by rw[<-z5.length];exact hc.2,h1 σ _ (Rel.put O g1 go g2 gl g3 q (aRl go hm i1) z4)⟩
   ·exact Qg h1
  ·exact Qg h1
 ·exact Qg h1
def aWu (cs:Addr->Bool)(i:Nat)(f:Str)(j:Nat):Rho->Option Out:=fun ρ=>match ρ[j]? with
 | some (some (.sh d))=>putAt cs i f d ρ
 | _=>none
theorem aS2 {cs:Addr->Bool}{i j:Nat}{y:Str}{p2:Pos}(hC: ∀C,cs C=true->Cls X.K C/\aD8 X.K C f)(hN:X.N[i]? =some x)(hv:Vis X.env.scope x)(hN2:X.N[j]? =some y)(hv2:Vis X.env.scope y)(hs:swapsWith (.Name y p2) (some (.Attribute (.Name x p) f pos')) pos.line X.env=pure false:=by rfl)
  (hd:(x==("__debug__":Str))=false:=by decide) (hcd:(x==("__classdict__":Str))=false:=by decide) (hd2:(y==("__debug__":Str))=false:=by decide) (bNb:(y==("__classdict__":Str))=false:=by decide):PDS X B (.Assign [.Attribute (.Name x p) f pos'] (.Name y p2) pos) (aWu cs i f j):=by
 refine PS.of (aSw (aE8 hN hv hd hcd) (aE8 hN2 hv2 hd2 bNb) hs) fun E σ H h=> ?_
 obtain⟨ρ,r,h⟩:=h;unfold aWu at h;split at h
 ·rename_i d qd
  unfold putAt at h;split at h
  ·rename_i a C dx fs q
   split at h
   ·rename_i hc
    obtain⟨O,g1,go,g2,gl,g3⟩:=r;obtain⟨v,y1,y2⟩:=g3 j _ qd;obtain⟨z1,z2,z3,vs,z4,z5⟩:=g3 i _ q;exact⟨v,y1,_,z2,a,C,dx,vs,rfl,z4,(hC C hc.1).1,(hC C hc.1).2,by rw[<-z5.length];exact hc.2,h σ _ (Rel.put O g1 go g2 gl g3 q y2 z4)⟩
   ·exact Qg h
  ·exact Qg h
 ·exact Qg h
end
def aCz (N:List Str)(ds:List D):Rho:=ds.map (fun d=>some (.sh d))++Q8 (N.length-ds.length) none
def aBq:Option Out->M D
 | some (.rt d)=>ok d
 | some (.nx _)=>ok .non
 | some (.ex c _)=>err c
 | _=>none
theorem aG2 {α β:Type}{f:α->β}: ∀{l:List α} {r:List β} {i:Nat} {b:β},(l.map f++r)[i]? =some b->(∃a,l[i]? =some a/\b=f a)\/(l.length<=i/\r[i-l.length]? =some b)
 | l,r,i,b,h=>by
  by_cases q:i<l.length
  ·rw[Z4 (by simpa using q),Zp] at h
   obtain⟨a,e1,e2⟩:=Option.map_eq_some_iff.mp h;exact .inl ⟨a,e1,e2.symm⟩
  ·rw[Yj (by simpa using q),Qv] at h
   exact .inr ⟨by omega,h⟩
theorem aLo {N:List Str}{vs:List V}{i:Nat}{v:V}(h:vs[i]? =some v):(start N vs)[i]? =some (some v):=by
 unfold start;have q:i<vs.length:=(List.getElem?_eq_some_iff.mp h).1;rw[Z4 (by simpa using q),Zp,h];rfl
theorem aJs {N:List Str}{vs:List V}(h:vs.length<=N.length):(start N vs).length=N.length:=by
 unfold start;rw[Qx,Qv,Yz];omega
theorem aRb {N:List Str}{ds:List D}(h:ds.length<=N.length):(aCz N ds).length=N.length:=by
 unfold aCz;rw[Qx,Qv,Yz];omega
theorem aH8 {K:Qb}{H:Hp}{N:List Str}{ds:List D}{vs:List V}(i:IsL K H ds vs)(hl:ds.length<=N.length):Rel K H (aCz N ds) (start N vs) H:=by
 have e0:Off H (fun _=>none)=H:=by funext b;unfold Off;rw[if_neg (fun⟨i,e⟩=>nomatch e)]
 refine⟨fun _=>none,(by intro _ _ _ q;cases q),(by intro _ _ q;cases q),by rw[e0];exact Same.refl _,by rw[aRb hl,aJs (by rw[<-i.length];exact hl)],fun j sv q=> ?_⟩;unfold aCz at q;rcases aG2 q with⟨d,e1,e2⟩ |⟨_,e2⟩
 ·cases e2
  obtain⟨v,h1,h2⟩:=i.get e1;exact⟨v,aLo h1,by rw[e0];exact h2⟩
 ·rw[Z9] at e2
  split at e2<;>cases e2
section
variable {P:Qr}{w:Q2}{K:Qb}{mg:Str->Option Qd}{base:Heap}
abbrev cxN (P:Qr)(w:Q2)(K:Qb)(mg:Str->Option Qd)(base:Heap)(N:List Str)(qual:Str)(scope:Scope)(f:Addr)(cd:Qd)(A:Za)(outer:List Env)(s:Qf)(H:Hp)(E:XK):Cx:=
 (bFx (CXD P w) P w K mg base N qual scope f cd A outer s H E).nox
theorem bC7 {x qual:Str}{st:Stmt}{f:Addr}{fd:Z5}{N ps:List Str}{k:Nat}{F:List D->M D}(Fu:Fun K x qual st f fd)(S:aA5 N ps (aAm st))(hL: ∀ds r,F ds=some r->ds.length=ps.length)
  (hbody: ∀(cdv:Qd) (A:Za) (outer:List Env) (s:Qf) (H:Hp) (E:XK),aEx k (A.deeper (envOfC qual (aAm st) s.heap.objs.size f cdv))->
   ∃F',(∀B,PDB (cxN P w K mg base N qual (aAm st) f cdv A outer s H E) B (aCa st) F')/\∀ds r,F ds=some r->∃d,r= .ok d/\aBq (F' (aCz N ds))=ok d):FnD P w K mg base (k+1) f fd ps F:=by
 obtain⟨oc,od,kV,doc,pm,an,cdv,ct,osl,rfl,lk,hcd⟩:=Fu.ex;refine aR1 lk hcd S (fun vs H Q E ⟨ds,i,hl,_⟩=>hl) fun A outer s H vs Q E hr hsp=> ?_
 obtain⟨F',hF,hq⟩:=hbody cdv A outer s H E hr;refine⟨_,(hF H).nox,?_⟩;obtain⟨ds,i,hl,h⟩:=hsp;have hn:ps.length<=N.length:=by have:=congrArg J3 S.pre;rw[Zu] at this;omega
 cases q:F ds with
 | none=>rw[q] at h;exact Qg h
 | some r=>
  rw[q] at h;obtain⟨d,rfl,e⟩:=hq ds r q;refine⟨aCz N ds,aH8 i (by rw[i.length,hl];exact hn),?_⟩;cases qf:F' (aCz N ds) with
  | none=>rw[qf] at e;cases e
  | some o=>
   rw[qf] at e;cases o with
   | rt d'=>have:=aB7 e;subst this;exact fun v H' s' i'=>h v H' s' i'
   | nx ρ=>have:=aB7 e;subst this;exact fun σ' H' r'=>h _ H' r'.kept .non
   | bk ρ=>cases e
   | ct ρ=>cases e
   | ex c ρ=>cases e
def aPc (N:List Str)(a C dx:Addr)(ds:List D):Rho:=some (.oin a C dx [])::(ds.map (fun d=>some (.sh d))++Q8 (N.length-(ds.length+1)) none)
theorem aNp {H:Hp}{N:List Str}{a C dx:Addr}{ds:List D}{vs:List V}(ha:H a=some (.ins C dx []))(hd:dx≠a)(i:IsL K (hid H a) ds vs)(hl:ds.length+1<=N.length):Rel K (hid H a) (aPc N a C dx ds) (start N (.ref a::vs)) H:=by
 have e0:Off H (fun j=>if j=0 then some a else none)=hid H a:=by
  funext b;unfold Off hid
  by_cases q:b=a
  ·rw[if_pos q,if_pos ⟨0,by simp[q]⟩]
  ·rw[if_neg q,if_neg]
   rintro⟨j,e⟩
   dsimp only at e
   split at e
   ·cases e;exact q rfl
   ·cases e
 refine⟨fun j=>if j=0 then some a else none,fun j k b q1 q2=> ?_,fun j b q=> ?_,by rw[e0];exact Same.refl _,?_,fun j sv q=> ?_⟩
 ·by_cases z1:j=0
  ·by_cases z2:k=0
   ·omega
   ·simp[z2] at q2
  ·simp[z1] at q1
 ·by_cases z1:j=0
  ·simp[z1] at q;subst q;exact⟨_,ha,rfl⟩
  ·simp[z1] at q
 ·rw[aJs (by rw[Q4,<-i.length];exact hl)]
  unfold aPc;rw[Q4,Qx,Qv,Yz];omega
 ·cases j with
  | zero=>
   unfold aPc at q;cases q;exact⟨rfl,aLo rfl,hd,[],ha,.nil⟩
  | succ j=>
   unfold aPc at q;rw[Jy] at q;rcases aG2 q with⟨d,e1,e2⟩ |⟨_,e2⟩
   ·cases e2
    obtain⟨v,h1,h2⟩:=i.get e1;exact⟨v,aLo (by rw[Jy];exact h1),by rw[e0];exact h2⟩
   ·rw[Z9] at e2
    split at e2<;>cases e2
def aJz (a C dx:Addr):Option Out->M (List (Str×D))
 | some (.nx (some (.oin a' C' dx' fs)::_))=>if a'=a/\C'=C/\dx'=dx then ok fs else none
 | _=>none
theorem bIi {x qual:Str}{st:Stmt}{f C:Addr}{fd:Z5}{N ps:List Str}{k:Nat}{F:List D->M (List (Str×D))}(Fu:Fun K x qual st f fd)(S:aA5 N ps (aAm st))(hL: ∀ds r,F ds=some r->ds.length+1=ps.length)
  (hbody: ∀(cdv:Qd) (A:Za) (outer:List Env) (s:Qf) (H:Hp) (E:XK),aEx k (A.deeper (envOfC qual (aAm st) s.heap.objs.size f cdv))->
   ∃F',(∀B,PDB (cxN P w K mg base N qual (aAm st) f cdv A outer s H E) B (aCa st) F')/\∀ds r a dx,F ds=some r->∃fs,r= .ok fs/\aJz a C dx (F' (aPc N a C dx ds))=ok fs):aSh P w K mg base (CXD P w) (k+1) f fd ps (spI K C ps.length F):=by
 obtain⟨oc,od,kV,doc,pm,an,cdv,ct,osl,rfl,lk,hcd⟩:=Fu.ex;refine aR1 lk hcd S (fun vs H Q E hz=>by obtain⟨a,dx,ws,ds,_,_,_,_,hl,_⟩:=hz;exact hl) fun A outer s H vs Q E hr hsp=> ?_
 obtain⟨F',hF,hq⟩:=hbody cdv A outer s H E hr;obtain⟨a,dx,ws,ds,rfl,ha,hd,i,hl,h⟩:=hsp;refine⟨_,(hF (hid H a)).nox,?_⟩;have hn:ps.length<=N.length:=by have:=congrArg J3 S.pre;rw[Zu] at this;omega
 cases q:F ds with
 | none=>rw[q] at h;exact Qg h
 | some r=>
  rw[q] at h;obtain⟨fs,rfl,e⟩:=hq ds r a dx q;refine⟨aPc N a C dx ds,aNp ha hd i (by rw[i.length];rw[Q4] at hl;omega),?_⟩;unfold aJz at e;split at e
  ·rename_i a' C' dx' fs' rest qf
   split at e
   ·rename_i hh
    obtain⟨rfl,rfl,rfl⟩:=hh;have:=aB7 e;subst this;rw[qf];intro σ' H' r';obtain⟨O,g1,go,g2,gl,g3⟩:=r';obtain⟨z1,z2,z3,vs',z4,z5⟩:=g3 0 _ rfl;exact h H' vs' z4 (z5.mono (Off.same _ _)) (g2.trans (Off.same _ _))
   ·cases e
  ·cases e
end
theorem aB5 {F G:Rho->Option Out}{ρ ρ':Rho}(h:F ρ=some (.nx ρ')):aAy F G ρ=G ρ':=by unfold aAy;rw[h]
theorem aFq {F G:Rho->Option Out}{ρ:Rho}{d:D}(h:F ρ=some (.rt d)):aAy F G ρ=some (.rt d):=by unfold aAy;rw[h]
theorem aKp {t:Rho->M Bool}{F G:Rho->Option Out}{ρ:Rho}(h:t ρ=ok true):sIf t F G ρ=F ρ:=by unfold sIf;rw[h];rfl
theorem aPo {t:Rho->M Bool}{F G:Rho->Option Out}{ρ:Rho}(h:t ρ=ok false):sIf t F G ρ=G ρ:=by unfold sIf;rw[h];rfl
theorem aJa {f:Rho->M D}{ρ:Rho}{d:D}(h:f ρ=ok d):aH7 f ρ=some (.rt d):=by unfold aH7;rw[h];rfl
theorem aWp {i:Nat}{f:Rho->M D}{ρ:Rho}{d:D}(h:f ρ=ok d):aLu i f ρ=some (.nx (aMh i d ρ)):=by unfold aLu;rw[h];rfl
theorem aKv {i:Nat}{d:D}{ρ:Rho}(h:d.imm=true):aMh i d ρ=ρ.set i (some (.sh d)):=by unfold aMh;rw[if_pos h]
theorem aWs {f:Rho->M D}{G:D->Rho->Option Rho}{F:Rho->Option Out}{ρ:Rho}{j:Int}(h:f ρ=ok (.int j))(h1:j<2^62)(h2: -(2^62)<=j):aPp f G F ρ=loop G F (rng 0 j.toNat) ρ:=by
 unfold aPp;rw[h,bCz]
 dsimp only
 rw[if_pos ⟨h1,h2⟩]
theorem bAj {f:Rho->M D}{G:D->Rho->Option Rho}{F:Rho->Option Out}{ρ:Rho}{d:D}{ds:List D}(h:f ρ=ok d)(h1:itD d=ok ds):aWt f G F ρ=loop G F ds (if d.imm=true then ρ else free ρ):=by
 unfold aWt;rw[h,bCz,h1];rfl
theorem aTb {G:D->Rho->Option Rho}{F:Rho->Option Out}(P:List D->Rho->Prop): ∀(ds pre:List D) (ρ:Rho),P pre ρ->
  (∀p d q ρ,pre++ds=p++d::q->P p ρ->∃ρ1 ρ2,G d ρ=some ρ1/\(F ρ1=some (.nx ρ2)\/F ρ1=some (.ct ρ2))/\P (p++ [d]) ρ2)->∃ρ',loop G F ds ρ=some (.nx ρ')/\P (pre++ds) ρ'
 | [],pre,ρ,h,_=>⟨ρ,rfl,by rw[Zl];exact h⟩
 | d::ds,pre,ρ,h,st=>by
  obtain⟨ρ1,ρ2,h1,h2,h3⟩:=st pre d ds ρ rfl h;obtain⟨ρ',h4,h5⟩:=aTb P ds (pre++ [d]) ρ2 h3 (fun p d' q ρ e hp=>st p d' q ρ (by rw[<-e,Yo];rfl) hp);refine⟨ρ',?_,by rw[Yo] at h5;exact h5⟩;unfold loop;rw[h1]
  dsimp only
  rcases h2 with h2 | h2<;>rw[h2]<;>exact h4
theorem aXp {G:D->Rho->Option Rho}{F:Rho->Option Out}(P:List D->Rho->Prop)(ds:List D)(ρ:Rho)(h:P [] ρ)
  (st: ∀p d q ρ,ds=p++d::q->P p ρ->∃ρ1 ρ2,G d ρ=some ρ1/\(F ρ1=some (.nx ρ2)\/F ρ1=some (.ct ρ2))/\P (p++ [d]) ρ2): ∃ρ',loop G F ds ρ=some (.nx ρ')/\P ds ρ':=by
 have:=aTb P ds [] ρ h (fun p d q ρ e=>st p d q ρ (by simpa using e))
 simpa using this
mutual
def D.dep:D->Nat
 | .tup ds=>bLe ds+1
 | .lst ds=>bLe ds+1
 | _=>0
def bLe:List D->Nat
 | []=>0
 | d::ds=>max d.dep (bLe ds)
end
mutual
def D.pl:D->Bool
 | .tup ds=>decide (ds.length<=100000)&&plL ds
 | .lst ds=>decide (ds.length<=100000)&&plL ds
 | .obj _ _=>false
 | .dk _=>false
 | .dt _=>false
 | .exc _=>false
 | .set _=>false
 | _=>true
def plL:List D->Bool
 | []=>true
 | d::ds=>d.pl&&plL ds
end
open Classical in
def tt (S:List D->Prop):List D->M D:=fun ds=>if S ds then ok (.bl true) else none
theorem bJm {S:List D->Prop}{ds:List D}(h:S ds):tt S ds=ok (.bl true):=by unfold tt;rw[if_pos h]
theorem bCg {S:List D->Prop}{ds:List D}{r:Except Addr D}(h:tt S ds=some r):S ds/\r= .ok (.bl true):=by
 unfold tt at h;split at h
 ·rename_i q;exact⟨q,(Option.some.inj h).symm⟩
 ·cases h
theorem intBits_le {a:Int}{k:Nat}(h:a.natAbs<2^k):Builtin.Int.intBits a<=k:=by
 unfold Builtin.Int.intBits;split
 ·exact Y5 _
 ·rename_i q
  have hz:a.natAbs≠0:=by intro z;apply q;simp_all
  have:=(Nat.log2_lt hz).mpr h;omega
theorem bEy {i j:Int}(hi:i.natAbs<2^1048576)(hj:j.natAbs<2^1048576):bCw i j=true:=by
 unfold bCw;rw[Q6];exact⟨decide_eq_true (intBits_le hi),decide_eq_true (intBits_le hj)⟩
theorem bAq {n m k:Nat}(h:n<2^m)(q:m<=k):n<2^k:=Q0 h (Nat.pow_le_pow_right (by decide) q)
def fAt:List D->M D
 | [.lst xs,.int k]=>if 0<=k then (if k<xs.length then (match xs[k.toNat]? with | some d=>ok d | none=>none) else ok (.int 0)) else none
 | _=>none
theorem bFm: ∀ds r,fAt ds=some r->ds.length=2:=by
 intro ds r h;unfold fAt at h;split at h
 ·rfl
 ·cases h
def atZ (ns:List Int)(k:Nat):Int:=ns.getD k 0
theorem bB1 (ns:List Int)(k:Nat):fAt [.lst (ns.map D.int),.int k]=ok (.int (atZ ns k)):=by
 show (if 0<=(k:Int) then (if (k:Int)<(ns.map D.int).length then (match (ns.map D.int)[((k:Int)).toNat]? with | some d=>ok d | none=>none) else ok (.int 0)) else none)=_;rw[if_pos (by omega),Ze,Qv];unfold atZ;by_cases h:k<ns.length
 ·rw[if_pos (by omega),Zp,Q3 h]
  simp[Zz,Q3 h]
 ·rw[if_neg (by omega)]
  simp[Zz,Jh (Nat.le_of_not_lt h)]
def bFv:Rho->Option Out:=
  (aAy (sIf (aA9 (b2 gLt (look 1) (f1 aPd (look 0)))) (aAy (aH7 (b2 gIx (look 0) (look 1)))
  aA8) aA8)
  (aAy (aH7 (con (.int 0)))
  aA8))
theorem bI7 (N:List Str)(hN:N.length=2): ∀ds r,fAt ds=some r->∃d,r= .ok d/\aBq (bFv (aCz N ds))=ok d:=by
 intro ds r h;unfold fAt at h;split at h
 ·rename_i xs k
  have e0:aCz N [.lst xs,.int k]=[some (.sh (.lst xs)),some (.sh (.int k))]:=by unfold aCz;rw[hN];rfl
  rw[e0];split at h
  ·rename_i h0
   split at h
   ·rename_i hk
    split at h
    ·rename_i d hd
     cases h;refine⟨d,rfl,?_⟩;have t1:aA9 (b2 gLt (look 1) (f1 aPd (look 0))) [some (.sh (.lst xs)),some (.sh (.int k))]=ok true:=by
      show ok (decide (k<(xs.length:Int)))=ok true;rw[decide_eq_true hk]
     have t2:b2 gIx (look 0) (look 1) [some (.sh (.lst xs)),some (.sh (.int k))]=ok d:=by
      show (match atI xs k with | some d=>ok d | none=>none)=ok d;have e:k=((k.toNat:Nat):Int):=by omega
      have:atI xs k=some d:=by rw[e];exact aSb hd
      rw[this]
     unfold bFv;rw[aFq (d:=d)]
     ·rfl
     ·rw[aKp t1,aFq (aJa t2)]
    ·cases h
   ·rename_i hk
    cases h;refine⟨_,rfl,?_⟩;have t1:aA9 (b2 gLt (look 1) (f1 aPd (look 0))) [some (.sh (.lst xs)),some (.sh (.int k))]=ok false:=by
     show ok (decide (k<(xs.length:Int)))=ok false;rw[decide_eq_false hk]
    unfold bFv;rw[aB5 (ρ':=[some (.sh (.lst xs)),some (.sh (.int k))])]
    ·rfl
    ·rw[aPo t1];rfl
  ·cases h
 ·cases h
theorem aO3 {m:Str}{FM:Addr->Option (List D->M D)}{fo:Rho->M D}{g:Rho->M (List D)}{ρ:Rho}{C:Addr}{fs:List (Str×D)}{F:List D->M D}{ds:List D}(h1:fo ρ=ok (.obj C fs))(h2:FM C=some F)(h3:fs.lookup m=none)(h4:g ρ=ok ds):
  bB8 m FM fo g ρ=F (.obj C fs::ds):=by
 unfold bB8;rw[h1,aDd]
 dsimp only
 rw[h2,h3]
 dsimp only
 rw[h4,aDd]
theorem aYo {cs:Addr->Bool}{f:Str}{fo:Rho->M D}{ρ:Rho}{C:Addr}{fs:List (Str×D)}{d:D}(h1:fo ρ=ok (.obj C fs))(h2:cs C=true)(h3:fs.lookup f=some d):fld cs f fo ρ=ok d:=by
 unfold fld;rw[h1,aDd]
 dsimp only
 rw[if_pos h2,h3]
theorem aC7 {F:List D->M D}{g:Rho->M (List D)}{ρ:Rho}{ds:List D}(h:g ρ=ok ds):app F g ρ=F ds:=by
 unfold app;rw[h,aDd]
theorem aAp {f:Rho->M D}{g:Rho->M (List D)}{ρ:Rho}{d:D}{ds:List D}(h1:f ρ=ok d)(h2:g ρ=ok ds):aAh f g ρ=ok (d::ds):=by
 unfold aAh;rw[h1,aDd,h2,aDd]
theorem aBe {ρ:Rho}:aBf ρ=ok []:=rfl
theorem aGt {g:D->D->M D}{fa fb:Rho->M D}{ρ:Rho}{x y:D}{r:M D}(h1:fa ρ=ok x)(h2:fb ρ=ok y)(h3:g x y=r):b2 g fa fb ρ=r:=by
 unfold b2;rw[h1,aDd,h2,aDd,h3]
theorem aQ5 {f:Rho->M D}{ρ:Rho}{d:D}{b:Bool}(h:f ρ=ok d)(q:tru d=ok b):test f ρ=ok b:=by unfold test;rw[h,aDd,q]
theorem aCd {f:Rho->M D}{ρ:Rho}{b:Bool}(h:f ρ=ok (.bl b)):aA9 f ρ=ok b:=by unfold aA9;rw[h,aDd];rfl
theorem aRn {f:Rho->M Bool}{ρ:Rho}{b:Bool}(h:f ρ=ok b):bCu f ρ=ok (!b):=by unfold bCu;rw[h,aDd]
abbrev cxC (X:Cx)(scope:Scope)(cl:List (Str×Addr))(N:List Str)(C:Addr)(s₀:Qf)(H₀:Hp)(ex:List Addr):Cx:=
 {X with env:=compEnvC scope cl C X.env,N:=N,s₀:=s₀,H₀:=H₀,outer:=X.stack,ex:=ex,fn:=fun _=>false,pn:=[],xe:=fun _ _=>False}
def aM8 (cl:List (Str×Addr))(env:Env):Bool:=cl.all fun p=>(env.cells.lookup p.1==some p.2)&&(env.kindOf p.1==some .cell || env.kindOf p.1==some .free)
def aUl (N N':List Str)(sc:Scope):Bool:=(Yb N.length).all fun i=>match N'[i]? with
 | some x=>((N[i]? ==some x)&&(sc.names.lookup x==some .cell || sc.names.lookup x==some .free)) ||(sc.names.lookup x==none)
 | none=>false
def aR0 (cl:List (Str×Addr))(sc:Scope):Bool:=sc.names.all fun p=>(p.2 != .cell&&p.2 != .free) ||(cl.lookup p.1).isSome
theorem lookup_mem {α β:Type}[BEq α][LawfulBEq α]: ∀{l:List (α×β)} {x:α} {b:β},l.lookup x=some b->(x,b)∈l
 | [],_,_,h=>by simp at h
 |(y,c)::l,x,b,h=>by
  rw[Uj] at h;cases q:x==y with
  | true=>rw[q] at h;simp at h;subst h;have:=LawfulBEq.eq_of_beq q;subst this;exact Qt
  | false=>rw[q] at h;exact Qw _ (lookup_mem h)
theorem aJk {prog:Qr}{w:Q2}{A:Za}{R:Result->Qf->Prop}{s:Qf}{elt target iter:Expr}{ifs:List Expr}{scope:Scope}{pos:Pos}{it acc:Qd}{env:Env}(I:Nat->Qf->Prop)
  (turn: ∀n s,I n s->Qm (Ql prog w) A (pyNext it) (fun r s₁=>match r with
   | none=>R (.ok .next) s₁
   | some v=>Qm (Ql prog w) A (letOwnedTupleGo target it v) (fun _ s₁'=>Qm (Ql prog w) A (assign target env v) (fun _ s₂=>
     Qm (Ql prog w) A (forIn ifs true fun c r=>if r=true then do let ok<-isTrue c env (eval c env);pure (ForInStep.yield ok) else pure (ForInStep.yield r)) (fun ok s₃=>
      if ok=true then Qm (Ql prog w) A (eval elt env) (fun x s₄=>
       Qm (Ql prog w) A (call (.builtin "list.append") [acc,x]) (fun _ s₅=> ∃m,m<n/\I m s₅) (fun _ _=>False) s₄) (fun _ _=>False) s₃
      else∃m,m<n/\I m s₃) (fun _ _=>False) s₂) (fun _ _=>False) s₁') (fun _ _=>False) s₁) (fun _ _=>False) s)
  (n:Nat) (h:I n s):codeAny (Ql prog w) A (.compLoop (.ListComp elt [⟨target,iter,ifs,0⟩] scope pos) 0 it acc env) R s:=by
 refine codeAny_loop rfl I (fun n s hI=> ?_) n h;show Qm _ A ((compTurn (.ListComp elt [⟨target,iter,ifs,0⟩] scope pos) 0 it acc env).onRaise (fun x=>do noteFrame x env;theTreesLotGoes x)) _ _ s;refine wpAny_noted ?_;rw[compTurn_list];refine Qc (wpAny_standAt (Qc (Ys (turn n s hI) (fun r s₁ h₁=> ?_) fun _ _ h'=>h'.elim)));cases r with
 | none=>exact Qe h₁
 | some v=>
  refine Qc (Ys h₁ (fun _ s₁' h₁'=> ?_) fun _ _ h'=>h'.elim);refine Qc (Ys h₁' (fun _ s₂ h₂=>Qc (Ys h₂ (fun ok s₃ h₃=> ?_) fun _ _ h'=>h'.elim)) fun _ _ h'=>h'.elim);cases ok with
  | false=>exact Qe ⟨rfl,h₃⟩
  | true=>
   exact Qc (Qc (Ys h₃ (fun x s₄ h₄=>Qc (Ys h₄ (fun _ s₅ h₅=>Qe (Qe ⟨rfl,h₅⟩)) fun _ _ h'=>h'.elim)) fun _ _ h'=>h'.elim))
def PIf (X:Cx)(B:Hp)(ifs:List Expr)(ft:Rho->M Bool):Prop:=(ifs=[]/\ft=fun _=>ok true)\/∃c,ifs=[c]/\PDT X B c ft
def aUe (σ:St):List Nat->List V->St
 | k::ks,v::vs=>aUe (σ.set k (some v)) ks vs
 | _,_=>σ
def bAe (ρ:Rho):List Nat->List D->Rho
 | k::ks,d::ds=>bAe (ρ.set k (some (.sh d))) ks ds
 | _,_=>ρ
def PDH (X:Cx)(tg:Expr)(ks:List Nat)(G:D->Option (List D)):Prop:=
 PG X tg (fun v σ H Q=> ∃d es,Is X.K H d v/\G d=some es/\∀vs,IsL X.K H es vs->vs.length=ks.length->Q (aUe σ ks vs) H)
def aOz (ks:List Nat)(G:D->Option (List D))(ft:Rho->M Bool)(fe:Rho->M D):List D->Rho->M (List D)
 | [],_=>ok []
 | d::ds,ρ=>match G d with
  | none=>none
  | some es=>match ft (bAe ρ ks es) with
   | some (.ok true)=>(match fe (bAe ρ ks es) with
    | some (.ok r)=>if r.imm=true then bnd (aOz ks G ft fe ds ρ) fun rs=>ok (r::rs) else none
    | _=>none)
   | some (.ok false)=>aOz ks G ft fe ds ρ
   | _=>none
def ext (m:Nat)(ρ:Rho):Rho:=ρ++Q8 m none
def cmp (m:Nat)(it:Rho->M (List D))(ks:List Nat)(G:D->Option (List D))(ft:Rho->M Bool)(fe:Rho->M D):Rho->M D:=fun ρ=>
 bnd (it ρ) fun ds=>if ds.length<=1000000 then bnd (aOz ks G ft fe ds (ext m (free ρ))) fun rs=>ok (.lst rs) else none
theorem aJl {ks:List Nat}{G:D->Option (List D)}{ft:Rho->M Bool}{fe:Rho->M D}: ∀{ds:List D} {ρ:Rho} {c:Addr},aOz ks G ft fe ds ρ≠some (.error c)
 | [],ρ,c=>fun h=>by cases h
 | d::ds,ρ,c=>fun h=>by
  unfold aOz at h;split at h
  ·cases h
  ·split at h
   ·split at h
    ·split at h
     ·cases q:aOz ks G ft fe ds ρ with
      | none=>rw[q] at h;cases h
      | some z=>
       cases z with
       | error c'=>exact aJl q
       | ok z=>rw[q] at h;cases h
     ·cases h
    ·cases h
   ·exact aJl h
   ·cases h
theorem aMa: ∀(a b:List D),aIj (a++b)=(aIj a&&aIj b)
 | [],b=>by simp[aIj]
 | d::a,b=>by
  show (d.imm&&aIj (a++b))=((d.imm&&aIj a)&&aIj b);rw[aMa a b,Bool.and_assoc]
theorem aLq: ∀{ks:List Nat} {σ:St} {vs:List V},(aUe σ ks vs).length=σ.length
 | [],σ,vs=>by cases vs<;>rfl
 | k::ks,σ,[]=>rfl
 | k::ks,σ,v::vs=>by
  show (aUe (σ.set k (some v)) ks vs).length=_;rw[aLq,Q5]
theorem aSu: ∀{ks:List Nat} {σ:St} {vs:List V} {i:Nat},i∉ks->(aUe σ ks vs)[i]? =σ[i]?
 | [],σ,vs,i,_=>by cases vs<;>rfl
 | k::ks,σ,[],i,_=>rfl
 | k::ks,σ,v::vs,i,h=>by
  show (aUe (σ.set k (some v)) ks vs)[i]? =_;rw[aSu (fun z=>h (Qw _ z)),Qj (fun z=>h (by rw[z];exact Qt))]
def Shr (K:Qb)(H:Hp)(ρ:Rho)(σ:St):Prop:=ρ.length=σ.length/\∀(i:Nat) (sv:SV),ρ[i]? =some (some sv)->∃d v,sv= .sh d/\σ[i]? =some (some v)/\Is K H d v
theorem Shr.rel {K:Qb}{H:Hp}{ρ:Rho}{σ:St}(h:Shr K H ρ σ):Rel K H ρ σ H:=by
 have e0:Off H (fun _=>none)=H:=by funext b;unfold Off;rw[if_neg (fun⟨i,e⟩=>nomatch e)]
 refine⟨fun _=>none,(by intro _ _ _ q;cases q),(by intro _ _ q;cases q),by rw[e0];exact Same.refl _,h.1,fun i sv q=> ?_⟩;obtain⟨d,v,rfl,e1,e2⟩:=h.2 i sv q;exact⟨v,e1,by rw[e0];exact e2⟩
theorem Shr.mono {K:Qb}{H H':Hp}{ρ:Rho}{σ:St}(e:Same H H')(h:Shr K H ρ σ):Shr K H' ρ σ:=⟨h.1,fun i sv q=>by
 obtain⟨d,v,e0,e1,e2⟩:=h.2 i sv q;exact⟨d,v,e0,e1,e2.mono e⟩⟩
theorem Shr.free {K:Qb}{B H:Hp}{ρ:Rho}{σ:St}(r:Rel K B ρ σ H):Shr K H (free ρ) σ:=by
 refine⟨?_,fun i sv q=> ?_⟩
 ·obtain⟨_,_,_,_,hl,_⟩:=r.freed;exact hl
 ·unfold PU.free at q
  rw[Zp] at q;obtain⟨o,e1,e2⟩:=Option.map_eq_some_iff.mp q;cases o with
  | none=>cases e2
  | some sv0=>
   have e2':sv0.rel=sv:=Option.some.inj e2;subst e2';obtain⟨v,e3,e4⟩:=r.get e1;exact⟨sv0.cur,v,by cases sv0<;>rfl,e3,e4⟩
theorem Shr.more {K:Qb}{H:Hp}{ρ:Rho}{σ:St}(m:Nat)(h:Shr K H ρ σ):Shr K H (ext m ρ) (σ++Q8 m none):=by
 refine⟨by unfold ext;simp[h.1],fun i sv e=> ?_⟩;have e':ρ[i]? =some (some sv):=by
  unfold ext at e;by_cases hi:i<ρ.length
  ·rw[Z4 hi] at e;exact e
  ·rw[Yj (by omega),Z9] at e
   split at e<;>cases e
 have hi:i<σ.length:=by rw[<-h.1];exact (List.getElem?_eq_some_iff.mp e').1
 obtain⟨d,v,e0,e1,e2⟩:=h.2 i sv e';exact⟨d,v,e0,by rw[Z4 hi];exact e1,e2⟩
theorem Shr.set {K:Qb}{H:Hp}{ρ:Rho}{σ:St}{k:Nat}{d:D}{v:V}(h:Shr K H ρ σ)(i:Is K H d v):Shr K H (ρ.set k (some (.sh d))) (σ.set k (some v)):=by
 refine⟨by rw[Q5,Q5,h.1],fun j sv e=> ?_⟩;by_cases q:j=k
 ·subst q
  have hj:j<ρ.length:=by
   have:=(List.getElem?_eq_some_iff.mp e).1
   rwa [Q5] at this
  rw[Q1 hj] at e;have e':=Option.some.inj (Option.some.inj e);exact⟨d,v,e'.symm,Q1 (by rw[<-h.1];exact hj),i⟩
 ·rw[Qj (Ne.symm q)] at e
  obtain⟨d',v',e0,e1,e2⟩:=h.2 j sv e;exact⟨d',v',e0,by rw[Qj (Ne.symm q)];exact e1,e2⟩
theorem Shr.bCj {K:Qb}{H:Hp}: ∀{ks:List Nat} {ρ:Rho} {σ:St} {ds:List D} {vs:List V},Shr K H ρ σ->IsL K H ds vs->Shr K H (bAe ρ ks ds) (aUe σ ks vs)
 | [],ρ,σ,ds,vs,h,i=>by cases i<;>exact h
 | k::ks,ρ,σ,_,_,h,.nil=>h
 | k::ks,ρ,σ,d::ds,v::vs,h,.cons i r=>by
  show Shr K H (bAe (ρ.set k (some (.sh d))) ks ds) (aUe (σ.set k (some v)) ks vs);exact Shr.bCj (ks:=ks) (h.set (k:=k) i) r
section
variable {X:Cx}{B:Hp}{scope:Scope}{cl:List (Str×Addr)}{N':List Str}{m:Nat}
theorem aSm {env:Env}(hf:aR0 cl (relabel scope env)=true){x:Str}{k:NameKind}(hk:(relabel scope env).names.lookup x=some k)(hc:k= .cell\/k= .free): ∃c,cl.lookup x=some c:=by
 have h:=List.all_eq_true.mp hf _ (lookup_mem hk)
 dsimp only at h
 rw[Z1] at h;rcases h with h | h
 ·rcases hc with rfl | rfl<;>simp at h
 ·exact Option.isSome_iff_exists.mp h
theorem aU7 {pins:List (Addr×Obj)}{σ:St}{H:Hp}{s:Qf}{fp:List Addr}{h₁:Heap}{tk:Nat}(I:Inv X pins σ H s)(hkind:scope.kind= .function)(hcl:aM8 cl X.env=true)(hnm:aUl X.N N' (relabel scope X.env)=true)(hf:aR0 cl (relabel scope X.env)=true)(hl:N'.length=X.N.length+m)
  (hfp: ∀b∈fp,bCf X pins H b/\b<s.heap.objs.size) (hk: ∀b o,s.heap.get? b=some o->h₁.get? b=some o) {mm:Str->Option Qd} (hns:h₁.Ns s.heap.objs.size mm):
  Inv (cxC X scope cl N' s.heap.objs.size s H fp) [] (σ++Q8 m none) H {s with heap:=h₁,toks:=tk}:=by
 have sub: ∀x c,cl.lookup x=some c->X.env.cells.lookup x=some c/\(X.env.kindOf x=some .cell\/X.env.kindOf x=some .free):=fun x c e=>by
  have h:=List.all_eq_true.mp hcl _ (lookup_mem e)
  dsimp only at h
  rw[Q6,Z1] at h;exact⟨beq_iff_eq.mp h.1,h.2.elim (fun z=> .inl (beq_iff_eq.mp z)) fun z=> .inr (beq_iff_eq.mp z)⟩
 have bFh: ∀b∈fp,b∉frs X.stack:=fun b hb z=>by
  rcases List.mem_cons.mp (I.aSt b z) with e | e
  ·exact (hfp b hb).1.2.1 e
  ·exact (hfp b hb).1.2.2.1 e
 refine⟨⟨I.ok.mod,hkind,I.ok.glob,I.ok.blt,Qn _,fun x y c h1 h2=>I.ok.inj x y c (sub x c h1).1 (sub y c h2).1,fun x hx=> ?_,(fun x c h=>by cases h),I.ok.hd,I.ok.frames,.inl rfl,fun b hb=> ?_,I.bs,Zi I.ok.bsz I.sz,fun b o e hb=> ?_,bFh,I.stack,I.aI7⟩,
  rfl,I.bare,Un.kept hk,⟨mm,hns,fun i x v h1 h2 h3=> ?_⟩,fun x c e=> ?_,I.hok.fresh (Qn _),fun x c e=>I.aF5 x c (sub x c e).1,(fun p hp=>by cases hp),I.hok.kept hk,?_⟩
 ·rcases hx with hx | hx
  ·exact aSm hf hx (.inl rfl)
  ·exact aSm hf hx (.inr rfl)
 ·exact⟨Qy (hfp b hb).2,fun x c e=>(hfp b hb).1.2.2.2.2.1 x c (sub x c e).1⟩
 ·rcases (hfp b hb).1.2.2.2.1 with z | z
  ·exact I.ok.bCv b o e z
  ·exact absurd (Q0 (Qp e) (Zi I.ok.bsz z)) (Jc _)
 ·--a name of the outer def
  have hi:i<σ.length:=by
   by_cases hi:i<σ.length
   ·exact hi
   ·rw[Yj (by omega),Z9] at h2
    split at h2<;>cases h2
  rw[Z4 hi] at h2;have hiN:i<X.N.length:=by rw[<-I.len];exact hi
  have hn:=List.all_eq_true.mp hnm i (List.mem_range.mpr hiN)
  (try dsimp only at h1)
  (try dsimp only at hn)
  rw[h1] at hn
  (try dsimp only at hn)
  rw[Z1] at hn;have bM9: ∃k,(relabel scope X.env).names.lookup x=some k:=by
   rcases h3 with h | h | h
   ·exact⟨_,h⟩
   ·exact⟨_,h⟩
   ·exact⟨_,h⟩
  obtain⟨kx,hkx⟩:=bM9;rcases hn with hn | hn
  ·rw[Q6,Z1] at hn
   have hXN:X.N[i]? =some x:=beq_iff_eq.mp hn.1;have hcf:(relabel scope X.env).names.lookup x=some .cell\/(relabel scope X.env).names.lookup x=some .free:=hn.2.elim (fun z=> .inl (beq_iff_eq.mp z)) fun z=> .inr (beq_iff_eq.mp z)
   obtain⟨c,hc⟩: ∃c,cl.lookup x=some c:=hcf.elim (fun z=>aSm hf z (.inl rfl)) fun z=>aSm hf z (.inr rfl)
   obtain⟨m0,hm0,lk⟩:=I.loc;have hk0:=(sub x c hc).2;obtain⟨u,ru,lu⟩:=lk i x v hXN h2 (hk0.elim (fun z=> .inr (.inl z)) fun z=> .inr (.inr z));refine⟨u,ru,.inr ⟨hcf,c,hc,?_⟩⟩;rcases lu with⟨z1,_⟩ |⟨_,c',e1,o,ho,hd⟩
   ·rcases hk0 with z | z<;>rw[z] at z1<;>cases z1
   ·rw[(sub x c hc).1] at e1
    cases e1;exact⟨o,hk _ _ ho,hd⟩
  ·have e:=beq_iff_eq.mp hn
   rw[hkx] at e;cases e
 ·obtain⟨v,z⟩:=I.cell x c (sub x c e).1
  obtain⟨o,ho,hd⟩:=z;exact⟨v,o,hk _ _ ho,hd⟩
 ·show (σ++Q8 m none).length=N'.length
  rw[Qx,Yz,I.len,hl]
variable {x:Str}{tg iter elt:Expr}{ifs:List Expr}{pos:Pos}{ks:List Nat}{G:D->Option (List D)}{ft:Rho->M Bool}{fe:Rho->M D}{it:Rho->M (List D)}
def PIt (X:Cx)(B:Hp)(tg iter:Expr)(it:Rho->M (List D)):Prop:=
 ∀(pins:List (Addr×Obj)) (s:Qf) (σ:St) (H:Hp) (R:It->Hp->Prop) (ρ:Rho),Inv X pins σ H s->Rel X.K B ρ σ H->
  Res X σ H (fun ds=> ∀J H1,Same H H1->ItD X.K J ds H1->R J H1) (it ρ)->
  Qm (Ql X.prog X.w) X.A (eval iter X.env) (fun v s1=>Qm (Ql X.prog X.w) X.A (pyIter v) (PIE X pins σ tg R) X.xe s1) X.xe s
def bL7 (X:Cx)(pins:List (Addr×Obj))(C:Addr):Prop:=(C∈X.ex\/X.s₀.heap.objs.size<=C)/\C≠X.env.locals/\(∀x c,X.env.cells.lookup x=some c->c≠C)/\∀p∈X.pn++pins,p.1≠C
theorem none_of {H H':Hp}{a:Addr}(e:Same H H')(h:H' a=none):H a=none:=by
 cases q:H a with
 | none=>rfl
 | some o=>rw[e _ _ q] at h;cases h
theorem aQl (hclos:closureFor scope X.env=pure cl)(hcell: ∀y∈scope.names,y.2≠ .cell)(hkind:scope.kind= .function)(hnames: ∀y∈scope.names,y.2= .local->scope.names.lookup y.1=some .local)(hcl:aM8 cl X.env=true)
  (hnm:aUl X.N N' (relabel scope X.env)=true) (hf:aR0 cl (relabel scope X.env)=true) (hl:N'.length=X.N.length+m) (hks: ∀k∈ks,X.N.length<=k) (hcm:X.calm=true) (hi:PIt X B tg iter it)
  (hg: ∀C s₀ H₀ ex,PDH (cxC X scope cl N' C s₀ H₀ ex) tg ks G) (ht: ∀C s₀ H₀ ex B,PIf (cxC X scope cl N' C s₀ H₀ ex) B ifs ft) (he: ∀C s₀ H₀ ex B,PD (cxC X scope cl N' C s₀ H₀ ex) B elt fe)
  (hs: ∀x,Zs iter X.env x=pure x) {p0:Pos} {use:Option (Qd->Sem Unit)} {Q':Qd->Qf->Prop} {Kp:List D->Prop} {pins:List (Addr×Obj)} {s:Qf} {σ:St} {H:Hp} {ρ:Rho} (I:Inv X pins σ H s) (r:Rel X.K B ρ σ H) (h:Res X σ H (fun d=> ∀rs,d= .lst rs->Kp rs) (cmp m it ks G ft fe ρ))
  (fin: ∀(Dd Cc:Addr) (s3:Qf) (Hj:Hp) (rs:List D),(∀h',Yg Cc s3.heap h'->Inv X pins σ Hj {s3 with heap:=h'})->(∃m,s3.heap.Ns Cc m)->bL7 X pins Cc->Hj Cc=none->Same H Hj->H Dd=none->aIj rs=true->(∃vs,Hj Dd=some (.lst vs)/\IsL X.K Hj rs vs)->Kp rs->
   compPost (Ql X.prog X.w) X.A X.xe use Q' (.ref Dd) Cc (.ok .next) s3):
  Qm (Ql X.prog X.w) X.A (comprehension (.ListComp elt [⟨tg,iter,ifs,0⟩] scope pos) scope X.env p0 (newList []) false (eval iter X.env) use) Q' X.xe s:=by
 refine wpAny_comprehension_free (use:=use) rfl hs hclos hkind hnames ?_;show Qm (Ql X.prog X.w) X.A (eval iter X.env) _ X.xe s;refine thn (hi pins s σ H (fun J H1=> ∃ds,Same H H1/\ItD X.K J ds H1/\ds.length<=1000000/\∃rs,aOz ks G ft fe ds (ext m (free ρ))=ok rs/\Kp rs) ρ I r ((Res.bind h).imp fun ds h1 J H1 e1 i1=> ?_)) fun v s1 h1=>thn h1 fun itv s2 h2=> ?_
 ·split at h1
  ·rename_i hlen
   refine⟨ds,e1,i1,hlen,?_⟩;have h2:=Res.bind h1;cases q:aOz ks G ft fe ds (ext m (free ρ)) with
   | none=>rw[q] at h2;exact Qg h2
   | some z=>
    cases z with
    | error c=>exact absurd q aJl
    | ok rs=>rw[q] at h2;exact⟨rs,rfl,h2 rs rfl⟩
  ·exact Qg h1
 obtain⟨ia,fp,tn,J,H2,rfl,I2,T,st2,f2,ds,e1,hJ,hlen,rs,hrs,hQ⟩:=h2;have bMl:Shr X.K H2 (ext m (free ρ)) (σ++Q8 m none):=((Shr.free r).mono e1).more m;have fpl: ∀b∈fp,b<s2.heap.objs.size:=fun b hb=>let ⟨o,ho,_⟩:=T.obj 0 _ st2 b hb;Qp ho
 refine Yd (wpAny_newFunctionEnv hcell (by intro y hy;simp at hy) (fun h₁ hns₁ hsb₁=> ?_) hkind)
 dsimp only at hns₁ hsb₁⊢
 have I0:Inv X pins σ (upd H2 s2.heap.objs.size (.lst [])) {s2 with heap:=s2.heap.push {cls:= .type "list",dict:=none,data:= .seq ([]:List Qd).toArray}}:=I2.bL2 (t':=s2.toks) (its:=[]) .nil (Y5 _);have hsz:(s2.heap.push {cls:= .type "list",dict:=none,data:= .seq ([]:List Qd).toArray}).objs.size=s2.heap.objs.size+1:=Heap.size_push _ _;generalize hP:s2.heap.push {cls:= .type "list",dict:=none,data:= .seq ([]:List Qd).toArray}=P2 at hns₁ hsb₁ I0 hsz⊢;generalize hD:s2.heap.objs.size=Dd at*;generalize hC:P2.objs.size=Cc at*;have bNo:Dd≠Cc:=by omega
 have bK9: ∀b o,P2.get? b=some o->h₁.get? b=some o:=fun b o e=>hsb₁.extBut b o (Qy (by rw[<-hC];exact Qp e)) (Qh _ e)
 have bK8: ∀b o,s2.heap.get? b=some o->P2.get? b=some o:=fun b o e=>by rw[<-hP];exact Qh _ e
 have nD2:H2 Dd=none:=I2.hok.fresh (by omega);have nC2:H2 Cc=none:=I2.hok.fresh (by omega);have sm0:Same H2 (upd H2 Dd (.lst [])):=aA4 nD2 _;have fp0: ∀b∈fp,bCf X pins (upd H2 Dd (.lst [])) b/\b<P2.objs.size:=fun b hb=>by
  have hb':=fpl b hb;obtain⟨f0,f1⟩:=f2 b hb;exact⟨⟨by rw[aAq (Qy hb')];exact f0,f1⟩,by rw[hC,hsz];exact Ui hb'⟩
 have IC:=aU7 (tk:=s2.toks+([]:List (Str×Qd)).length) I0 hkind hcl hnm hf hl fp0 bK9 (by rw[hC];exact hns₁);rw[hC] at IC;have loop: ∀s₄:Qf,s₄={s2 with heap:=h₁,toks:=s2.toks+([]:List (Str×Qd)).length}->
   codeAny (Ql X.prog X.w) X.A (.compLoop (.ListComp elt [⟨tg,iter,ifs,0⟩] scope pos) 0 (.ref ia) (.ref Dd) (compEnvC scope cl Cc X.env)) (compPost (Ql X.prog X.w) X.A X.xe use Q' (.ref Dd) Cc) s₄:=by
  rintro s₄ rfl
  refine aJk (fun n s'=> ∃j Hj vs rj rest,n=ds.length+1-j/\j<=ds.length/\Inv (cxC X scope cl N' Cc {s2 with heap:=P2} (upd H2 Dd (.lst [])) fp) [] (σ++Q8 m none) Hj s'/\tn j s'.heap/\(∀b∈fp,Hj b=none)/\
   Hj Dd=some (.lst vs)/\IsL X.K Hj rj vs/\aIj rj=true/\rj.length<=j/\Same H2 Hj/\aOz ks G ft fe (ds.drop j) (ext m (free ρ))=ok rest/\rs=rj++rest) ?_ (ds.length+1)
   ⟨0,_,[],[],rs,rfl,Y5 _,IC,T.keep _ _ _ st2 fun b hb o e=>bK9 _ _ (bK8 _ _ e),fun b hb=>(fp0 b hb).1.1,aAs,.nil,rfl,Qn _,sm0,by simpa using hrs,rfl⟩
  rintro n s' ⟨j,Hj,vs,rj,rest,rfl,hj,IJ,stj,frj,hDj,ilj,imj,hlj,smj,hrest,bK7⟩
  have fpX: ∀{H':Hp},(∀b∈fp,H' b=none)->∀b∈fp,bCf (cxC X scope cl N' Cc {s2 with heap:=P2} (upd H2 Dd (.lst [])) fp) [] H' b:=fun hn b hb=>
   ⟨hn b hb,(IJ.ok.exf b hb).1,IJ.ok.bC9 b hb,.inl hb,(IJ.ok.exf b hb).2,(fun p hp=>by cases hp)⟩
  by_cases hlt:j<ds.length
  ·have hd:ds.drop j=ds[j]::ds.drop (j+1):=Jr hlt
   rw[hd] at hrest;obtain⟨q0,q1,q2,q3⟩:(∃es,G ds[j]=some es)/\True/\True/\True:=by
    refine⟨?_,trivial,trivial,trivial⟩;cases q:G ds[j] with
    | none=>unfold aOz at hrest;rw[q] at hrest;cases hrest
    | some es=>exact⟨es,rfl⟩
   obtain⟨es,hG⟩:=q0;unfold aOz at hrest;rw[hG] at hrest
   dsimp only at hrest
   refine thn (T.item (cxC X scope cl N' Cc {s2 with heap:=P2} (upd H2 Dd (.lst [])) fp) rfl rfl rfl hcm j [] s' _ Hj (fun _ _=>False) IJ (fpX frj) stj (hJ.go j Hj smj hlt)) fun r s3 ⟨u,hr,h4⟩=> ?_
   subst hr;refine thn h4 fun _ s5 ⟨xv,H5,I5,r5,y5,st5,fr5⟩=> ?_
   obtain⟨e5,d,e6,e7⟩:=hJ.yld j Hj xv H5 smj y5 hlt
   replace hDj:=e5 _ _ hDj
   replace ilj:=IsL.mono e5 ilj
   replace smj:=smj.trans e5
   have ed:ds[j]=d:=by rw[Q3 hlt] at e6;exact Option.some.inj e6
   rw[ed] at hG;have I5':=I5.pinned (fpX fr5) (T.obj _ _ st5);rw[List.nil_append] at I5';refine thn (hg Cc {s2 with heap:=P2} (upd H2 Dd (.lst [])) fp _ s5 _ H5 xv u (fun σ6 H6=>H6=H5/\∃vs',IsL X.K H5 es vs'/\σ6=aUe (σ++Q8 m none) ks vs') I5' r5 ⟨d,es,e7,hG,fun vs' iv' _=>⟨rfl,vs',iv',rfl⟩⟩) fun _ s6 ⟨σ6,H6,I6,q6⟩=> ?_
   obtain⟨rfl,vs',iv',rfl⟩:=q6;have bLr:Rel X.K H6 (bAe (ext m (free ρ)) ks es) (aUe (σ++Q8 m none) ks vs') H6:=(Shr.bCj (bMl.mono smj) iv').rel;have turn: ∀(s7:Qf) (H7:Hp) (vs7:List V) (r7 bAl:List D),Inv (cxC X scope cl N' Cc {s2 with heap:=P2} (upd H2 Dd (.lst [])) fp) (aNr fp s5.heap) (aUe (σ++Q8 m none) ks vs') H7 s7->H7 Dd=some (.lst vs7)->IsL X.K H7 r7 vs7->aIj r7=true->r7.length<=j+1->Same H2 H7->
     aOz ks G ft fe (ds.drop (j+1)) (ext m (free ρ))=ok bAl->rs=r7++bAl->∃k,k<ds.length+1-j/\∃j' Hj vs rj rest,k=ds.length+1-j'/\j'<=ds.length/\Inv (cxC X scope cl N' Cc {s2 with heap:=P2} (upd H2 Dd (.lst [])) fp) [] (σ++Q8 m none) Hj s7/\tn j' s7.heap/\(∀b∈fp,Hj b=none)/\
     Hj Dd=some (.lst vs)/\IsL X.K Hj rj vs/\aIj rj=true/\rj.length<=j'/\Same H2 Hj/\aOz ks G ft fe (ds.drop j') (ext m (free ρ))=ok rest/\rs=rj++rest:=by
    intro s7 H7 vs7 r7 bAl I7 a1 a2 a3 a4 a5 a6 a7;have pin: ∀b∈fp,∀o,s5.heap.get? b=some o->s7.heap.get? b=some o/\H7 b=none:=fun b hb o e=>
     let z:=I7.pin (b,o) (Zd _ (aJd hb e));⟨z.1,z.2.1⟩
    refine⟨ds.length+1-(j+1),by omega,j+1,H7,vs7,r7,bAl,rfl,hlt,?_,T.keep _ _ _ st5 fun b hb o e=>(pin b hb o e).1,fun b hb=> ?_,a1,a2,a3,a4,a5,a6,a7⟩
    ·have I8:Inv (cxC X scope cl N' Cc {s2 with heap:=P2} (upd H2 Dd (.lst [])) fp) [] (aUe (σ++Q8 m none) ks vs') H7 s7:=I7.aRd (fun p hp=>by cases hp)
     refine I8.weak (by rw[aLq]) fun i v e=> ?_
     rw[aSu]
     ·exact e
     ·intro hi
      have:=hks i hi;rw[Yj (by rw[I2.len];exact this),Z9] at e;split at e<;>cases e
    ·obtain⟨o,ho,_⟩:=T.obj _ _ st5 b hb
     exact (pin b hb o ho).2
   have tst:Qm (Ql X.prog X.w) X.A (forIn ifs true fun c r=>if r=true then do let ok<-isTrue c (compEnvC scope cl Cc X.env) (eval c (compEnvC scope cl Cc X.env));pure (ForInStep.yield ok) else pure (ForInStep.yield r))
     (fun bb s7=> ∃H7,Inv (cxC X scope cl N' Cc {s2 with heap:=P2} (upd H2 Dd (.lst [])) fp) (aNr fp s5.heap) (aUe (σ++Q8 m none) ks vs') H7 s7/\Same H6 H7/\ft (bAe (ext m (free ρ)) ks es)=ok bb) (fun _ _=>False) s6:=by
    rcases ht Cc {s2 with heap:=P2} (upd H2 Dd (.lst [])) fp H6 with⟨rfl,hft⟩ |⟨c,rfl,hft⟩
    ·exact wpAny_tests_nil ⟨H6,I6,Same.refl _,by rw[hft]⟩
    ·cases qt:ft (bAe (ext m (free ρ)) ks es) with
     | none=>rw[qt] at hrest;cases hrest
     | some z=>
      cases z with
      | error ce=>rw[qt] at hrest;cases hrest
      | ok bb=>
       refine wpAny_tests_one (thn (hft _ s6 _ H6 (fun b H7=>Same H6 H7/\b=bb) I6 ⟨_,bLr,by rw[qt];exact fun H7 e=>⟨e,rfl⟩⟩) fun b s7 ⟨H7,I7,e,eb⟩=> ?_);subst eb;exact⟨H7,I7,e,rfl⟩
   refine thn tst fun bb s7 ⟨H7,I7,sm7,hbb⟩=> ?_
   rw[hbb] at hrest;cases bb with
   | false=>
    rw[if_neg (by decide)];exact turn s7 H7 vs rj rest I7 (sm7 _ _ hDj) (ilj.mono sm7) imj (by omega) (smj.trans sm7) hrest bK7
   | true=>
    rw[if_pos rfl]
    dsimp only[ok] at hrest
    cases qe:fe (bAe (ext m (free ρ)) ks es) with
    | none=>rw[qe] at hrest;cases hrest
    | some z=>
     cases z with
     | error ce=>rw[qe] at hrest;cases hrest
     | ok rr=>
      rw[qe] at hrest
      dsimp only at hrest
      split at hrest
      ·rename_i him
       obtain⟨rest',er,er2⟩:=aY7 hrest;have er3:=aB7 er2;refine thn (he Cc {s2 with heap:=P2} (upd H2 Dd (.lst [])) fp H6 _ s7 _ H7 (fun v H8=>Same H7 H8/\Is X.K H8 rr v) I7 ⟨_,bLr.mono sm7,by rw[qe];exact fun v H8 e i=>⟨e,i⟩⟩) fun u8 s8 ⟨v8,H8,I8,rv8,sm8,i8⟩=> ?_
       have hD8:H8 Dd=some (.lst vs):=sm8 _ _ (sm7 _ _ hDj);have hlv:vs.length=rj.length:=ilj.length.symm;have il8:=(ilj.mono sm7).mono sm8;have al: ∀o,(∀b xs,H8 b=some (.tup xs)->upd H8 Dd (.lst o) b=some (.tup xs))/\(∀b oo u,H8 b=some (.frz oo u)->upd H8 Dd (.lst o) b=some (.frz oo u)):=fun o=>
        ⟨fun b xs e=>by rw[aAq (fun z=>by subst z;rw[hD8] at e;cases e)];exact e,fun b oo u e=>by rw[aAq (fun z=>by subst z;rw[hD8] at e;cases e)];exact e⟩
       refine thn (aXh _ s8 _ H8 (.ref Dd) [v8] (.ref Dd) [u8] (fun v9 H9=>H9=upd H8 Dd (.lst (vs++ [v8]))) I8 rfl (.cons rv8 .nil) ⟨Dd,vs,v8,rfl,rfl,hD8,by have:=sizeLine_eq;omega,rfl⟩) fun u9 s9 ⟨v9,H9,I9,_,e9⟩=> ?_
       subst e9;refine turn s9 _ (vs++ [v8]) (rj++ [rr]) rest' I9 aAs ((IsL.alike (al _).1 (al _).2 imj il8).append (.cons (Is.alike (al _).1 (al _).2 him i8) .nil)) ?_ (by rw[Qx];simp only[Q4,J1];omega) ?_ er (by rw[bK7,<-er3,Yo];rfl)
       ·rw[aMa,imj]
        show (rr.imm&&true)=true;rw[him];rfl
       ·intro b o e
        rw[aAq (aBi e nD2)];exact sm8 _ _ (sm7 _ _ (smj _ _ e))
      ·cases hrest
  ·have ej:j=ds.length:=by omega
   subst ej;rw[U6 (Qn _)] at hrest;have er:=aB7 hrest;refine thn (T.done (cxC X scope cl N' Cc {s2 with heap:=P2} (upd H2 Dd (.lst [])) fp) rfl rfl rfl hcm ds.length [] s' _ Hj (fun _ _=>False) IJ (fpX frj) stj (hJ.stop _ Hj smj (Qn _))) fun r s3 ⟨hr,I3⟩=> ?_
   subst hr;obtain⟨mm,hmm,_⟩:=I3.loc;have nCj:Hj Cc=none:=I3.free;have zC:=I2.bIr (b:=Cc) (H':=H2) (by rw[hD,hsz];exact Jf _) nC2;have ers:rs=rj:=by rw[bK7,<-er,Zl]
   refine fin Dd Cc s3 Hj rs ?_ ⟨mm,hmm⟩ ⟨zC.2.2.2.1,zC.2.1,zC.2.2.2.2.1,zC.2.2.2.2.2⟩ nCj (e1.trans smj) (none_of e1 nD2) (by rw[ers];exact imj) ⟨_,hDj,by rw[ers];exact ilj⟩ hQ;intro h' hsb;have U1:Un (frs X.stack) (Cc::fp) H2 (upd H2 Dd (.lst [])) s2.heap P2:=Un.laid bK8 (by rw[hD];exact Qn _) nD2;have U2:Un (frs X.stack) (Cc::fp) (upd H2 Dd (.lst [])) Hj P2 s3.heap:=I3.base.mono (fun _ z=>z) (fun b z=>Qw _ z);have kp: ∀b o,b≠Cc->s3.heap.get? b=some o->h'.get? b=some o:=fun b o hb e=>hsb.extBut b o hb e
   have nc: ∀b,b∉Cc::fp->b≠Cc:=fun b hb z=>hb (by rw[z];exact Qt)
   have U3:Un (frs X.stack) (Cc::fp) Hj Hj s3.heap h':=⟨fun b o e _ _ hx=>kp b o (nc b hx) e,fun b o e _ _ hx=>⟨o.slots,kp b o (nc b hx) e⟩,fun _ _ _ n _=>n,fun b o e hx=>⟨o,kp b o (nc b hx) e⟩,fun _ _ e=>e,fun _ _ _ e=>e,fun b ps e=>⟨#[],by rw[e];simp⟩⟩;have hok':HOk X.prog X.w Hj h':=fun b u e=>(I3.hok b u e).stay (fun c v hc q=>kp c v (fun z=>by
    rcases hc with hc | hc
    ·rw[hc] at z;rw[z,nCj] at e;cases e
    ·rw[z,nCj] at hc;cases hc) q) (fun _ q=>q) fun _ _ q=>q
   have IX:Inv X pins σ Hj {s3 with heap:=h'}:=I2.call' (ch:=Cc::fp) I3.os ((U1.trans U2).trans U3) hok' I3.bare fun b hb=>by
    rcases List.mem_cons.mp hb with rfl | hb
    ·have z:=I2.bIr (b:=b) (H':=H2) (by rw[hD,hsz];exact Jf _) nC2
     exact⟨z.2.2.2.1,z.2.1,z.2.2.2.2.1,z.2.2.2.2.2⟩
    ·obtain⟨z0,z1,z2,z3,z4,z5⟩:=f2 b hb
     exact⟨z3,z1,z4,z5⟩
   exact IX
 exact codeAny_compStart_list (loop _ rfl) (T.self _ 0 _ _ _ (T.keep _ _ _ st2 fun b hb o e=>bK9 _ _ (bK8 _ _ e)) (loop _ rfl))
theorem bEh (hclos:closureFor scope X.env=pure cl)(hcell: ∀y∈scope.names,y.2≠ .cell)(hkind:scope.kind= .function)(hnames: ∀y∈scope.names,y.2= .local->scope.names.lookup y.1=some .local)(hcl:aM8 cl X.env=true)
  (hnm:aUl X.N N' (relabel scope X.env)=true) (hf:aR0 cl (relabel scope X.env)=true) (hl:N'.length=X.N.length+m) (hks: ∀k∈ks,X.N.length<=k) (hcm:X.calm=true) (hi:PIt X B tg iter it)
  (hg: ∀C s₀ H₀ ex,PDH (cxC X scope cl N' C s₀ H₀ ex) tg ks G) (ht: ∀C s₀ H₀ ex B,PIf (cxC X scope cl N' C s₀ H₀ ex) B ifs ft) (he: ∀C s₀ H₀ ex B,PD (cxC X scope cl N' C s₀ H₀ ex) B elt fe)
  (hs: ∀x,Zs iter X.env x=pure x:=by intro _;rfl):PD X B (.ListComp elt [⟨tg,iter,ifs,0⟩] scope pos) (cmp m it ks G ft fe):=by
 intro pins s σ H Q I h;obtain⟨ρ,r,h⟩:=h;rw[eval_ListComp];refine aQl (use:=none) (Q':=EP X pins σ Q) (Kp:=fun rs=> ∀v H',Same H H'->Is X.K H' (.lst rs) v->Q v H') hclos hcell hkind hnames hcl hnm hf hl hks hcm hi hg ht he hs I r (h.imp fun d q rs e v H' sm i=>by subst e;exact q v H' sm i) ?_;intro Dd Cc s3 Hj rs IX ⟨mm,hmm⟩ _ _ sm _ _ ⟨vs,is1,is2⟩ hQ;have is:Is X.K Hj (.lst rs) (.ref Dd):= .lst (SqL.of is1) is2;exact⟨mm,hmm,fun h' hsb=>⟨.ref Dd,Hj,IX h' hsb,rfl,hQ _ Hj sm is⟩⟩
theorem Inv.offC {pins:List (Addr×Obj)}{s:Qf}{σ:St}{H:Hp}{C:Addr}{h':Heap}(I:Inv X pins σ H s)(f:bL7 X pins C)(hC:H C=none)(hsb:Yg C s.heap h'):Inv X pins σ H {s with heap:=h'}:=by
 have kp: ∀b o,b≠C->s.heap.get? b=some o->h'.get? b=some o:=fun b o hb e=>hsb.extBut b o hb e
 have nc: ∀b,b∉[C]->b≠C:=fun b hb z=>hb (by rw[z];exact Qt)
 have U:Un (frs X.stack) [C] H H s.heap h':=⟨fun b o e _ _ hx=>kp b o (nc b hx) e,fun b o e _ _ hx=>⟨o.slots,kp b o (nc b hx) e⟩,fun _ _ _ n _=>n,fun b o e hx=>⟨o,kp b o (nc b hx) e⟩,fun _ _ e=>e,fun _ _ _ e=>e,fun b ps e=>⟨#[],by rw[e];simp⟩⟩;have hok':HOk X.prog X.w H h':=fun b u e=>(I.hok b u e).stay (fun c v hc q=>kp c v (fun z=>by
  rcases hc with hc | hc
  ·rw[hc] at z;rw[z,hC] at e;cases e
  ·rw[z,hC] at hc;cases hc) q) (fun _ q=>q) fun _ _ q=>q
 exact I.call' (s':={s with heap:=h'}) (ch:=[C]) rfl U hok' I.bare fun b hb=>by
  rw[List.mem_singleton] at hb;subst hb;exact f
theorem bAv {i:Nat}{x:Str}{pos' spos:Pos}(hN:X.N.Nodup)(hi0:X.N[i]? =some x)(hx:Loc X.env.scope x)(hclos:closureFor scope X.env=pure cl)(hcell: ∀y∈scope.names,y.2≠ .cell)(hkind:scope.kind= .function)(hnames: ∀y∈scope.names,y.2= .local->scope.names.lookup y.1=some .local)(hcl:aM8 cl X.env=true)
  (hnm:aUl X.N N' (relabel scope X.env)=true) (hf:aR0 cl (relabel scope X.env)=true) (hl:N'.length=X.N.length+m) (hks: ∀k∈ks,X.N.length<=k) (hcm:X.calm=true) (hi:PIt X B tg iter it)
  (hg: ∀C s₀ H₀ ex,PDH (cxC X scope cl N' C s₀ H₀ ex) tg ks G) (ht: ∀C s₀ H₀ ex B,PIf (cxC X scope cl N' C s₀ H₀ ex) B ifs ft) (he: ∀C s₀ H₀ ex B,PD (cxC X scope cl N' C s₀ H₀ ex) B elt fe)
  (hsw:swapsWith (.ListComp elt [⟨tg,iter,ifs,0⟩] scope pos) (some (.Name x pos')) spos.line X.env=pure true) (hs: ∀x,Zs iter X.env x=pure x:=by intro _;rfl)
  (hfn:X.fn x=true\/X.env.scope.names.lookup x=some .local:=by first | exact .inl rfl | exact .inr rfl | assumption):
  PDS X B (.Assign [.Name x pos'] (.ListComp elt [⟨tg,iter,ifs,0⟩] scope pos) spos) (aLu i (cmp m it ks G ft fe)):=by
 intro pins s σ H E I h;obtain⟨ρ,r,h⟩:=h;rw[exec_Assign_Name_used _ _ _ _ hsw];refine Qc (wpAny_standAt (Qc (Qc (aQl (use:=some _) (Kp:=fun rs=>aNd X B E (some (.nx (aMh i (.lst rs) ρ)))) hclos hcell hkind hnames hcl hnm hf hl hks hcm hi hg ht he hs I r ?_ ?_))))
 ·exact (aD3 r h).imp fun d q rs e=>by subst e;exact q
 ·intro Dd Cc s3 Hj rs IX ⟨mm,hmm⟩ oc nC sm _ _ ⟨vs,is1,is2⟩ hQ
  have is:Is X.K Hj (.lst rs) (.ref Dd):= .lst (SqL.of is1) is2;have I3:Inv X pins σ Hj s3:=IX s3.heap (Heap.SameBut.refl Cc s3.heap);refine wpAny_assign_Name (aPi I3 hN hi0 hx (v:= .ref Dd) rfl (fun s4 I4 ⟨a,sb,ha⟩=>⟨mm,hmm.sameBut sb ?_,fun h' hsb=> ?_⟩) hfn)
  ·rcases ha with ha | ha
   ·rw[ha];exact oc.2.1
   ·exact Ne.symm (oc.2.2.1 x a ha)
  ·exact Qe (Qe ⟨_,Hj,Inv.offC I4 oc nC hsb,hQ _ Hj ((r.mono sm).aMh is)⟩)
end
section
variable {l:List Env}{H1 H:Hp}{h1 h h5 Bs base:Heap}
theorem bC8 (un:Un (frs l) [] H1 H h1 h)(old: ∀b o o',h1.get? b=some o'->b∉frs l->h.get? b=some o->Bs.get? b=some o)(st:Bs.StaysIn h5)(sl:h.UpToSlots h5)(ff:h1.FunFrames base l)(hf: ∀b∈frs l,H1 b=none):
  Un (frs l) [] H1 H h1 h5 where
 keep:=fun b o q n hb hx=>st b o (old b o o q hb (un.keep b o q n hb hx))
 slot:=fun b o q n hb hx=>by
  obtain⟨s1,e1⟩:=un.slot b o q n hb hx;obtain⟨_,o2,e2,nf⟩:=ff.mem hb;rw[q] at e2;cases e2;obtain⟨s2,e3⟩:=sl b _ e1 nf;exact⟨s2,e3⟩
 free:=un.free
 there:=fun b o q hx=>by
  obtain⟨o1,e1⟩:=un.there b o q hx;by_cases hb:b∈frs l
  ·obtain⟨_,o2,e2,nf⟩:=ff.mem hb
   rw[q] at e2;cases e2;obtain⟨s1,e3⟩:=un.slot b o q (hf b hb) hb hx;obtain⟨s2,e4⟩:=sl b _ e3 nf;exact⟨_,e4⟩
  ·exact⟨o1,st b o1 (old b o1 o q hb e1)⟩
 tups:=un.tups
 aQe:=un.aQe
 aQz:=un.aQz
end
section
variable {X:Cx}{pins:List (Addr×Obj)}{σ:St}{H H1:Hp}{c ea:Addr}{e a0:Qd}{s s1:Qf}{Bs h':Heap}
theorem aYf (I:Inv X pins σ H1 s1)(os:s.os=s1.os)(bare:AllBare s.gens)(un:Un (frs X.stack) [] H1 H s1.heap s.heap)(old: ∀b o o',s1.heap.get? b=some o'->b∉frs X.stack->s.heap.get? b=some o->Bs.get? b=some o)
  (hok:HOk X.prog X.w H Bs) (st:Bs.StaysIn h') (sl:s.heap.UpToSlots h'):Inv X pins σ H {s with heap:=h'}:=
 Inv.call' (s':={s with heap:=h'}) (ch:=[]) I os (bC8 un old st sl I.stack I.aI7) (hok.kept st) bare (fun b z=>absurd z (by simp))
def Left (X:Cx)(H:Hp)(c:Addr)(e:Qd)(s':Qf):Prop:=
 ∃ea,e= .ref ea/\s'.os=X.s₀.os/\AllBare s'.gens/\Un (frs X.outer) [] X.H₀ H X.s₀.heap s'.heap/\Fly X.prog X.w X.outer X.s₀ ea c H s'
theorem aTc (hex:X.ex=[])(I:Inv X pins σ H1 s1)(os:s.os=s1.os)(bare:AllBare s.gens)(un:Un (frs X.stack) [] H1 H s1.heap s.heap)(old: ∀b o o',s1.heap.get? b=some o'->b∉frs X.stack->s.heap.get? b=some o->Bs.get? b=some o)
  (hok:HOk X.prog X.w H Bs) (fl:Heap.FlyingW Bs X.outer ea (.ref c) a0 h') (sl:s.heap.UpToSlots h'):Left X H c (.ref ea) {s with heap:=h'}:=by
 have I':=aYf I os bare un old hok fl.1 sl;have ib:=I'.base;rw[hex] at ib;have ib1:=I.base;rw[hex] at ib1;refine⟨ea,rfl,I'.os,I'.bare,ib,Bs,a0,fl,fun b o o' q nb eb=> ?_,hok⟩;obtain⟨o1,e1⟩:=ib1.there b o' q (by simp);obtain⟨o2,e2⟩:=un.there b o1 e1 (by simp);have nb':b∉frs X.stack:=fun z=>by
  rcases List.mem_cons.mp (I.aSt b z) with y | y
  ·have:=Q0 (Qp q) I.ok.above
   rw[y] at this;exact absurd this (Jc _)
  ·exact nb y
 have e3:=old b o2 o1 e1 nb' e2;have e4:=fl.1 b o2 e3;have eb':h'.get? b=some o:=eb;rw[eb'] at e4;cases e4;exact e3
theorem bBc (hst:X.stack=X.env::X.outer)(hf:X.env.frame=some X.env.locals)(hex:X.ex=[]){Q:Unit->Qf->Prop}{E:Qd->Qf->Prop}(x:Exc X pins σ H c e s)(k: ∀s',Left X H c e s'->Q () s'):
  Qm (Ql X.prog X.w) X.A (leaving X.env e) Q E s:=by
 obtain⟨ea,rfl,⟨h,args,hm,I⟩ |⟨s1,H1,I,os,bare,un,Bs,a0,fl,old,hok⟩⟩:=x
 ·have ff:h.FunFrames X.base X.stack:=I.stack
  refine wpAny_leaves_madeW (base:=Z7 h (frs X.stack)) (h:=h) (by rw[I.ok.frames,hst]) hf (fun b o q=>Jn _ q) (by rw[<-hst];exact Uu ff fun env he a ha=>List.mem_filterMap.mpr ⟨env,he,ha⟩) hm fun h' t x1 x2 x3 x4=>k _ ?_
  refine aTc (s1:={s with heap:=h}) hex I rfl I.bare (Un.kept hm.keeps) (fun b o o' q nb eb=> ?_) (fun a o ea'=> ?_) x1 x4
  ·have:=hm.keeps b o' q
   rw[eb] at this;cases this;exact Y4 _ q nb
  ·refine (I.hok a o ea').stay (fun b u hb q=>Y4 _ q fun z=> ?_) (fun _ q=>q) fun _ _ q=>q
   have hn:=I.aI7 b z;rcases hb with rfl | hb
   ·rw[hn] at ea';cases ea'
   ·rw[hn] at hb;cases hb
 ·have fl':Heap.FlyingW Bs (X.env::X.outer) ea (.ref c) a0 s.heap:=by rw[<-hst];exact fl
  refine wpAny_leaves_onW (by rw[I.ok.frames,hst]) hf fl' fun h' x1 x2=>k _ (aTc hex I os bare un old hok x1 x2)
end
section
variable {P:Qr}{w:Q2}{K:Qb}{mg:Str->Option Qd}{base:Heap}
abbrev cxX (P:Qr)(w:Q2)(K:Qb)(mg:Str->Option Qd)(base:Heap)(N:List Str)(qual:Str)(scope:Scope)(f:Addr)(cd:Qd)(A:Za)(outer:List Env)(s:Qf)(H:Hp)(E:XK):Cx:=
 bFx (CXD P w) P w K mg base N qual scope f cd A outer s H E
theorem aZ5 {N:List Str}{qual:Str}{scope:Scope}{f:Addr}{cd:Qd}{A:Za}{outer:List Env}{s₀:Qf}{H₀:Hp}{E:XK}{pins:List (Addr×Obj)}{σ:St}{H:Hp}{c:Addr}{e:Qd}{s:Qf}
  (x:Exc (cxX P w K mg base N qual scope f cd A outer s₀ H₀ E) pins σ H c e s) (hE:E (.ref c) none H):(cxX P w K mg base N qual scope f cd A outer s₀ H₀ E).xe e s:=by
 refine bBc (X:=cxX P w K mg base N qual scope f cd A outer s₀ H₀ E) rfl rfl rfl x fun s' hl=> ?_
 obtain⟨ea,e1,e2,e3,e4,e5⟩:=hl;exact⟨c,ea,H,e1,e2,e3,e4,e5,hE⟩
theorem bBy {x qual:Str}{st:Stmt}{f:Addr}{fd:Z5}{N ps:List Str}{k:Nat}{F:List D->M D}(Fu:Fun K x qual st f fd)(S:aA5 N ps (aAm st))(hL: ∀ds r,F ds=some r->ds.length=ps.length)
  (hbody: ∀(cdv:Qd) (A:Za) (outer:List Env) (s:Qf) (H:Hp) (E:XK),aEx k (A.deeper (envOfC qual (aAm st) s.heap.objs.size f cdv))->
   ∃F',(∀B,PDB (cxX P w K mg base N qual (aAm st) f cdv A outer s H E) B (aCa st) F')/\∀ds r,F ds=some r->aBq (F' (aCz N ds))=some r):FnD P w K mg base (k+1) f fd ps F:=by
 obtain⟨oc,od,kV,doc,pm,an,cdv,ct,osl,rfl,lk,hcd⟩:=Fu.ex;refine aR1 lk hcd S (fun vs H Q E ⟨ds,i,hl,_⟩=>hl) fun A outer s H vs Q E hr hsp=> ?_
 obtain⟨F',hF,hq⟩:=hbody cdv A outer s H E hr;refine⟨_,hF H,?_⟩;obtain⟨ds,i,hl,h⟩:=hsp;have hn:ps.length<=N.length:=by have:=congrArg J3 S.pre;rw[Zu] at this;omega
 cases q:F ds with
 | none=>rw[q] at h;exact Qg h
 | some r=>
  rw[q] at h;have e:=hq ds r q;refine⟨aCz N ds,aH8 i (by rw[i.length,hl];exact hn),?_⟩;cases qf:F' (aCz N ds) with
  | none=>rw[qf] at e;cases e
  | some o=>
   rw[qf] at e;cases o with
   | rt d'=>cases e;exact fun v H' s' i'=>h v H' s' i'
   | nx ρ=>cases e;exact fun σ' H' r'=>h _ H' r'.kept .non
   | bk ρ=>cases e
   | ct ρ=>cases e
   | ex c ρ=>cases e;exact fun pins s' σ' H' ev r' x=>aZ5 x (h H' r'.kept)
def aL9 (a C dx:Addr):Option Out->M (List (Str×D))
 | some (.ex c _)=>err c
 | o=>aJz a C dx o
theorem bC3 {x qual:Str}{st:Stmt}{f C:Addr}{fd:Z5}{N ps:List Str}{k:Nat}{F:List D->M (List (Str×D))}(Fu:Fun K x qual st f fd)(S:aA5 N ps (aAm st))(hL: ∀ds r,F ds=some r->ds.length+1=ps.length)
  (hbody: ∀(cdv:Qd) (A:Za) (outer:List Env) (s:Qf) (H:Hp) (E:XK),aEx k (A.deeper (envOfC qual (aAm st) s.heap.objs.size f cdv))->
   ∃F',(∀B,PDB (cxX P w K mg base N qual (aAm st) f cdv A outer s H E) B (aCa st) F')/\∀ds r a dx,F ds=some r->aL9 a C dx (F' (aPc N a C dx ds))=some r):aSh P w K mg base (CXD P w) (k+1) f fd ps (spI K C ps.length F):=by
 obtain⟨oc,od,kV,doc,pm,an,cdv,ct,osl,rfl,lk,hcd⟩:=Fu.ex;refine aR1 lk hcd S (fun vs H Q E ⟨a,dx,ws,ds,_,_,_,_,hl,_⟩=>hl) fun A outer s H vs Q E hr hsp=> ?_
 obtain⟨F',hF,hq⟩:=hbody cdv A outer s H E hr;obtain⟨a,dx,ws,ds,rfl,ha,hd,i,hl,h⟩:=hsp;refine⟨_,hF (hid H a),?_⟩;have hn:ps.length<=N.length:=by have:=congrArg J3 S.pre;rw[Zu] at this;omega
 cases q:F ds with
 | none=>rw[q] at h;exact Qg h
 | some r=>
  rw[q] at h;have e:=hq ds r a dx q;refine⟨aPc N a C dx ds,aNp ha hd i (by rw[i.length];rw[Q4] at hl;omega),?_⟩;cases qf:F' (aPc N a C dx ds) with
  | none=>rw[qf] at e;cases e
  | some o=>
   rw[qf] at e;cases o with
   | ex c ρ=>cases e;exact fun pins s' σ' H' ev r' x=>aZ5 x (h H' r'.kept)
   | rt d=>cases e
   | bk ρ=>cases e
   | ct ρ=>cases e
   | nx ρ=>
    change aJz a C dx (some (.nx ρ))=some r at e
    unfold aJz at e;split at e
    ·rename_i a' C' dx' fs' rest qf'
     cases qf';split at e
     ·rename_i hh
      obtain⟨rfl,rfl,rfl⟩:=hh;cases e;intro σ' H' r';obtain⟨O,g1,go,g2,gl,g3⟩:=r';obtain⟨z1,z2,z3,vs',z4,z5⟩:=g3 0 _ rfl;exact h H' vs' z4 (z5.mono (Off.same _ _)) (g2.trans (Off.same _ _))
     ·cases e
    ·cases e
end
theorem bFo {K:Qb}{h:Heap}{C:Addr}{bmB:List Qd}{nid:String}(kin:K.In h)(q:Zg K C bmB nid=true):
  ∃tl N nm qn bs hd sn sub ab col dd k0 k1 k2 k3 k5 mN,h.get? C=some (excClassObj nm qn C N bs tl hd sn sub ab col dd k0 k1 k2 k3 k5 nid)/\h.Ns N mN/\mN "__init__"=none/\OwnTail h bmB tl:=by
 unfold Zg at q;split at q
 ·rename_i d1 c1 s1 lk
  split at q
  ·rename_i C2 tl j0 j1 j2 j3 n2 j5 em es
   rw[Q6,Q6,Q6,Q6,Q6] at q;obtain⟨⟨⟨⟨⟨a1,a2⟩,a3⟩,a4⟩,a5⟩,a6⟩:=q;have b1:=beq_iff_eq.mp a1;have b2:=beq_iff_eq.mp a2;have b6:=beq_iff_eq.mp a6;have b3:c1.hasDel=false:=by simpa using a3
   cases c1 with
   | mk nm bs mro ns qn hd sn sub ab col del=>
    have b1':C2=C:=b1;have b2':n2=nid:=b2;have b3':del=false:=b3;have em':mro= .ref C2::tl:=em;have e5:s1= #[j0,j1,j2,j3,some (.builtin n2),j5]:=by
     cases s1 with
     | mk li=>exact congrArg Array.mk es
    rw[e5,em',b3',b1',b2'] at lk;exact⟨tl,ns,nm,qn,bs,hd,sn,sub,ab,col,d1,j0,j1,j2,j3,j5,_,kin _ _ lk,.of_isNs (PySem.W.isNs_of_in kin a5),PySem.W.nsMap_none_of_in kin a5 b6,PySem.W.tail_of_in kin a4⟩
  ·exact nomatch q
 ·exact nomatch q
section
variable {X:Cx}{B:Hp}{e:Expr}{es:List Expr}{ga:Rho->M (List D)}{np cpos pos:Pos}{x:Str}{C:Addr}{bmB:List Qd}{nid iid B0:String}
def aDb (C:Addr)(g:Rho->M (List D)):Rho->Option Out:=fun ρ=>lft (g ρ) ρ fun ds=>if ds.length<=1000 then some (.ex C ρ) else none
theorem aCl (FB:ExcBaseFacts B0 nid iid bmB)(hq:Zg X.K C bmB nid=true)(hm:X.mg x=some (.ref C))(hg:Gl X x)(hc:X.calm=true)(ha:PDA X B (e::es) ga)(hdb:(x==("__debug__":Str))=false:=by decide)
  (he:Qz (e::es) X.env=(false,eval e X.env)::Qz es X.env:=by exact aBu rfl) (hpl:(backTo cpos (Qz es X.env)).any (·.1)=false:=by rfl):PDS X B (.Raise (some (.Call (.Name x np) (e::es) [] cpos)) none pos) (aDb C ga):=by
 intro pins s σ H E I h;obtain⟨ρ,r,h⟩:=h;obtain⟨tl,N,nm,q,bs,hd,sn,sub,ab,col,dd,k0,k1,k2,k3,k5,mN,hC,hN,hni,T⟩:=bFo (h:=X.base) I.ok.mod.kin hq;refine wpAny_Raise_call_subT (C:=C) (nm:=nm) (q:=q) (N:=N) (bs:=bs) (bm:=tl) (hdct:=hd) (sn:=sn) (sub:=sub) (ab:=ab) (col:=col) (dd:=dd) (k0:=k0) (k1:=k1) (k2:=k2) (k3:=k3) (k5:=k5)
  FB (mN:=mN) (T.hasType FB.hasBase) (I.ok.hd hc) (by rw[he];show (false ||(backTo cpos (Qz es X.env)).any (·.1))=false;rw[hpl];rfl) hni (aHh I hg hm ⟨rfl,?_⟩ hdb)
 have hx:=ha cpos pins s σ H (fun vs H1=>vs.length<=1000/\Same H H1/\Good X B E (.ex C ρ)) I ⟨ρ,r,(aD3 r h).imp fun ds h1 vs H1 e1 i1=>by
  split at h1
  ·rename_i hl;exact⟨by rw[<-i1.length];exact hl,e1,h1⟩
  ·exact Qg h1⟩
 rw[he] at hx⊢;refine Calls.evalArgs_plain (Ys hx (fun us s2 ⟨vs,H2,I2,rv,hl,e2,gd⟩=>⟨rfl,by show us.length<=Qq;rw[<-rv.length];exact aRq hl,I2.bk _ _ hC,hN.keeps I2.bk,T.keeps I2.bk,fun h' ea hm'=> ?_⟩) fun _ _ y=>y);exact gd pins {s2 with heap:=h'} σ H2 (.ref ea) (r.mono e2) ⟨ea,rfl,.inl ⟨s2.heap,us,hm',I2⟩⟩
end
theorem bBj {K:Qb}{a C:Addr}{c:Qd}(e:Qa K (.ref C) c=some true):Answers (fun s=>K.In s.heap/\excAt a C s.heap) (.ref a) c true:=by
 intro dp tk P w A R s ⟨⟨kin,o,ho,hc⟩,hq⟩;cases s with
 | mk h0 g d tt os=>
  have lt:Zv (Ql P w) h0 (typeOf (.ref a)) (.ref C):=by rw[<-hc];exact (Jb ho).andThen .now
  unfold Qa at e;by_cases q:(Zc C==c)=true
  ·unfold Builtin.«isinstance.nested»
   refine Qc (lt.at ?_);simp only[q,if_true]
   first | exact Qc (wpAny_rule (Qe (hq tt))) | exact Qc (wpAny_rule (hq tt)) | exact Qe (hq tt)
  ·simp only[q] at e
   obtain⟨h1,h2,h3⟩:=We (M:=Ql P w) kin e;have li:Zv (Ql P w) h0 (isInstance (.ref a) c) true:=lt.andThen h3;unfold Builtin.«isinstance.nested»;refine Qc (lt.at ?_);simp only[q];refine Qc (h1.at ?_);simp only[beq_self_eq_true,if_true]
   k_delta "plainIsInstance"
   refine Qc (Qc (h2.at ?_));simp only[J9,Je,if_false];refine Qc (li.at ?_);simp only[if_true]
   first | exact Qe (hq tt) | exact Qe (Qe (hq tt)) | exact Qc (Qe (Qe (hq tt)))
section
variable {X:Cx}{B:Hp}{e:Expr}{fa:Rho->M D}{pos p p2:Pos}
def exs (m:Addr->Bool)(f:Rho->M D):Rho->M D:=fun ρ=>bnd (f ρ) fun d=>match d with
 | .exc C=>if m C=true then ok (.bl true) else none
 | _=>none
theorem bB4 {cv:Qd}{c:V}{m:Addr->Bool}(rc:RelV c cv)(hu: ∀u,RelV c u->u=cv)(hm: ∀C,m C=true->Qa X.K (.ref C) cv=some true):
  aHp X (.builtin "isinstance") (fun xs H Q=> ∃C y,xs=[y,c]/\Is X.K H (.exc C) y/\m C=true/\Q (.bl true) H):=by
 intro pins s σ H xs us Q I r h;obtain⟨C,y,rfl,i,hC,q⟩:=h;obtain⟨u,w',rfl,r1,r2⟩:=vals2 r;rw[hu _ r2];cases i with
 | exc hh=>
  cases r1;obtain⟨hx,_,_⟩:=(show aCn X.prog X.w H s.heap _ (.ext _) from I.hok _ _ hh);exact call_isinstance (S:=fun _ R s=>(X.K.In s.heap/\excAt _ C s.heap)/\∀tk,R (.ok (.ret (.bool true))) {s with toks:=tk})
   (fun P w A R s hs=>isinstance_outer (bBj (hm C hC) 0 _ P w A R s hs) (fun z=>nomatch z)) ⟨⟨I.kIn,hx⟩,fun tk=>⟨.bl true,H,I.tok _,rfl,q⟩⟩
theorem bEg {x:Str}{T:String}{m:Addr->Bool}(hg:Gl X "isinstance")(hb:X.mg "isinstance"=none)(hg2:Gl X x)(hm2:X.mg x=none)(hv:Yq x=some (.type T))(hm: ∀C,m C=true->Qa X.K (.ref C) (.type T)=some true)(ha:PD X B e fa)(hn:x≠"__name__":=by decide)(hd:(x==("__debug__":Str))=false:=by decide)
  (he:Qz [e,.Name x p2] X.env=[(false,eval e X.env),(false,eval (.Name x p2) X.env)]:=by exact bDp rfl rfl) (he2:Qz [.Name x p2] X.env=[(false,eval (.Name x p2) X.env)]:=by exact aPj rfl):PD X B (.Call (.Name "isinstance" p) [e,.Name x p2] [] pos) (exs m fa):=by
 refine PE.of (aGa (bB4 (c:=V.ty T) rfl (fun u r=>r) hm) hg hb boot_isinstance (aC3 ha (aC3 (aWy hg2 hm2 hv (v:=V.ty T) rfl hn hd) aFu he2) (by rw[he,he2])) (he:=by rw[he,he2]) (hpl:=by rw[he2];rfl)) fun σ H Q h=> ?_
 obtain⟨ρ,r1,h⟩:=h;refine⟨ρ,r1,(Res.bind h).imp fun d h1 v H1 e1 i1=> ?_⟩;split at h1
 ·rename_i C
  split at h1
  ·rename_i hC;exact⟨C,v,rfl,i1,hC,h1 _ H1 e1 (.bl _)⟩
  ·exact Qg h1
 ·exact Qg h1
end
def aN1 (X:Cx)(pins:List (Addr×Obj))(σ:St)(H:Hp)(ea c:Addr)(s:Qf):Prop:=
 ∃s1 H1,Inv X pins σ H1 s1/\s.os=s1.os/\AllBare s.gens/\Un (frs X.stack) [] H1 H s1.heap s.heap/\Fly X.prog X.w X.stack s1 ea c H s
abbrev Cx.hand (X:Cx)(e:Qd):Cx:={X with A:=X.A.mark (some e),calm:=false,xe:=fun _ _=>False}
section
variable {X:Cx}{pins:List (Addr×Obj)}{σ:St}{H:Hp}{c ea:Addr}{s:Qf}{e:Qd}
theorem aTi (I:Inv X pins σ H s)(e:Qd):Inv (Cx.hand X e) pins σ H s:=
 ⟨⟨I.ok.mod,I.ok.kind,I.ok.glob,I.ok.blt,I.ok.above,I.ok.inj,I.ok.has,I.ok.cab,(fun z=>Yi z),I.ok.frames,I.ok.stk,I.ok.exf,I.ok.bs,I.ok.bsz,I.ok.bCv,I.ok.bC9,I.ok.aRz,I.ok.frf⟩,I.os,I.bare,I.base,I.loc,I.cell,I.free,I.aF5,I.pin,I.hok,I.len⟩
theorem aGc (h0:X.Ok)(I:Inv (Cx.hand X e) pins σ H s):Inv X pins σ H s:=⟨h0,I.os,I.bare,I.base,I.loc,I.cell,I.free,I.aF5,I.pin,I.hok,I.len⟩
theorem aN1.inv (f:aN1 X pins σ H ea c s):Inv X pins σ H s:=by
 obtain⟨s1,H1,I,os,bare,un,Bs,a0,fl,old,hok⟩:=f;exact Inv.call' (ch:=[]) I os un (hok.kept fl.1) bare (fun b z=>absurd z (by simp))
theorem aN1.moved {h':Heap}{s1:Qf}{H1:Hp}{Bs:Heap}{a0:Qd}(I:Inv X pins σ H1 s1)(os:s.os=s1.os)(bare:AllBare s.gens)(un:Un (frs X.stack) [] H1 H s1.heap s.heap)
  (old: ∀b o o',s1.heap.get? b=some o'->b∉frs X.stack->s.heap.get? b=some o->Bs.get? b=some o) (hok:HOk X.prog X.w H Bs) (fl:Heap.FlyingW Bs X.stack ea (.ref c) a0 h') (sl:s.heap.UpToSlots h'):aN1 X pins σ H ea c {s with heap:=h'}:=by
 refine⟨s1,H1,I,os,bare,bC8 un old fl.1 sl I.stack I.aI7,Bs,a0,fl,fun b o o' q nb eb=> ?_,hok⟩;obtain⟨o2,e2⟩:=un.there b o' q (by simp);have e3:=old b o2 o' q nb e2;have e4:=fl.1 b o2 e3;have eb':h'.get? b=some o:=eb;rw[eb'] at e4;cases e4;exact e3
theorem aN1.lands (f:aN1 X pins σ H ea c s){A:Za}{Q:Unit->Qf->Prop}{E:Qd->Qf->Prop}(k: ∀h',aN1 X pins σ H ea c {s with heap:=h'}->Q () {s with heap:=h'}):Qm (Ql X.prog X.w) A (setFlight (.ref ea) none) Q E s:=by
 obtain⟨s1,H1,I,os,bare,un,Bs,a0,fl,old,hok⟩:=f;exact lands_againW fl fun h' x1 x2=>k h' (aN1.moved I os bare un old hok x1 x2)
theorem aN1.looks (hst:X.stack=X.env::X.outer)(hf:X.env.frame=some X.env.locals)(f:aN1 X pins σ H ea c s){Q:Unit->Qf->Prop}{E:Qd->Qf->Prop}(k: ∀h',aN1 X pins σ H ea c {s with heap:=h'}->Q () {s with heap:=h'}):
  Qm (Ql X.prog X.w) X.A (noteFrame (.ref ea) X.env) (fun _ s2=>Qm (Ql X.prog X.w) X.A (setFlight (.ref ea) none) Q E s2) E s:=by
 obtain⟨s1,H1,I,os,bare,un,Bs,a0,fl,old,hok⟩:=f;have fl':Heap.FlyingW Bs (X.env::X.outer) ea (.ref c) a0 s.heap:=by rw[<-hst];exact fl
 refine wpAny_looks_onW (by rw[I.ok.frames,hst]) hf fl' fun h4 x1 x2=>wpAny_landsW x1 fun h5 y1 y2=>k h5 ?_
 rw[<-hst] at y1;exact aN1.moved I os bare un old hok y1 (x2.trans y2)
theorem aN1.at_ (f:aN1 X pins σ H ea c s):excAt ea c s.heap:=by
 obtain⟨s1,H1,I,os,bare,un,Bs,a0,fl,old,hok⟩:=f;exact fl.there
theorem aRm {P:Qr}{w:Q2}{H:Hp}{h:Heap}{a:Addr}{o:HO}(x:aCn P w H h a o): ∃u,h.get? a=some u:=by
 cases o with
 | lst xs=>obtain⟨_,_,_,_,e⟩:=x;exact⟨_,e⟩
 | tup xs=>obtain⟨_,_,_,o,e,_⟩:=x;exact⟨_,e⟩
 | dK kvs=>obtain⟨_,_,_,_,o,_,_,e,_⟩:=x;exact⟨_,e⟩
 | dT kvs=>obtain⟨_,_,_,_,o,_,_,e,_⟩:=x;exact⟨_,e⟩
 | set S n=>obtain⟨⟨o,_,_,_,e,_⟩,_⟩:=x;exact⟨_,e⟩
 | ins C dx fs=>obtain⟨_,_,_,e,_⟩:=x;exact⟨_,e⟩
 | own y=>exact x
 | xd fs=>obtain⟨_,⟨_,_,_,e,_⟩,_⟩:=x;exact⟨_,e⟩
 | rng lo hi=>obtain⟨_,_,_,e⟩:=x;exact⟨_,e⟩
 | frz ob u=>obtain⟨e,_⟩:=x;exact⟨_,e⟩
 | tbl ps=>exact⟨_,x⟩
 | met f y=>exact⟨_,x⟩
 | ext φ=>obtain⟨_,e,_⟩:=x;exact e
theorem aN1.track (f:aN1 X pins σ H ea c s):H ea=none/\Inv X pins σ (upd H ea (.ext (excAt ea c))) s:=by
 have ha:=f.at_;obtain⟨s1,H1,I,os,bare,un,Bs,a0,fl,old,hok⟩:=f;have hn:H ea=none:=by
  cases q:H ea with
  | none=>rfl
  | some o=>
   obtain⟨u,eu⟩:=aRm (hok ea o q);rw[fl.2.1] at eu;cases eu
 have hf:ea∉frs X.stack:=fun z=>by
  obtain⟨_,o,eo,nf⟩:=fl.2.2.1.mem z;obtain⟨oe,vs,he,_,hd,_⟩:=fl.first;rw[eo] at he;cases he;exact nf _ hd
 have h1: ∀o,s1.heap.get? ea=some o->False:=fun o q=>by
  obtain⟨oe,_,he,_⟩:=fl.first;have:=old ea oe o q hf he;rw[fl.2.1] at this;cases this
 have sm:=aA4 hn (.ext (excAt ea c));refine⟨hn,Inv.call' (ch:=[]) I os ⟨un.keep,un.slot,fun b o q n hx=> ?_,un.there,fun b xs q=>sm _ _ (un.tups b xs q),fun b o u q=>sm _ _ (un.aQe b o u q),fun b ps q=> ?_⟩ (fun b o q=> ?_) bare (fun b z=>absurd z (by simp))⟩
 ·have nb:b≠ea:=fun z=>h1 o (by rw[<-z];exact q)
  rw[aAq nb];exact un.free b o q n hx
 ·obtain⟨more,e⟩:=un.aQz b ps q
  exact⟨more,sm _ _ e⟩
 ·by_cases nb:b=ea
  ·subst nb
   rw[aAs] at q;cases q;obtain⟨o,e1,e2⟩:=ha;exact⟨⟨o,e1,e2⟩,⟨o,e1⟩,fun h1 h2 ⟨o',z1,z2⟩ k=>⟨o',k o' z1,z2⟩⟩
  ·rw[aAq nb] at q
   exact ((hok.kept fl.1) b o q).stay (fun _ _ _ z=>z) (fun _ z=>sm _ _ z) fun _ _ z=>sm _ _ z
end
structure HD where
 m:Addr->Option Bool
 i:Nat
 G:Rho->Option Out
def aft (i:Nat):Option Out->Option Out
 | some (.nx ρ)=>some (.nx (ρ.set i none))
 | some (.bk ρ)=>some (.bk (ρ.set i none))
 | some (.ct ρ)=>some (.ct (ρ.set i none))
 | some (.rt d)=>some (.rt d)
 | _=>none
def hands:List HD->Addr->Rho->Option Out
 | [],_,_=>none
 | h::r,c,ρ=>match h.m c with
  | some true=>aft h.i (h.G (ρ.set h.i (some (.sh (.exc c)))))
  | some false=>hands r c ρ
  | none=>none
def bJd (F:Rho->Option Out)(hs:List HD):Rho->Option Out:=fun ρ=>match F ρ with
 | some (.ex c ρ')=>hands hs c ρ'
 | o=>o
section
variable {X:Cx}{pins:List (Addr×Obj)}{σ:St}{H B:Hp}{s:Qf}{ρ:Rho}
theorem Rel.unset {K:Qb}{i:Nat}(r:Rel K B ρ σ H):Rel K B (ρ.set i none) (σ.set i none) H:=by
 obtain⟨O,h1,ho,h2,hl,h3⟩:=r;by_cases hi:i<σ.length
 case neg=>
  have s1: ∀x:Option SV,ρ.set i x=ρ:=fun x=>Z6 (by omega)
  have s2: ∀x:Option V,σ.set i x=σ:=fun x=>Z6 (by omega)
  rw[s1,s2];exact⟨O,h1,ho,h2,hl,h3⟩
 have hO: ∀(j:Nat) (a:Addr),(if j=i then none else O j)=some a->O j=some a:=fun j a q=>by
  split at q
  ·cases q
  ·exact q
 have less:Same (Off H O) (Off H fun j=>if j=i then none else O j):=Off.less fun j a q=>⟨j,hO j a q⟩
 refine⟨fun j=>if j=i then none else O j,fun j k a q1 q2=>h1 j k a (hO j a q1) (hO k a q2),fun j a q=>ho j a (hO j a q),h2.trans less,by rw[Q5,Q5,hl],fun j sv q=> ?_⟩;have e:j≠i:=fun e=>by
  subst e;by_cases hj:j<ρ.length
  ·rw[Q1 hj] at q;cases q
  ·rw[Jh (by rw[Q5];omega)] at q;cases q
 rw[Qj (Ne.symm e)] at q;have z:=h3 j sv q;cases sv with
 | sh d'=>obtain⟨v',e1,e2⟩:=z;exact⟨v',by rw[Qj (Ne.symm e)];exact e1,e2.mono less⟩
 | own ds=>obtain⟨a,vs,e1,e2,e3,e4⟩:=z;exact⟨a,vs,by show (if j=i then none else O j)=some a;rw[if_neg e];exact e1,by rw[Qj (Ne.symm e)];exact e2,e3,e4.mono less⟩
 | oin a C dx fs=>obtain⟨e1,e2,e3,vs,e4,e5⟩:=z;exact⟨by show (if j=i then none else O j)=some a;rw[if_neg e];exact e1,by rw[Qj (Ne.symm e)];exact e2,e3,vs,e4,e5.mono less⟩
 | ow o=>obtain⟨a,w,e1,e2,e3,e4⟩:=z;exact⟨a,w,by show (if j=i then none else O j)=some a;rw[if_neg e];exact e1,by rw[Qj (Ne.symm e)];exact e2,e3,e4.mono less⟩
 | tk ks=>obtain⟨a,e1,e2⟩:=z;exact⟨a,by rw[Qj (Ne.symm e)];exact e1,less _ _ e2⟩
 | nl kd ls=>exact NL.move (by rw[Q5]) (Qj (Ne.symm e)) (fun m b w hm e1 e2=>⟨by show (if m=i then none else O m)=some b;rw[if_neg (by rcases hm with h | h<;>omega)];exact e1,e2⟩) less z
theorem aSp {i:Nat}{n:Str}{pos:Pos}{E:Qd->Qf->Prop}{Q:Unit->Qf->Prop}(I:Inv X pins σ H s)(hN:X.N.Nodup)(hi:X.N[i]? =some n)(hloc:X.env.scope.names.lookup n=some .local)(k: ∀s',Inv X pins (σ.set i none) H s'->Q () s'):
  Qm (Ql X.prog X.w) X.A (do bindName X.env n .none;unbindBehindTheSuite X.env n pos) Q E s:=by
 have hcls:(X.env.scope.kind== .class ||(X.env.scope.kind== .module&&X.env.locals !=X.env.globals))=false:=by rw[I.ok.kind];rfl
 refine Qc (wpAny_bindName (aF9 I hN hi (.inl hloc) (v:= .non) rfl (fun s1 I1=> ?_) (.inr hloc)));have hiσ:i<σ.length:=by rw[I.len];exact (List.getElem?_eq_some_iff.mp hi).1
 obtain⟨m,hn,hl⟩:=id I1.loc;obtain⟨u,ru,l⟩:=hl i n .non hi (Q1 hiσ) (.inl hloc);have hv:m n=some u:=by
  rcases l with⟨_,e⟩ |⟨k,_⟩
  ·exact e
  ·have k':X.env.scope.names.lookup n=some .cell\/X.env.scope.names.lookup n=some .free:=k
   rw[hloc] at k';rcases k' with z | z<;>cases z
 unfold unbindBehindTheSuite;refine wpAny_onRaise (wpAny_unbindName_local hloc hn hv hcls fun h' u' hn' hs=>k _ ?_);have neL: ∀b o,X.s₀.heap.get? b=some o->b≠X.env.locals:=fun b o e=>Qy (Q0 (Qp e) I1.ok.above)
 refine⟨I1.ok,I1.os,I1.bare,⟨fun b o e n hb hx=>(hs.2 b (neL b o e)).trans (I1.base.keep b o e n hb hx),fun b o e n hb hx=> ?_,I1.base.free,fun b o e hx=> ?_,I1.base.tups,I1.base.aQe,I1.base.aQz⟩,
  ⟨_,hn',fun j y v' e1 e2 e3=> ?_⟩,fun y c e=> ?_,I1.free,I1.aF5,fun p hp=> ?_,fun b ob e=> ?_,by rw[Q5];exact I.len⟩
 ·obtain⟨sl,e1⟩:=I1.base.slot b o e n hb hx
  exact⟨sl,(hs.2 b (neL b o e)).trans e1⟩
 ·obtain⟨o',e1⟩:=I1.base.there b o e hx
  exact⟨o',(hs.2 b (neL b o e)).trans e1⟩
 ·have hj:j≠i:=fun z=>by
   subst z;rw[Q1 hiσ] at e2;cases e2
  rw[Qj (Ne.symm hj)] at e2;obtain⟨w',r',q⟩:=hl j y v' e1 (by rw[Qj (Ne.symm hj)];exact e2) e3;refine⟨w',r',?_⟩;rcases q with⟨k1,e⟩ |⟨k1,c,e,z⟩
  ·have ny:y≠n:=fun z=>hj (aOn hN e1 (z▸hi))
   exact .inl ⟨k1,by show (if y=n then u' else m y)=some w';rw[if_neg ny];exact e⟩
  ·exact .inr ⟨k1,c,e,z.sameBut hs (I1.cne y c e)⟩
 ·obtain⟨w',z⟩:=I1.cell y c e
  exact⟨w',z.sameBut hs (I1.cne y c e)⟩
 ·obtain⟨e,n0,ne,nf,d⟩:=I1.pin p hp
  exact⟨(hs.2 p.1 ne).trans e,n0,ne,nf,d⟩
 ·refine (I1.hok b ob e).stay (fun c' w' hc q=>(hs.2 c' ?_).trans q) (fun _ q=>q) fun _ _ q=>q
  rintro rfl
  have hf:=I1.free;rcases hc with z | z
  ·rw[<-z,hf] at e;cases e
  ·rw[hf] at z;cases z
end
def bJl (X:Cx)(B:Hp)(hl:List ExceptHandler)(hs:List HD):Prop:= ∀(pins:List (Addr×Obj)) (σ:St) (H:Hp) (c ea:Addr) (s:Qf) (E:Ends) (ρ:Rho),aN1 X pins σ H ea c s->Rel X.K B ρ σ H->aNd X B E (hands hs c ρ)->
 Qm (Ql X.prog X.w) X.A (handleBy (.ref ea) X.env hl) (SP X pins E) X.xe s
section
variable {X:Cx}{B:Hp}{x n:Str}{i:Nat}{C:Addr}{np pos:Pos}{b₀:Stmt}{body:List Stmt}{rest:List ExceptHandler}{m:Addr->Option Bool}{G:Rho->Option Out}{hs:List HD}
theorem bEe:bJl X B [] []:=fun _ _ _ _ _ _ _ _ _ _ h=>Qg h
theorem bAw (hg:Gl X x)(hm2:X.mg x=some (.ref C))(hm: ∀c b,m c=some b->Qi X.K (.ref c) (.ref C)=some b)(hN:X.N.Nodup)(hi:X.N[i]? =some n)(hloc:X.env.scope.names.lookup n=some .local)(hb: ∀e B,PDB (Cx.hand X e) B (b₀::body) G)(hr:bJl X B rest hs)
  (hdb:(x==("__debug__":Str))=false:=by decide):bJl X B (.ExceptHandler (some (.Name x np)) (some n) (b₀::body) pos::rest) (⟨m,i,G⟩::hs):=by
 intro pins σ H c ea s E ρ f r h;have I:=f.inv;refine wpAny_handleBy_cons (codeAny_handlers_test (aHh (aTi I (.ref ea)) hg hm2 ?_ hdb)) (by intro q;cases q);unfold hands at h
 dsimp only at h
 cases q:m c with
 | none=>rw[q] at h;exact Qg h
 | some b=>
  rw[q] at h;have lt:Zv (Ql X.prog X.w) s.heap (typeOf (.ref ea)) (.ref c):=by
   obtain⟨o,ho,hc⟩:=f.at_;rw[<-hc];exact (Jb ho).andThen .now
  refine (PySem.W.exm_one (M:=Ql X.prog X.w) I.kIn lt (hm c b q)).here ?_;cases b with
  | false=>exact hr pins σ H c ea s E ρ f r h
  | true=>
   refine codeAny_handlers_suite_as ?_;refine f.lands fun h6 f6=> ?_
   obtain⟨hn,I6⟩:=f6.track;refine aF9 (X:=Cx.hand X (.ref ea)) (aTi I6 _) hN hi (.inl hloc) (v:=V.ref ea) rfl (fun s7 I7=> ?_) (.inr hloc);have bMo:Rel X.K B (ρ.set i (some (.sh (.exc c)))) (σ.set i (some (.ref ea))) (upd H ea (.ext (excAt ea c))):=by
    obtain⟨O,h1,ho,h2,hl,h3⟩:=r.mono (aA4 hn (.ext (excAt ea c)));refine Rel.aWk O h1 ho h2 hl (fun j sv e _=>h3 j sv e) (.exc (Off.of aAs fun j z=> ?_));obtain⟨u,w,m⟩:=ho j ea z;rw[aAs] at w;cases w;cases m
   refine Ys (hb (.ref ea) B pins s7 _ _ {nx:=fun σ' H'=>E.nx (σ'.set i none) H',rt:=E.rt,bk:=fun σ' H'=>E.bk (σ'.set i none) H',ct:=fun σ' H'=>E.ct (σ'.set i none) H'} I7 ⟨_,bMo,?_⟩) (fun fl s8 hq=> ?_) (fun _ _ z=>Qg z)
   ·dsimp only at h
    cases qg:G (ρ.set i (some (.sh (.exc c)))) with
    | none=>rw[qg] at h;exact Qg h
    | some o=>
     rw[qg] at h;cases o with
     | nx ρ'=>exact fun σ' H' r'=>h _ H' r'.unset
     | bk ρ'=>exact fun σ' H' r'=>h _ H' r'.unset
     | ct ρ'=>exact fun σ' H' r'=>h _ H' r'.unset
     | rt d=>exact h
     | ex c' ρ'=>exact Qg h
   ·have ok:=I.ok
    show Qm (Ql X.prog X.w) X.A (do bindName X.env n .none;unbindBehindTheSuite X.env n pos) (fun _ s3=>SP X pins E fl s3) X.xe s8;cases fl with
    | next=>obtain⟨σ',H',I8,q8⟩:=hq;exact aSp (aGc ok I8) hN hi hloc fun s9 I9=>⟨_,_,I9,q8⟩
    | brk=>obtain⟨σ',H',I8,q8⟩:=hq;exact aSp (aGc ok I8) hN hi hloc fun s9 I9=>⟨_,_,I9,q8⟩
    | cont=>obtain⟨σ',H',I8,q8⟩:=hq;exact aSp (aGc ok I8) hN hi hloc fun s9 I9=>⟨_,_,I9,q8⟩
    | ret u=>obtain⟨v,σ',H',I8,rv,q8⟩:=hq;exact aSp (aGc ok I8) hN hi hloc fun s9 I9=>⟨v,_,_,I9,rv,q8⟩
abbrev Cx.tri (X:Cx)(pins:List (Addr×Obj))(hl:List ExceptHandler)(Q:Flow->Qf->Prop):Cx:=
 {X with pn:=X.pn++pins,xe:=fun e s=>Qm (Ql X.prog X.w) X.A (noteFrame e X.env) (fun _ s2=>Qm (Ql X.prog X.w) X.A (setFlight e none) (fun _ s3=>Qm (Ql X.prog X.w) X.A (handleBy e X.env hl) Q X.xe s3) X.xe s2) X.xe s}
variable {pins aUi:List (Addr×Obj)}{σ:St}{H:Hp}{s:Qf}{hl:List ExceptHandler}{Q:Flow->Qf->Prop}{c ea:Addr}{e:Qd}
theorem bHv (ok:X.Ok):(Cx.tri X pins hl Q).Ok:=
 ⟨ok.mod,ok.kind,ok.glob,ok.blt,ok.above,ok.inj,ok.has,ok.cab,ok.hd,ok.frames,ok.stk,ok.exf,ok.bs,ok.bsz,ok.bCv,ok.bC9,ok.aRz,ok.frf⟩
theorem bA1 (ok:(Cx.tri X pins hl Q).Ok):X.Ok:=
 ⟨ok.mod,ok.kind,ok.glob,ok.blt,ok.above,ok.inj,ok.has,ok.cab,ok.hd,ok.frames,ok.stk,ok.exf,ok.bs,ok.bsz,ok.bCv,ok.bC9,ok.aRz,ok.frf⟩
theorem bFd (I:Inv X pins σ H s):Inv (Cx.tri X pins hl Q) [] σ H s:=⟨bHv I.ok,I.os,I.bare,I.base,I.loc,I.cell,I.free,I.aF5,fun p hp=>I.pin p (by rwa [Zl] at hp),I.hok,I.len⟩
theorem aEv (I:Inv (Cx.tri X pins hl Q) aUi σ H s):Inv X pins σ H s:=⟨bA1 I.ok,I.os,I.bare,I.base,I.loc,I.cell,I.free,I.aF5,fun p hp=>I.pin p (Yn _ hp),I.hok,I.len⟩
theorem aYt (hst:X.stack=X.env::X.outer)(hf:X.env.frame=some X.env.locals)(x:Exc (Cx.tri X pins hl Q) aUi σ H c e s){R:Unit->Qf->Prop}{E:Qd->Qf->Prop}
  (k: ∀ea h',e= .ref ea->aN1 X pins σ H ea c {s with heap:=h'}->R () {s with heap:=h'}):
  Qm (Ql X.prog X.w) X.A (noteFrame e X.env) (fun _ s2=>Qm (Ql X.prog X.w) X.A (setFlight e none) R E s2) E s:=by
 obtain⟨ea,rfl,⟨h,args,hm,I'⟩ |⟨s1,H1,I',os,bare,un,fl⟩⟩:=x
 ·have I:=aEv I'
  have ff:h.FunFrames X.base X.stack:=I.stack;obtain⟨t,he,htn,ht⟩:=hm.there;have fresh: ∀b,h.get? b=none->(Z7 h (frs X.stack)).get? b=none:=fun b hb=>by
   cases q:(Z7 h (frs X.stack)).get? b with
   | none=>rfl
   | some o=>have:=Jn _ q;rw[hb] at this;cases this
  have fh:h.FunFrames (Z7 h (frs X.stack)) X.stack:=Uu ff fun env he a ha=>List.mem_filterMap.mpr ⟨env,he,ha⟩
  have fs:s.heap.FunFrames (Z7 h (frs X.stack)) X.stack:=fh.of_keeps fun b o hb _=>⟨o,hm.keeps b o hb,rfl⟩
  unfold noteFrame;simp only[hf];refine Qc (wpAny_field he rfl (x:=Value.none) rfl ?_);rw[if_neg (by decide)];have fs':s.heap.FunFrames (Z7 h (frs X.stack)) (X.env::X.outer):=hst▸fs;refine wpAny_entryW (base:=Z7 h (frs X.stack)) (a0:= .ref t) (by rw[I.ok.frames,hst]) fs' hf he (fun b o hb=>hm.keeps b o (Jn _ hb)) (fresh ea hm.new) rfl (by show 1<6;decide) rfl fun h4 hN=> ?_
  obtain⟨n1,n2,n3,n4⟩:=hN;refine wpAny_landsW ⟨n1,fresh ea hm.new,n2,n3⟩ fun h5 y1' y2=>k ea h5 rfl ?_
  have y1:Heap.FlyingW (Z7 h (frs X.stack)) X.stack ea (.ref c) (.ref t) h5:=by
   obtain⟨z1,z2,z3,z4⟩:=y1';exact⟨z1,z2,by rw[hst];rw[hst] at z3;exact z3,z4⟩
  refine aN1.moved (s1:={s with heap:=h}) I rfl I.bare (Un.kept hm.keeps) (fun b o o' q nb eb=> ?_) (fun a o ea'=> ?_) y1 (Heap.UpToSlots.trans n4 y2)
  ·have:=hm.keeps b o' q
   rw[eb] at this;cases this;exact Y4 _ q nb
  ·refine (I.hok a o ea').stay (fun b u hb q=>Y4 _ q fun z=> ?_) (fun _ q=>q) fun _ _ q=>q
   have hn:=I.aI7 b z;rcases hb with rfl | hb
   ·rw[hn] at ea';cases ea'
   ·rw[hn] at hb;cases hb
 ·exact aN1.looks hst hf ⟨s1,H1,aEv I',os,bare,un,fl⟩ fun h' f=>k ea h' rfl f
theorem bEc {tb:List Stmt}{F:Rho->Option Out}{h₀:ExceptHandler}{pos:Pos}(hst:X.stack=X.env::X.outer)(hf:X.env.frame=some X.env.locals)(hb: ∀pins Q,PDB (Cx.tri X pins (h₀::hl) Q) B tb F)(hh:bJl X B (h₀::hl) hs):
  PDS X B (.Try tb (h₀::hl) [] [] pos) (bJd F hs):=by
 intro pins s σ H E I h;obtain⟨ρ,r,h⟩:=h;refine wpAny_Try_except (Ys (hb pins (SP X pins E) [] s σ H E (bFd I) ⟨ρ,r,?_⟩) (fun fl s1 q=> ?_) fun e s1 z=>z)
 ·unfold bJd at h
  cases q:F ρ with
  | none=>rw[q] at h;exact Qg h
  | some o=>
   rw[q] at h;cases o with
   | nx ρ'=>exact h
   | rt d=>exact h
   | bk ρ'=>exact h
   | ct ρ'=>exact h
   | ex c ρ'=>exact fun aUi s' σ' H' e r' x=>aYt hst hf x fun ea h' ee f=>by subst ee;exact hh pins σ' H' c ea _ E ρ' f r' h
 ·cases fl with
  | next=>obtain⟨σ',H',I',q'⟩:=q;exact wpAny_execs_nil ⟨σ',H',aEv I',q'⟩
  | brk=>obtain⟨σ',H',I',q'⟩:=q;exact⟨σ',H',aEv I',q'⟩
  | cont=>obtain⟨σ',H',I',q'⟩:=q;exact⟨σ',H',aEv I',q'⟩
  | ret u=>obtain⟨v,σ',H',I',rv,q'⟩:=q;exact⟨v,σ',H',aEv I',rv,q'⟩
end
def bK1:D->Option Key
 | .int i=>some (.inl i)
 | .str x=>some (.inr x)
 | _=>none
section
variable {X:Cx}{B:Hp}{k v:Expr}{fk fv:Rho->M D}{pos:Pos}
def bIy (fk fv:Rho->M D):Rho->M D:=fun ρ=>bnd (fk ρ) fun k=>bnd (fv ρ) fun v=>match bK1 k with
 | some q=>if v.imm=true then ok (.dk [(q,v)]) else none
 | none=>none
theorem bIh {K:Qb}{H:Hp}{d:D}{x:V}{q:Key}(i:Is K H d x)(h:bK1 d=some q):x=kV q:=by
 cases i with
 | int j=>cases h;rfl
 | str j=>cases h;rfl
 | _=>cases h
theorem bAy (hk:PD X B k fk)(hv:PD X B v fv):PD X B (.Dict [some k] [v] pos) (bIy fk fv):=by
 refine PE.of (bD8 (bAp hk hv bD3) rfl rfl (by simp) (by show 1<=15;omega)) fun σ H Q h=> ?_
 obtain⟨ρ,r,h⟩:=h;intro p hp;have s0:=aA4 hp (.dK []);refine⟨ρ,r.mono s0,(Res.bind h).mono s0 fun dk h1 x H1 e1 i1=>⟨ρ,(r.mono s0).mono e1,(Res.bind h1).mono (s0.trans e1) fun dv h2 y H2 e2 i2=> ?_⟩⟩;cases q:bK1 dk with
 | none=>rw[q] at h2;exact Qg h2
 | some kk=>
  rw[q] at h2
  dsimp only at h2
  split at h2
  case isFalse=>exact Qg h2
  rename_i him;have hx:=bIh i1 q;have ep:H2 p=some (.dK []):=e2 _ _ (e1 _ _ aAs);refine⟨ep,[(kk,y)],by rw[hx];rfl,by show 1<=15;omega,?_⟩;have np: ∀b o,H b=some o->b≠p:=fun b o z w=>by rw[w,hp] at z;cases z
  have sH:Same H (upd H2 p (.dK (aNt [] [(kk,y)]))):=fun b o z=>by
   rw[aAq (np b o z)];exact e2 _ _ (e1 _ _ (s0 _ _ z))
  refine h2 _ _ sH (.dk (.inl aAs) (.cons ?_ .nil));refine Is.alike (fun b xs z=> ?_) (fun b o u z=> ?_) him i2
  ·rw[aAq];exact z
   intro w;rw[w,ep] at z;cases z
  ·rw[aAq];exact z
   intro w;rw[w,ep] at z;cases z
end
section
variable {X:Cx}{B:Hp}{tg iter c:Expr}{fa:Rho->M D}{ft:Rho->M Bool}{pos p:Pos}{x y:Str}{k k2:Nat}
def itE (f:Rho->M D):Rho->M (List D):=fun ρ=>bnd (f ρ) itD
def bJ1:D->M (List D)
 | .int j=>if-(2^62)<=j/\j<2^62 then ok (rng 0 j.toNat) else none
 | _=>none
def itR (f:Rho->M D):Rho->M (List D):=fun ρ=>bnd (f ρ) bJ1
theorem bCm (hg:Gl X "range")(hm:X.mg "range"=none)(h:PD X B c fa)(hs:aG1 c=true:=by rfl):PIt X B tg (.Call (.Name "range" p) [c] [] pos) (itR fa):=by
 intro pins s σ H R ρ I r q;refine aPt (tg:=tg) hg hm (aC3 h aFu (aBu hs)) (aPj hs) pins s σ H R I ⟨ρ,r,(Res.bind q).imp fun d q1 v H1 e1 i1=> ?_⟩;cases i1 with
 | int j=>
  dsimp only[bJ1] at q1
  split at q1
  ·rename_i hb;exact⟨_,rfl,hb.1,hb.2,q1 _ H1 e1 (aX7 0 _ H1)⟩
  ·exact Qg q1
 | _=>exact Qg q1
def h1:D->Option (List D):=fun d=>some [d]
theorem bHh (hN:X.N.Nodup)(hi:X.N[k]? =some x)(hx:Loc X.env.scope x)(hf:X.fn x=true\/X.env.scope.names.lookup x=some .local:=by first | exact .inl rfl | exact .inr rfl | assumption):PDH X (.Name x pos) [k] h1:=by
 intro pins s σ H v u Q I r h;obtain⟨d,es,i,e,q⟩:=h;cases e;exact aOd hN hi hx hf pins s σ H v u Q I r (q [v] (.cons i .nil) rfl)
def h2:D->Option (List D)
 | .tup [a,b]=>some [a,b]
 | _=>none
theorem aSz:PIf X B [] (fun _=>ok true):= .inl ⟨rfl,rfl⟩
end
section
variable {X:Cx}{B:Hp}{e:Expr}{fa:Rho->M D}{pos p:Pos}
def toT:D->M D
 | .lst ds=>ok (.tup ds)
 | .tup ds=>ok (.tup ds)
 | _=>none
theorem aKx (hg:Gl X "tuple")(hm:X.mg "tuple"=none)(ha:PD X B e fa)(hs:aG1 e=true:=by rfl):PD X B (.Call (.Name "tuple" p) [e] [] pos) (f1 toT fa):=by
 refine PE.of (aPu aO0 hg hm boot_tuple (aC3 ha aFu (aBu hs)) (he:=aBu hs) (hpl:=by rfl)) fun σ H Q h=> ?_
 obtain⟨ρ,r1,h⟩:=h;refine⟨ρ,r1,(Res.bind h).imp fun d q1 v H1 e1 i1=> ?_⟩;cases i1 with
 | lst hh rr=>exact⟨_,_,rfl,.inl ⟨hh,fun l hl=>q1 _ _ (e1.trans (aA4 hl _)) (.tup (TQ.of aAs) (rr.mono (aA4 hl _)))⟩⟩
 | tup hh rr=>exact⟨_,_,rfl,.inr ⟨hh.sq,q1 _ H1 e1 (.tup hh rr)⟩⟩
 | _=>exact Qg q1
end
def flD:D->Option V
 | .non=>some .non
 | .bl b=>some (.bl b)
 | .int i=>some (.int i)
 | .str x=>some (.str x)
 | _=>none
def flL:List D->Option (List V)
 | []=>some []
 | d::ds=>match flD d,flL ds with
  | some v,some vs=>some (v::vs)
  | _,_=>none
def bLq:D->Option (List D)
 | .lst ds=>some ds
 | .tup ds=>some ds
 | _=>none
def gIn (neg:Bool)(x y:D):M D:=match flD x,(bLq y).bind flL with
 | some v,some vs=>ok (.bl (if neg then !inV v vs else inV v vs))
 | _,_=>none
section
variable {K:Qb}{H:Hp}
theorem bIs {d:D}{v v':V}(i:Is K H d v)(h:flD d=some v'):v=v'/\aNb v=true:=by
 cases i with
 | non=>cases h;exact⟨rfl,rfl⟩
 | bl b=>cases h;exact⟨rfl,rfl⟩
 | int b=>cases h;exact⟨rfl,rfl⟩
 | str b=>cases h;exact⟨rfl,rfl⟩
 | _=>cases h
theorem aYp: ∀{ds:List D} {vs vs':List V},IsL K H ds vs->flL ds=some vs'->vs=vs'/\vs.all aNb=true
 | _,_,_,.nil,h=>by cases h;exact⟨rfl,rfl⟩
 | _,_,_,.cons (d:=d) (ds:=ds) i r,h=>by
  unfold flL at h;split at h
  ·rename_i v0 vs0 h1 h2
   cases h;obtain⟨e1,f1⟩:=bIs i h1;obtain⟨e2,f2⟩:=aYp r h2;exact⟨by rw[e1,e2],by rw[Ja,f1,f2];rfl⟩
  ·cases h
end
section
variable {X:Cx}{B:Hp}{a b:Expr}{fa fb:Rho->M D}{pos:Pos}
theorem bMs (neg:Bool):aQx X (rIn X.K neg) (gIn neg):=by
 intro H x y dx dy d Q ix iy e q;unfold gIn at e;split at e
 ·rename_i v vs h1 h2
  cases e;obtain⟨e1,f1⟩:=bIs ix h1;subst e1;cases iy with
  | lst hh rr=>
   obtain⟨e2,f2⟩:=aYp rr h2;subst e2;exact⟨_,_,rfl,.inl hh,f1,f2,q _ H (Same.refl H) (.bl _)⟩
  | tup hh rr=>
   obtain⟨e2,f2⟩:=aYp rr h2;subst e2;exact⟨_,_,rfl,.inr hh,f1,f2,q _ H (Same.refl H) (.bl _)⟩
  | _=>cases h2
 ·cases e
theorem bBl (neg:Bool):aHn (gIn neg):=fun x y c h=>by
 unfold gIn at h;split at h
 ·cases h
 ·cases h
theorem aWz (ha:PD X B a fa)(hb:PD X B b fb)(hm:Yt .NotIn b=false:=by rfl):PDT X B (.Compare a [.NotIn] [b] pos) (aA9 (b2 (gIn true) fa fb)):=aFr aPv (bMs true) (bBl true) ha hb hm
theorem bBz (ss:List Str):flL (ss.map D.str)=some (ss.map V.str):=by
 induction ss with
 | nil=>rfl
 | cons x r ih=>rw[Q9,flL,ih];rfl
theorem bBm (x:Str)(ss:List Str):inV (.str x) (ss.map V.str)=ss.contains x:=by
 unfold inV
 induction ss with
 | nil=>rfl
 | cons y r ih=>
  rw[Q9,Jj,ih,List.contains_cons];show ((decide (y=x)) || _)=_;by_cases e:x=y
  ·subst e;simp
  ·have e':¬y=x:=fun z=>e z.symm
   simp[e,e']
end
theorem bCy {env:Env}:aM8 [] env=true:=rfl
theorem aXr {env:Env}{x:Str}{c:Addr}{cl:List (Str×Addr)}(h1:env.cells.lookup x=some c)(h2:env.kindOf x=some .cell\/env.kindOf x=some .free)(r:aM8 cl env=true):aM8 ((x,c)::cl) env=true:=by
 unfold aM8 at r⊢;rw[Ja,r,Bool.and_true]
 dsimp only
 rw[h1];rcases h2 with h2 | h2<;>rw[h2]<;>simp
section
variable {X:Cx}{B:Hp}{scope:Scope}{cl:List (Str×Addr)}{N':List Str}{m:Nat}{tg iter elt:Expr}{ifs:List Expr}{pos:Pos}{ks:List Nat}{G:D->Option (List D)}{ft:Rho->M Bool}{fe:Rho->M D}{it:Rho->M (List D)}
theorem bAz (hclos:closureFor scope X.env=pure cl)(hcell:scope.names.all (fun y=>y.2 != .cell)=true)(hkind:scope.kind= .function)(hnames:scope.names.all (fun y=>y.2 != .local || scope.names.lookup y.1==some .local)=true)(hcl:aM8 cl X.env=true)
  (hnm:aUl X.N N' (relabel scope X.env)=true) (hf:aR0 cl (relabel scope X.env)=true) (hl:N'.length=X.N.length+m) (hks:ks.all (fun k=>decide (X.N.length<=k))=true) (hcm:X.calm=true) (hi:PIt X B tg iter it)
  (hg: ∀C s₀ H₀ ex,PDH (cxC X scope cl N' C s₀ H₀ ex) tg ks G) (ht: ∀C s₀ H₀ ex B,PIf (cxC X scope cl N' C s₀ H₀ ex) B ifs ft) (he: ∀C s₀ H₀ ex B,PD (cxC X scope cl N' C s₀ H₀ ex) B elt fe)
  (hs: ∀x,Zs iter X.env x=pure x:=by intro _;rfl):PD X B (.ListComp elt [⟨tg,iter,ifs,0⟩] scope pos) (cmp m it ks G ft fe):=
 bEh hclos (fun y hy=>by have:=List.all_eq_true.mp hcell y hy;simpa using this) hkind
  (fun y hy z=>by have:=List.all_eq_true.mp hnames y hy;rw[z] at this;simpa using this) hcl hnm hf hl
  (fun k hk=>of_decide_eq_true (List.all_eq_true.mp hks k hk)) hcm hi hg ht he hs
theorem aW2 {i:Nat}{x:Str}{pos' spos:Pos}(hN:X.N.Nodup)(hi0:X.N[i]? =some x)(hx:Loc X.env.scope x)(hclos:closureFor scope X.env=pure cl)(hcell:scope.names.all (fun y=>y.2 != .cell)=true)(hkind:scope.kind= .function)(hnames:scope.names.all (fun y=>y.2 != .local || scope.names.lookup y.1==some .local)=true)(hcl:aM8 cl X.env=true)
  (hnm:aUl X.N N' (relabel scope X.env)=true) (hf:aR0 cl (relabel scope X.env)=true) (hl:N'.length=X.N.length+m) (hks:ks.all (fun k=>decide (X.N.length<=k))=true) (hcm:X.calm=true) (hi:PIt X B tg iter it)
  (hg: ∀C s₀ H₀ ex,PDH (cxC X scope cl N' C s₀ H₀ ex) tg ks G) (ht: ∀C s₀ H₀ ex B,PIf (cxC X scope cl N' C s₀ H₀ ex) B ifs ft) (he: ∀C s₀ H₀ ex B,PD (cxC X scope cl N' C s₀ H₀ ex) B elt fe)
  (hsw:swapsWith (.ListComp elt [⟨tg,iter,ifs,0⟩] scope pos) (some (.Name x pos')) spos.line X.env=pure true:=by rfl) (hs: ∀x,Zs iter X.env x=pure x:=by intro _;rfl)
  (hfn:X.fn x=true\/X.env.scope.names.lookup x=some .local:=by first | exact .inl rfl | exact .inr rfl | assumption):
  PDS X B (.Assign [.Name x pos'] (.ListComp elt [⟨tg,iter,ifs,0⟩] scope pos) spos) (aLu i (cmp m it ks G ft fe)):=
 bAv hN hi0 hx hclos (fun y hy=>by have:=List.all_eq_true.mp hcell y hy;simpa using this) hkind
  (fun y hy z=>by have:=List.all_eq_true.mp hnames y hy;rw[z] at this;simpa using this) hcl hnm hf hl
  (fun k hk=>of_decide_eq_true (List.all_eq_true.mp hks k hk)) hcm hi hg ht he hsw hs hfn
end
section
variable {X:Cx}{B:Hp}{a b:Expr}{fa fb:Rho->M D}{pos:Pos}
theorem OpR.or {f:Qd->Qd->Sem Qd}{r r':R2}(h:OpR X f r)(h':OpR X f r'):OpR X f (fun x y H Q=>r x y H Q\/r' x y H Q):=by
 intro pins s σ H x y v u Q I rx ry q;rcases q with q | q
 ·exact h pins s σ H x y v u Q I rx ry q
 ·exact h' pins s σ H x y v u Q I rx ry q
def bG4 (K:Qb):R2:=fun x y H Q=> ∃a b ys,x= .ref a/\y= .ref b/\SqT K H a []/\SqT K H b ys/\Q (.ref b) H
theorem bEq:OpR X (binaryOp .Add) (bG4 X.K):=by
 intro pins s σ H x y v u Q I rx ry h;obtain⟨a,b,ys,rfl,rfl,ha,hb,q⟩:=h;cases rx;cases ry;obtain⟨its,r1,p1,_⟩:=I.tuple ha;obtain⟨its2,r2,p2,_⟩:=I.tuple hb;have e1:its=[]:=r1.aOo.mpr rfl;subst e1;obtain⟨⟨c1,d1,x1,l1⟩,o1,k1,n1,z1⟩:=p1;obtain⟨⟨c2,d2,x2,l2⟩,o2,k2,n2,z2⟩:=p2
 dsimp only at k1 z1 k2 z2
 subst k1 z1 k2 z2;exact concat_meets ⟨_,o1,rfl⟩ ⟨_,o2,rfl⟩ noFill_tuple_add seq_tuple_add Jw Jt (Jq _ _)
  (tuple_addW0 a b _ _ n1 n2 d1 d2 l1 l2 rfl) ⟨o1,o2,⟨.ref b,H,I,rfl,q⟩⟩
def bG3 (K:Qb):R2:=fun x y H Q=> ∃a b xs ys,x= .ref a/\y= .ref b/\SqL K H a xs/\SqL K H b ys/\xs.length+ys.length<=Qq/\∀p,H p=none->Q (.ref p) (upd H p (.lst (xs++ys)))
theorem bEp:OpR X (binaryOp .Add) (bG3 X.K):=by
 intro pins s σ H x y v u Q I rx ry h;obtain⟨a,b,xs,ys,rfl,rfl,ha,hb,hz,q⟩:=h;cases rx;cases ry;obtain⟨its,r1,p1,_⟩:=I.list ha;obtain⟨its2,r2,p2,_⟩:=I.list hb;have hl1:=r1.length;have hl2:=r2.length;obtain⟨⟨c1,d1,x1,l1⟩,n1,o1,k1,_,z1⟩:=p1;obtain⟨⟨c2,d2,x2,l2⟩,n2,o2,k2,_,z2⟩:=p2
 dsimp only at k1 z1 k2 z2
 subst k1 z1 k2 z2;refine concat_meets ⟨_,o1,rfl⟩ ⟨_,o2,rfl⟩ noFill_list_add seq_list_add PySem.F.slot_list_add PySem.F.entry_list_add (PySem.F.args_list_add_2 _ _)
  (list_addW a b _ _ n1 n2 d1 d2 l1 l2 (by rw[Qo,Qo,<-hl1,<-hl2];exact hz)) ⟨o1,o2,?_⟩
 have ea:its.toArray++its2.toArray=(its++its2).toArray:=by simp
 rw[ea];exact⟨.ref _,_,I.bL2 (t':=s.toks) (r1.append r2) (by rw[Qx];exact hz),rfl,q _ I.fresh⟩
def aD4:D->D->M D
 | .int i,.int j=>ok (.int (i+j))
 | .str i,.str j=>if i.length+j.length<=100000 then ok (.str (i++j)) else none
 | .tup xs,.tup ys=>if xs.length+ys.length<=100000 then ok (.tup (xs++ys)) else none
 | .lst xs,.lst ys=>if xs.length+ys.length<=100000 then ok (.lst (xs++ys)) else none
 | _,_=>none
theorem bH1:aHn aD4:=by
 intro x y c h;unfold aD4 at h
 (repeat' split at h)<;>cases h
theorem aOq {n:Nat}(h:n<=100000):n<=Qq:=Zi h (by decide)
def bG1 (K:Qb):R2:=fun x y H Q=>(∃i j,x= .int i/\y= .int j/\Q (.int (i+j)) H)\/(∃i j,x= .str i/\y= .str j/\i.length+j.length<=Qq/\Q (.str (i++j)) H)\/bG4 K x y H Q\/bG2 K x y H Q\/bG3 K x y H Q
theorem bEk:OpR X (binaryOp .Add) (bG1 X.K):=OpR.or bHu (OpR.or aUk (OpR.or bEq (OpR.or bEo bEp)))
theorem bGy:aQx X (bG1 X.K) aD4:=by
 intro H x y dx dy d Q ix iy e q;unfold aD4 at e;split at e
 ·cases ix;cases iy;cases e
  exact .inl ⟨_,_,rfl,rfl,q _ H (Same.refl H) (.int _)⟩
 ·split at e
  ·rename_i hz
   cases ix;cases iy;cases e;exact .inr (.inl ⟨_,_,rfl,rfl,aOq hz,q _ H (Same.refl H) (.str _)⟩)
  ·cases e
 ·split at e
  ·rename_i hz
   cases ix with
   | tup h1 r1=>
    cases iy with
    | tup h2 r2=>
     cases e;rw[r1.length,r2.length] at hz;cases r1 with
     | nil=>exact .inr (.inr (.inl ⟨_,_,_,rfl,rfl,h1,h2.sq,q _ H (Same.refl H) (.tup h2 r2)⟩))
     | cons i1 r1=>
      refine .inr (.inr (.inr (.inl ⟨_,_,_,_,rfl,rfl,h1,h2,by simp,aOq hz,fun z=> ?_,fun z p hp=> ?_⟩)))
      ·subst z
       cases r2;exact q _ H (Same.refl H) (by rw[Zl];exact .tup h1 (.cons i1 r1))
      ·exact q _ _ (aA4 hp _) (.tup (TQ.of aAs) ((IsL.append (.cons i1 r1) r2).mono (aA4 hp _)))
  ·cases e
 ·split at e
  ·rename_i hz
   cases ix with
   | lst h1 r1=>
    cases iy with
    | lst h2 r2=>
     cases e;rw[r1.length,r2.length] at hz;exact .inr (.inr (.inr (.inr ⟨_,_,_,_,rfl,rfl,h1,h2,aOq hz,fun p hp=>q _ _ (aA4 hp _) (.lst (SqL.of aAs) ((IsL.append r1 r2).mono (aA4 hp _)))⟩)))
  ·cases e
 ·cases e
theorem aFt (ha:PD X B a fa)(hb:PD X B b fb):PD X B (.BinOp a .Add b pos) (b2 aD4 fa fb):=aUj bEk bGy bH1 ha hb
end
section
variable {X:Cx}{B:Hp}{a b:Expr}{fa fb:Rho->M D}{pos:Pos}
def aRc (x:Str)(n:Nat):Str:=⟨(Q8 n x.cps).foldl (· ++ ·) #[]⟩
def bJ4:R2:=fun x y H Q=> ∃z k,x= .str z/\y= .int k/\0<=k/\z.length<=1000/\k<=1000/\Q (.str (aRc z k.toNat)) H
theorem rep0 (x:Str):aRc x 0=Zr:=rfl
theorem rep1 (x:Str):aRc x 1=x:=by
 unfold aRc;simp
theorem bMn {x:Str}(h:x.length=0)(n:Nat):aRc x n=x:=by
 obtain⟨c⟩:=x;have e:c= #[]:=Array.size_eq_zero_iff.mp h;subst e;unfold aRc
 congr 1
 induction n with
 | zero=>rfl
 | succ n ih=>rw[J4,Jm];exact ih
theorem aLw (x:Str)(n:Nat):(aRc x n).length=n*x.length:=by
 have g: ∀(m:Nat) (a:Array Nat),((Q8 m x.cps).foldl (· ++ ·) a).size=a.size+m*x.cps.size:=by
  intro m
  induction m with
  | zero=>intro a;simp
  | succ m ih=>intro a;rw[J4,Jm,ih,Uc,Nat.succ_mul];omega
 show ((Q8 n x.cps).foldl (· ++ ·) #[]).size=n*x.cps.size;rw[g];simp
theorem bEl:OpR X (binaryOp .Mult) bJ4:=by
 intro pins s σ H x y v u Q I rx ry h;obtain⟨z,k,rfl,rfl,h0,hz,hk,q⟩:=h;obtain⟨t,rfl⟩:=rx;obtain⟨t',rfl⟩:=ry;refine P.mul_str ?_ (fun h1 h2=> ?_) (fun h1 h2=> ?_) ?_
 ·have e1:decide (k< -(2^63:Int))=false:=decide_eq_false (by omega)
  have e2:decide (k≥2^63)=false:=decide_eq_false (by omega);rw[e1,e2];rfl
 ·have h3:(1001:Int)<=(2^63-1)/k:=by
   refine Int.le_ediv_of_mul_le (by omega) ?_;have:(1001:Int)*k<=1001*1000:=by omega
   omega
  omega
 ·have h3:z.length*k.toNat<=1000*1000:=Nat.mul_le_mul hz (by omega)
  exact decide_eq_false (by unfold Qq;omega)
 ·by_cases k0:k<1
  ·have ek:k.toNat=0:=by omega
   rw[if_pos k0];rw[ek,rep0] at q;exact⟨by decide,⟨.str Zr,H,I.tok _,⟨_,rfl⟩,q⟩⟩
  ·rw[if_neg k0]
   split
   ·rename_i hh
    have e:aRc z k.toNat=z:=by
     simp only[Z1,beq_iff_eq] at hh;rcases hh with hh | hh
     ·have ek:k.toNat=1:=by omega
      rw[ek,rep1]
     ·exact bMn hh _
    rw[e] at q;exact⟨.str z,H,I,⟨t,rfl⟩,q⟩
   ·have hl:(aRc z k.toNat).length<=Qq:=by
     rw[aLw];have:k.toNat*z.length<=1000*1000:=Nat.mul_le_mul (by omega) hz;unfold Qq;omega
    exact⟨hl,⟨.str (aRc z k.toNat),H,I.tok _,⟨_,rfl⟩,q⟩⟩
def aF4:D->D->M D
 | .int i,.int j=>bJg (.int i) (.int j)
 | .str z,.int k=>if 0<=k/\z.length<=1000/\k<=1000 then ok (.str (aRc z k.toNat)) else none
 | _,_=>none
theorem bEw:aHn aF4:=by
 intro x y c h;unfold aF4 bJg at h
 (repeat' split at h)<;>cases h
theorem aS3 (ha:PD X B a fa)(hb:PD X B b fb):PD X B (.BinOp a .Mult b pos) (b2 aF4 fa fb):=by
 refine aUj (OpR.or bEm bEl) ?_ bEw ha hb;intro H x y dx dy d Q ix iy e q;unfold aF4 at e;split at e
 ·dsimp only[bJg] at e
  split at e
  ·rename_i h
   cases ix;cases iy;cases e;exact .inl ⟨_,_,rfl,rfl,h,q _ H (Same.refl H) (.int _)⟩
  ·cases e
 ·split at e
  ·rename_i h
   cases ix;cases iy;cases e;exact .inr ⟨_,_,rfl,rfl,h.1,h.2.1,h.2.2,q _ H (Same.refl H) (.str _)⟩
  ·cases e
 ·cases e
end
section
variable {K:Qb}{H₀ H:Hp}{ρ:Rho}{σ:St}
theorem Rel.bEj {i:Nat}{a:Addr}{ds:List D}{vs:List V}(r:Rel K H₀ ρ σ H)(hf:H a=none)(im:aIj ds=true)(iv:IsL K H ds vs):Rel K H₀ (ρ.set i (some (.own ds))) (σ.set i (some (.ref a))) (upd H a (.lst vs)):=by
 obtain⟨O,h1,ho,h2,hl,h3⟩:=id r;by_cases hi:i<σ.length
 case neg=>
  have s1: ∀x:Option SV,ρ.set i x=ρ:=fun x=>Z6 (by omega)
  have s2: ∀x:Option V,σ.set i x=σ:=fun x=>Z6 (by omega)
  rw[s1,s2];exact r.mono (aA4 hf _)
 have na: ∀j b,O j=some b->b≠a:=fun j b q e=>by
  subst e;obtain⟨u,w,m⟩:=ho j b q;rw[w] at hf;cases hf
 let O':Nat->Option Addr:=fun j=>if j=i then some a else O j
 have Oi:O' i=some a:=if_pos rfl;have On: ∀j,j≠i->O' j=O j:=fun j e=>if_neg e
 have hO':aZz (upd H a (.lst vs)) O':=fun j b q=>by
  by_cases e:j=i
  ·subst e
   rw[Oi] at q;cases q;exact⟨_,aAs,rfl⟩
  ·rw[On j e] at q
   have nb:=na j b q;obtain⟨u,w,m⟩:=ho j b q;exact⟨u,by rw[aAq nb];exact w,m⟩
 have sm:Same (Off H O) (Off (upd H a (.lst vs)) O'):=fun b o q=>by
  have qh:=Off.same H O b o q;have nb:b≠a:=fun e=>by subst e;rw[hf] at qh;cases qh
  refine Off.of (by rw[aAq nb];exact qh) fun j z=> ?_
  by_cases e:j=i
  ·subst e
   rw[Oi] at z;cases z;exact nb rfl
  ·rw[On j e] at z
   exact Off.not q j z
 refine⟨O',fun j k b q1 q2=> ?_,hO',h2.trans sm,by rw[Q5,Q5,hl],fun j sv q=> ?_⟩
 ·by_cases e1:j=i
  ·by_cases e2:k=i
   ·rw[e1,e2]
   ·subst e1
    rw[Oi] at q1;cases q1;rw[On k e2] at q2;exact absurd rfl (na k _ q2)
  ·by_cases e2:k=i
   ·subst e2
    rw[Oi] at q2;cases q2;rw[On j e1] at q1;exact absurd rfl (na j _ q1)
   ·rw[On j e1] at q1
    rw[On k e2] at q2;exact h1 j k b q1 q2
 ·by_cases e:j=i
  ·subst e
   have hj:j<ρ.length:=by
    have:=(List.getElem?_eq_some_iff.mp q).1
    rwa [Q5] at this
   rw[Q1 hj] at q;have q':=Option.some.inj (Option.some.inj q);subst q';exact⟨a,vs,Oi,Q1 (by rw[<-hl];exact hj),aAs,aOm hO' im (iv.mono (aA4 hf _))⟩
  ·rw[Qj (Ne.symm e)] at q
   have z:=h3 j sv q;cases sv with
   | sh d'=>obtain⟨v',e1,e2⟩:=z;exact⟨v',by rw[Qj (Ne.symm e)];exact e1,e2.mono sm⟩
   | own ds'=>
    obtain⟨b,ws,e1,e2,e3,e4⟩:=z;exact⟨b,ws,by rw[On j e];exact e1,by rw[Qj (Ne.symm e)];exact e2,by rw[aAq (na j b e1)];exact e3,e4.mono sm⟩
   | oin b C dx fs=>
    obtain⟨e1,e2,e3,ws,e4,e5⟩:=z;exact⟨by rw[On j e];exact e1,by rw[Qj (Ne.symm e)];exact e2,e3,ws,by rw[aAq (na j b e1)];exact e4,e5.mono sm⟩
   | ow o=>
    obtain⟨b,u,e1,e2,e3,e4⟩:=z;exact⟨b,u,by rw[On j e];exact e1,by rw[Qj (Ne.symm e)];exact e2,by rw[aAq (na j b e1)];exact e3,e4.mono sm⟩
   | tk ks=>obtain⟨b,e1,e2⟩:=z;exact⟨b,by rw[Qj (Ne.symm e)];exact e1,sm _ _ e2⟩
   | nl kd ls=>exact NL.move (by rw[Q5]) (Qj (Ne.symm e)) (fun m b w hm e1 e2=>⟨by rw[On m (by rcases hm with h | h<;>omega)];exact e1,by rw[aAq (na m b e1)];exact e2⟩) sm z
theorem Rel.aW7 {i:Nat}{a:Addr}{ds ds':List D}{vs':List V}(O:Nat->Option Addr)(h1: ∀i j a,O i=some a->O j=some a->i=j)(ho:aZz H O)(h2:Same H₀ (Off H O))(hl:ρ.length=σ.length)
  (h3: ∀i sv,ρ[i]? =some (some sv)->Slot K H O σ i sv) (q:ρ[i]? =some (some (.own ds))) (z1:O i=some a) (z2:σ[i]? =some (some (.ref a))) (iv:IsL K (Off H O) ds' vs'):Rel K H₀ (ρ.set i (some (.own ds'))) σ (upd H a (.lst vs')):=by
 have eo:Off (upd H a (.lst vs')) O=Off H O:=Off.upd z1;refine⟨O,h1,fun j b qj=> ?_,by rw[eo];exact h2,by rw[Q5,hl],fun j sv qj=> ?_⟩
 ·by_cases e:b=a
  ·subst e;exact⟨_,aAs,rfl⟩
  ·obtain⟨u,w,m⟩:=ho j b qj
   exact⟨u,by rw[aAq e];exact w,m⟩
 ·by_cases e:j=i
  ·subst e
   have hj:j<ρ.length:=(List.getElem?_eq_some_iff.mp q).1;rw[Q1 hj] at qj;have q':=Option.some.inj (Option.some.inj qj);subst q';exact⟨a,vs',z1,z2,aAs,by rw[eo];exact iv⟩
  ·rw[Qj (Ne.symm e)] at qj
   have z:=h3 j sv qj;cases sv with
   | sh d'=>obtain⟨v',e1,e2⟩:=z;exact⟨v',e1,by rw[eo];exact e2⟩
   | own es=>
    obtain⟨b,ws,e1,e2,e3,e4⟩:=z;have nb:b≠a:=fun w=>e (h1 j i a (by rw[<-w];exact e1) z1)
    exact⟨b,ws,e1,e2,by rw[aAq nb];exact e3,by rw[eo];exact e4⟩
   | oin b C' dx' fs'=>
    obtain⟨e1,e2,e3,ws,e4,e5⟩:=z;have nb:b≠a:=fun w=>e (h1 j i a (by rw[<-w];exact e1) z1)
    exact⟨e1,e2,e3,ws,by rw[aAq nb];exact e4,by rw[eo];exact e5⟩
   | ow o=>
    obtain⟨b,u,e1,e2,e3,e4⟩:=z;have nb:b≠a:=fun w=>e (h1 j i a (by rw[<-w];exact e1) z1)
    exact⟨b,u,e1,e2,by rw[aAq nb];exact e3,by rw[eo];exact e4⟩
   | tk ks=>obtain⟨b,e1,e2⟩:=z;exact⟨b,e1,by rw[eo];exact e2⟩
   | nl kd ls=>
    have hi:i<σ.length:=by have:=(List.getElem?_eq_some_iff.mp q).1;omega
    exact NL.move rfl rfl (fun m b w hm e1 e2=>⟨e1,by rw[aAq (fun z=>absurd (h1 m i a (by rw[<-z];exact e1) z1) (by rcases hm with h | h<;>omega))];exact e2⟩) (by rw[eo];exact Same.refl _) z
end
section
variable {X:Cx}{B:Hp}{e e':Expr}{es:List Expr}{fa fb:Rho->M D}{ga:Rho->M (List D)}{pos pos' p p2 apos cpos:Pos}{x:Str}{i:Nat}
def sNew (i:Nat)(g:Rho->M (List D)):Rho->Option Out:=fun ρ=>lft (g ρ) ρ fun ds=>if aIj ds=true/\ds.length<=1000 then some (.nx (ρ.set i (some (.own ds)))) else none
theorem bEd (hN:X.N.Nodup)(hi:X.N[i]? =some x)(hx:Loc X.env.scope x)(he:PDA X B es ga)(hs:swapsWith (.List es p) (some (.Name x pos')) pos.line X.env=pure false:=by rfl)(hf:X.fn x=true\/X.env.scope.names.lookup x=some .local:=by first | exact .inl rfl | exact .inr rfl | assumption):
  PDS X B (.Assign [.Name x pos'] (.List es p) pos) (sNew i ga):=by
 refine PS.of (aWw hN hi hx (bCo he) hs hf) fun E σ H h=> ?_
 obtain⟨ρ,r,h⟩:=h;refine⟨ρ,r,(aD3 r h).imp fun ds h1 vs H1 e1 i1=> ?_⟩;split at h1
 ·rename_i hh
  refine⟨by rw[<-i1.length];exact Zi hh.2 (by decide),fun l hl=> ?_⟩;exact h1 _ _ ((r.mono e1).bEj hl hh.1 i1)
 ·exact Qg h1
end
section
variable {X:Cx}{B:Hp}{e:Expr}{fa:Rho->M D}{pos p:Pos}
def blL:List D->Option (List Bool)
 | []=>some []
 | .bl b::ds=>match blL ds with | some bs=>some (b::bs) | none=>none
 | _::_=>none
def bL6:D->M D
 | .lst ds=>match blL ds with | some bs=>ok (.bl (bs.all id)) | none=>none
 | _=>none
end
section
variable {X:Cx}{B:Hp}{e:Expr}{es:List Expr}{fa:Rho->M D}{pos p:Pos}
def PJ (X:Cx)(B:Hp)(es:List Expr)(g:Rho->Str->M Str):Prop:=
 ∀(pins:List (Addr×Obj)) (s:Qf) (σ:St) (H:Hp) (ρ:Rho) (acc:Str) (Q:Str->Qf->Prop),Inv X pins σ H s->Rel X.K B ρ σ H->
  Res X σ H (fun out=>out.length<=Qq->∀s' H',Same H H'->Inv X pins σ H' s'->Q out s') (g ρ acc)->Joins (Ql X.prog X.w) X.A X.xe (evalEach es X.env) acc Q s
def aVs:Rho->Str->M Str:=fun _ acc=>if acc.length<=100000 then ok acc else none
def aTf (y:Str)(g:Rho->Str->M Str):Rho->Str->M Str:=fun ρ acc=>if (acc++y).length<=100000 then g ρ (acc++y) else none
def aX4 (f:Rho->M D)(g:Rho->Str->M Str):Rho->Str->M Str:=fun ρ acc=>bnd (f ρ) fun d=>match d with
 | .str x=>if (Z3 x).length<=100000/\(acc++Z3 x).length<=100000 then g ρ (acc++Z3 x) else none
 | _=>none
theorem aSy:PJ X B [] aVs:=by
 intro pins s σ H ρ acc Q I r h;unfold aVs at h;split at h
 ·rename_i hz
  exact h (aOq hz) s H (Same.refl H) I
 ·exact Qg h
theorem aPr {y:Str}{j:Nat}{g:Rho->Str->M Str}(hg:PJ X B es g):PJ X B (.Constant (.str y) j pos::es) (aTf y g):=by
 intro pins s σ H ρ acc Q I r h;unfold aTf at h;split at h
 ·rename_i hz
  refine thn (bCn (X:=X) (x:=y) (j:=j) (pos:=pos) pins s σ H (fun v H1=>v= .str y/\H1=H) I ⟨rfl,rfl⟩) fun v s1 ⟨x,H1,I1,r1,e1,e2⟩=> ?_
  subst e1 e2;obtain⟨t,rfl⟩:=r1;exact⟨y,t,rfl,aOq hz,hg pins s1 σ _ ρ (acc++y) Q I1 r h⟩
 ·exact Qg h
theorem aSx {g:Rho->Str->M Str}(he:PD X B e fa)(hg:PJ X B es g):PJ X B (.FormattedValue e 114 none pos::es) (aX4 fa g):=by
 intro pins s σ H ρ acc Q I r h;show Qm _ _ (eval (.FormattedValue e 114 none pos) X.env) _ _ s;refine wpAny_FormattedValue_repr ?_;refine thn (he pins s σ H (fun v H1=> ∃x,v= .str x/\Same H H1/\((Z3 x).length<=100000/\(acc++Z3 x).length<=100000)/\Res X σ H (fun out=>out.length<=Qq->∀s' H',Same H H'->Inv X pins σ H' s'->Q out s') (g ρ (acc++Z3 x))) I ⟨ρ,r,(Res.bind h).imp fun d h1 v H1 e1 i1=> ?_⟩) fun v s1 ⟨x',H1,I1,r1,x,e1,sm,hz,h1⟩=> ?_
 ·cases i1<;>first |(exact Qg h1) | skip
  rename_i x
  dsimp only at h1
  split at h1
  ·rename_i hz
   exact⟨x,rfl,e1,hz,h1⟩
  ·exact Qg h1
 ·subst e1
  obtain⟨t,rfl⟩:=r1;refine PySem.wpAny_pyReprObj_str ?_ (aOq hz.1);have fin: ∀(t:Tok) (k:Nat),Joins (Ql X.prog X.w) X.A X.xe (evalEach es X.env) (acc++Z3 x) Q {s1 with toks:=k}:=fun t k=>
   hg pins {s1 with toks:=k} σ H1 ρ (acc++Z3 x) Q (I1.tok _) (r.mono sm) (h1.mono sm fun out q hz s' H' e' I'=>q hz s' H' (sm.trans e') I')
  exact wpAny_formatField_str ⟨_,_,rfl,aOq hz.2,fin 0 _⟩ ⟨_,_,rfl,aOq hz.2,fin 0 _⟩ (aOq hz.1)
def jnd (g:Rho->Str->M Str):Rho->M D:=fun ρ=>bnd (g ρ Zr) fun x=>ok (.str x)
theorem aIa {e1 e2:Expr}{g:Rho->Str->M Str}(hg:PJ X B (e1::e2::es) g):PD X B (.JoinedStr (e1::e2::es) pos) (jnd g):=by
 intro pins s σ H Q I h;obtain⟨ρ,r,h⟩:=h;refine wpAny_JoinedStr (hg pins s σ H ρ Zr _ I r ((Res.bind h).imp fun x h1 hz s' H' e' I'=> ?_));exact⟨hz,⟨.str x,H',I'.tok _,⟨_,rfl⟩,h1 _ H' e' (.str x)⟩⟩
end
section
variable {X:Cx}{B:Hp}{e a b:Expr}{fa fb:Rho->M D}{pos p p2 pos2:Pos}
def bAa:List D->Option (List Str)
 | []=>some []
 | .str x::ds=>match bAa ds with | some xs=>some (x::xs) | none=>none
 | _::_=>none
theorem aSs (xs:List Str):bAa (xs.map D.str)=some xs:=by
 induction xs with
 | nil=>rfl
 | cons x r ih=>rw[Q9];unfold bAa;rw[ih]
theorem aQ7: ∀(ds:List D) {xs:List Str},bAa ds=some xs->ds=xs.map D.str
 | [],_,h=>by cases h;rfl
 | .str x::ds,_,h=>by
  unfold bAa at h;split at h
  ·rename_i xs hx
   cases h;rw[aQ7 ds hx];rfl
  ·cases h
 | .non::_,_,h=>nomatch h
 | .bl _::_,_,h=>nomatch h
 | .int _::_,_,h=>nomatch h
 | .tup _::_,_,h=>nomatch h
 | .lst _::_,_,h=>nomatch h
 | .obj _ _::_,_,h=>nomatch h
 | .dk _::_,_,h=>nomatch h
 | .dt _::_,_,h=>nomatch h
 | .exc _::_,_,h=>nomatch h
 | .set _::_,_,h=>nomatch h
theorem aWe {K:Qb}{H:Hp}: ∀{xs:List Str} {vs:List V} {its:List Qd},IsL K H (xs.map D.str) vs->Vals vs its->∀(i:Nat) (v:Qd),its[i]? =some v->∃t,v=Ym (xs.getD i Zr) t
 | [],_,_,.nil,r,i,v,h=>by cases r;simp at h
 | x::xs,_,_,.cons i1 r1,r,i,v,h=>by
  cases i1;cases r with
  | cons q r=>
   obtain⟨t,rfl⟩:=q;cases i with
   | zero=>simp at h;subst h;exact⟨t,rfl⟩
   | succ i=>rw[Jy] at h;exact aWe r1 r i v h
def toS:D->M D
 | .tup ds=>match bAa ds with | some xs=>if xs.length<=2000 then ok (.set (aFj xs)) else none | none=>none
 | .lst ds=>match bAa ds with | some xs=>if xs.length<=2000 then ok (.set (aFj xs)) else none | none=>none
 | _=>none
def bMy (K:Qb):List V->Hp->VK->Prop:=fun vs H Q=> ∃p ys xs,vs=[.ref p]/\(SqL K H p ys\/SqT K H p ys)/\IsL K H (xs.map D.str) ys/\xs.length<=2000/\∀l,H l=none->Q (.ref l) (upd H l (.set (fun k=>(aFj xs).contains k) (aFj xs).length))
theorem aY3 (hc:X.calm=true):aHp X (.type "set") (bMy X.K):=by
 intro pins s σ H vs us Q I r h;obtain⟨p,ys,xs,rfl,hq,ix,hz,q⟩:=h;obtain⟨u,rfl,rx⟩:=vals1 r;cases rx;have hl:=ix.length;rw[Qv] at hl;have fin: ∀(its:List Qd),Vals ys its->∀(o:Obj) (n:Nat) (T:String),(T="list"\/T="tuple")->s.heap.get? p=some o->o.cls= .type T->o.data= .seq its.toArray n->Qm (Ql X.prog X.w) X.A (call (.type "set") [.ref p]) (EP X pins σ Q) X.xe s:=by
  intro its r' o n T hT ho hcl hd;have hlen:xs.length=its.toArray.size:=by rw[Qo,<-r'.length,hl]
  refine aQp hT (I.ok.hd hc) ho hcl hd (fun i v hv=>aWe ix r' i v (by simpa using hv)) hlen (by rw[<-hlen];show xs.length+1<4096;omega) fun h' tk z zt kp=> ?_
  exact⟨.ref s.heap.objs.size,_,I.laid (t':=tk) kp (Qn _) (show aCn X.prog X.w _ h' _ (.set _ _) from⟨z,zt⟩),rfl,q _ (I.hok.fresh (Qn _))⟩
 rcases hq with hq | hq
 ·obtain⟨its,r',⟨o,n,ho,hcl,_,hd⟩,_⟩:=I.list hq
  exact fin its r' o n "list" (.inl rfl) ho hcl hd
 ·obtain⟨its,r',⟨o,ho,hcl,n,hd⟩,_⟩:=I.tuple hq
  exact fin its r' o n "tuple" (.inr rfl) ho hcl hd
theorem boot_set:Yq "set"=some (.type "set"):=by decide+kernel
theorem aS4 (hc:X.calm=true)(hg:Gl X "set")(hm:X.mg "set"=none)(ha:PD X B e fa)(hs:aG1 e=true:=by rfl):PD X B (.Call (.Name "set" p) [e] [] pos) (f1 toS fa):=by
 refine PE.of (aPu (aY3 hc) hg hm boot_set (aC3 ha aFu (aBu hs)) (he:=aBu hs) (hpl:=by rfl)) fun σ H Q h=> ?_
 obtain⟨ρ,r1,h⟩:=h;refine⟨ρ,r1,(Res.bind h).imp fun d q1 v H1 e1 i1=> ?_⟩;cases i1 with
 | lst hh rr=>
  dsimp only[toS] at q1
  split at q1
  ·rename_i xs hx
   have ed:=aQ7 _ hx;subst ed;split at q1
   ·rename_i hz
    exact⟨_,_,xs,rfl,.inl hh,rr,hz,fun l hl=>q1 _ _ (e1.trans (aA4 hl _)) (.set aAs)⟩
   ·exact Qg q1
  ·exact Qg q1
 | tup hh rr=>
  dsimp only[toS] at q1
  split at q1
  ·rename_i xs hx
   have ed:=aQ7 _ hx;subst ed;split at q1
   ·rename_i hz
    exact⟨_,_,xs,rfl,.inr hh,rr,hz,fun l hl=>q1 _ _ (e1.trans (aA4 hl _)) (.set aAs)⟩
   ·exact Qg q1
  ·exact Qg q1
 | _=>exact Qg q1
def bJe:D->M D
 | .set ss=>ok (.int ss.length)
 | d=>aPd d
theorem aY4:aHp X (.builtin "len") (fun xs H Q=> ∃p S n,xs=[.ref p]/\H p=some (.set S n)/\Q (.int n) H):=by
 intro pins s σ H xs us Q I r h;obtain⟨p,S,n,rfl,hp,q⟩:=h;obtain⟨u,rfl,rx⟩:=vals1 r;cases rx;obtain⟨⟨o,es,ep,t,ho,hex,hd,_,_,hb,hf,hn⟩,_⟩:=(show aCn X.prog X.w H s.heap p (.set S n) from I.hok p _ hp);refine call_len_set ho hex hd hf (by unfold scanBound at hb;omega) ⟨.int n,H,I.tok _,⟨_,by rw[hn]⟩,q⟩
theorem bEf (hg:Gl X "len")(hm:X.mg "len"=none)(ha:PD X B e fa)(hs:aG1 e=true:=by rfl):PD X B (.Call (.Name "len" p) [e] [] pos) (f1 bJe fa):=by
 refine PE.of (aGa (aHp.or aJ1 aY4) hg hm PySem.boot_len (aC3 ha aFu (aBu hs)) (he:=aBu hs) (hpl:=by rfl)) fun σ H Q h=> ?_
 obtain⟨ρ,r1,h⟩:=h;refine⟨ρ,r1,(Res.bind h).imp fun d h1 v H1 e1 i1=> ?_⟩;cases i1 with
 | lst hh r=>exact .inl ⟨_,_,rfl,.inl hh,by rw[<-r.length];exact h1 _ H1 e1 (.int _)⟩
 | tup hh r=>exact .inl ⟨_,_,rfl,.inr hh,by rw[<-r.length];exact h1 _ H1 e1 (.int _)⟩
 | set hh=>exact .inr ⟨_,_,_,rfl,hh,h1 _ H1 e1 (.int _)⟩
 | _=>exact Qg h1
def bIo:D->D->M D
 | .set x,.set y=>ok (.bl (!(decide (x.length=y.length)&&x.all fun k=>y.contains k)))
 | _,_=>none
theorem bHo (hu:X.A.units<cLine):OpR X (Yl .NotEq) (fun x y H Q=> ∃a b xs ys,x= .ref a/\y= .ref b/\H a=some (.set (fun k=>(xs:List Str).contains k) xs.length)/\H b=some (.set (fun k=>(ys:List Str).contains k) ys.length)/\Q (.bl (!(decide (xs.length=ys.length)&&xs.all fun k=>ys.contains k))) H):=by
 intro pins s σ H x y v u Q I rx ry h;obtain⟨a,b,xs,ys,rfl,rfl,ha,hb,q⟩:=h;cases rx;cases ry;have za:s.heap.SetOf (Qk X.prog X.w) a (fun k=>xs.contains k) xs.length:=(show aCn X.prog X.w H s.heap a (.set _ _) from I.hok a _ ha).1;have zb:s.heap.SetOf (Qk X.prog X.w) b (fun k=>ys.contains k) ys.length:=(show aCn X.prog X.w H s.heap b (.set _ _) from I.hok b _ hb).1;have ta:s.TypeIs (.ref a) "set":=by obtain⟨o,_,_,_,ho,hex,_⟩:=za;exact⟨o,ho,hex.1⟩
 have tb:s.TypeIs (.ref b) "set":=by obtain⟨o,_,_,_,ho,hex,_⟩:=zb;exact⟨o,ho,hex.1⟩
 show Qm _ _ (richCompare .NotEq (.ref a) (.ref b)) _ _ _;refine wpAny_richCompare_same_room ta tb F.slot_set_ne (Zn F.slot_set_ne ta aQh (aQ9 za zb ?_) (F.args_set_ne_2 _ _)) hu;exact And.intro (fun z=>nomatch z) ⟨.bl _,H,I,rfl,q⟩
theorem bJ2:aQx X (fun x y H Q=> ∃a b xs ys,x= .ref a/\y= .ref b/\H a=some (.set (fun k=>(xs:List Str).contains k) xs.length)/\H b=some (.set (fun k=>(ys:List Str).contains k) ys.length)/\Q (.bl (!(decide (xs.length=ys.length)&&xs.all fun k=>ys.contains k))) H) bIo:=by
 intro H x y dx dy d Q ix iy e q;cases ix<;>cases iy<;>first |(cases e;done) | skip
 cases e;rename_i h1 _ _ h2;exact⟨_,_,_,_,rfl,rfl,h1,h2,q _ H (Same.refl H) (.bl _)⟩
theorem bKv:aHn bIo:=by intro x y c;cases x<;>cases y<;>(intro h;cases h)
theorem bEa {k:Nat}(hr:aEx k X.A)(ha:PD X B a fa)(hb:PD X B b fb):PDT X B (.Compare a [.NotEq] [b] pos) (aA9 (b2 bIo fa fb)):=aFr (bHo hr.bGl) bJ2 bKv ha hb (aL0 _)
end
section
variable {X:Cx}{B:Hp}{e a b:Expr}{fa fb:Rho->M D}{pos p p2 pos2:Pos}
theorem bBk {pins:List (Addr×Obj)}{σ:List (Option V)}{H:Hp}{s:Qf}(I:Inv X pins σ H s)(d:Drawn):Inv X pins σ H {s with drawn:=d}:=⟨I.ok,I.os,I.bare,I.base,I.loc,I.cell,I.free,I.aF5,I.pin,I.hok,I.len⟩
theorem bDo {K:Qb}{H:Hp}: ∀{vs:List Qd} {xs:List Str},StrsAre vs xs->Vals (xs.map V.str) vs/\IsL K H (xs.map D.str) (xs.map V.str)
 | _,_,.nil=>⟨.nil,.nil⟩
 | _,_,.cons y t r=>⟨.cons ⟨t,rfl⟩ (bDo (K:=K) (H:=H) r).1,.cons (.str y) (bDo r).2⟩
def bGs:D->M D
 | .set ss=>if ss.length<64/\ss.Nodup then ok (.lst ((aWg ss).map .str)) else none
 | _=>none
theorem aQo (hc:X.calm=true):aHp X (.builtin "sorted") (fun xs H Q=> ∃p ss,xs=[.ref p]/\H p=some (.set (fun k=>(ss:List Str).contains k) ss.length)/\ss.length<64/\ss.Nodup/\∀l,H l=none->Q (.ref l) (upd H l (.lst ((aWg ss).map V.str)))):=by
 intro pins s σ H xs us Q I r h;obtain⟨p,ss,rfl,hp,h64,hn,q⟩:=h;obtain⟨u,rfl,rx⟩:=vals1 r;cases rx;obtain⟨z,zt⟩:=(show aCn X.prog X.w H s.heap p (.set _ _) from I.hok p _ hp);refine aUc (I.ok.hd hc) h64 hn z zt fun out l h' tk d m hS hl ho kp=> ?_
 have hlen:(aWg ss).length=ss.length:=(aLp ss).length_eq;have hs:Qq=16777216:=sizeLine_eq;exact⟨.ref l,_,(bBk I d).laid (t':=tk) kp hl (show aCn X.prog X.w _ h' _ (.lst _) from⟨by rw[Qv];omega,out,m,(bDo (K:=X.K) (H:=H) hS).1,ho⟩),rfl,q _ (I.hok.fresh hl)⟩
theorem boot_sorted:Yq "sorted"=some (.builtin "sorted"):=by decide+kernel
theorem aX8 {K:Qb}{H:Hp}: ∀(xs:List Str),IsL K H (xs.map D.str) (xs.map V.str)
 | []=> .nil
 | x::xs=> .cons (.str x) (aX8 xs)
theorem aW4 (hc:X.calm=true)(hg:Gl X "sorted")(hm:X.mg "sorted"=none)(ha:PD X B e fa)(hs:aG1 e=true:=by rfl):PD X B (.Call (.Name "sorted" p) [e] [] pos) (f1 bGs fa):=by
 refine PE.of (aGa (aQo hc) hg hm boot_sorted (aC3 ha aFu (aBu hs)) (he:=aBu hs) (hpl:=by rfl)) fun σ H Q h=> ?_
 obtain⟨ρ,r1,h⟩:=h;refine⟨ρ,r1,(Res.bind h).imp fun d q1 v H1 e1 i1=> ?_⟩;cases i1 with
 | set hh=>
  dsimp only[bGs] at q1
  split at q1
  ·rename_i hz
   exact⟨_,_,rfl,hh,hz.1,hz.2,fun l hl=>q1 _ _ (e1.trans (aA4 hl _)) (.lst (SqL.of aAs) (aX8 _))⟩
  ·exact Qg q1
 | _=>exact Qg q1
end
def aPf (n:Nat)(f:List D->M D):List D->M D:=fun ds=>if ds.length=n then f ds else none
def aVp (n:Nat)(f:List D->M D):List D->M D:=fun ds=>if ds.length=n then (match f ds with | some (.ok d)=>some (.ok d) | _=>none) else none
theorem aCc {n:Nat}{f:List D->M D}: ∀ds r,aPf n f ds=some r->ds.length=n:=fun ds r h=>by
 unfold aPf at h;split at h
 ·assumption
 ·cases h
theorem aEm {n:Nat}{f:List D->M D}: ∀ds r,aPf n f ds=some r->f ds=some r:=fun ds r h=>by
 unfold aPf at h;split at h
 ·exact h
 ·cases h
theorem aZ7 {n:Nat}{f:List D->M D}: ∀ds r,aVp n f ds=some r->ds.length=n:=fun ds r h=>by
 unfold aVp at h;split at h
 ·assumption
 ·cases h
theorem bGk {n:Nat}{f:List D->M D}: ∀ds r,aVp n f ds=some r->∃d,r= .ok d/\f ds=ok d:=fun ds r h=>by
 unfold aVp at h;split at h
 ·split at h
  ·rename_i d hd
   cases h;exact⟨d,rfl,hd⟩
  ·cases h
 ·cases h
theorem aEj {n:Nat}{f:List D->M D}{ds:List D}{r:M D}(hl:ds.length=n)(h:f ds=r):aPf n f ds=r:=by unfold aPf;rw[if_pos hl,h]
theorem aLm {n:Nat}{f:List D->M D}{ds:List D}{d:D}(hl:ds.length=n)(h:f ds=ok d):aVp n f ds=ok d:=by unfold aVp;rw[if_pos hl,h];rfl
abbrev tS (xs:List Str):D:= .tup (xs.map D.str)
theorem aQa (xs:List Str):aIj (xs.map D.str)=true:=by
 induction xs with
 | nil=>rfl
 | cons x r ih=>rw[Q9,aIj,ih];rfl
theorem bIj (xs:List Str):(tS xs).imm=true:=aQa xs
theorem bK5 (neg:Bool)(x:Str)(h:List Str):gIn neg (.str x) (tS h)=ok (.bl (if neg then !h.contains x else h.contains x)):=by
 unfold gIn;simp only[flD,bLq,Option.bind_some,bBz,bBm]
theorem aBv {F G:Rho->Option Out}{ρ ρ':Rho}{c:Addr}(h:F ρ=some (.ex c ρ')):aAy F G ρ=some (.ex c ρ'):=by unfold aAy;rw[h]
theorem aWq {C:Addr}{g:Rho->M (List D)}{ρ:Rho}{ds:List D}(h:g ρ=ok ds)(hl:ds.length<=1000):aDb C g ρ=some (.ex C ρ):=by
 unfold aDb;rw[h];show (if ds.length<=1000 then some (Out.ex C ρ) else none)=_;rw[if_pos hl]
theorem aC4 {C:Addr}{f:Rho->M D}{ρ:Rho}{d:D}(h:f ρ=ok d):aAy (aDb C (aAh f aBf)) aA8 ρ=some (.ex C ρ):=aBv (aWq (aAp h aBe) (by simp))
theorem len_app (a b:Str):(a++b).length=a.length+b.length:=PySem.strLen_append a b
theorem bKx {c x:Str}{f:Rho->M D}{ρ:Rho}(hc:c.length<=1000)(hx:(Z3 x).length<=10000)(hf:f ρ=ok (.str x)): ∃z,jnd (aTf c (aX4 f aVs)) ρ=ok (.str z):=by
 have e0:Str.empty.length=0:=rfl;have l1:(Zr++c).length<=100000:=by rw[len_app,e0];omega
 have l2:(Z3 x).length<=100000/\(Zr++c++Z3 x).length<=100000:=by rw[len_app,len_app,e0];omega
 refine⟨Zr++c++Z3 x,?_⟩;unfold jnd aTf aX4 aVs;rw[if_pos l1,hf];simp only[aDd];rw[if_pos l2,if_pos l2.2];rfl
theorem bM7 {c c' x:Str}{f:Rho->M D}{ρ:Rho}(hc:c.length<=1000)(hc':c'.length<=1000)(hx:(Z3 x).length<=10000)(hf:f ρ=ok (.str x)): ∃z,jnd (aTf c (aX4 f (aTf c' aVs))) ρ=ok (.str z):=by
 have e0:Str.empty.length=0:=rfl;have l1:(Zr++c).length<=100000:=by rw[len_app,e0];omega
 have l2:(Z3 x).length<=100000/\(Zr++c++Z3 x).length<=100000:=by rw[len_app,len_app,e0];omega
 have l3:(Zr++c++Z3 x++c').length<=100000:=by rw[len_app,len_app,len_app,e0];omega
 refine⟨Zr++c++Z3 x++c',?_⟩;unfold jnd aTf aX4 aVs;rw[if_pos l1,hf];simp only[aDd];rw[if_pos l2,if_pos l3,if_pos l3];rfl
def Sh (x:Str):Prop:=(Z3 x).length<=10000
theorem aP0 {l:List Str}(h:l.Nodup):aFj l=l:=by
 have g: ∀(vs σ:List Str),(σ++vs).Nodup->vs.foldl aQ0 σ=σ++vs:=by
  intro vs
  induction vs with
  | nil=>intro σ _;simp
  | cons v vs ih=>
   intro σ hn;rw[Jm];have hv:σ.contains v=false:=by
    cases hc:σ.contains v with
    | false=>rfl
    | true=>
     have hm:=List.contains_iff_mem.mp hc;rw[List.nodup_append] at hn;exact absurd rfl (hn.2.2 v hm v Qt)
   have e:aQ0 σ v=σ++ [v]:=by unfold aQ0;rw[hv];rfl
   rw[e,ih (σ++ [v]) (by rw[Yo];exact hn),Yo];rfl
 have:=g l [] (by simpa using h)
 simpa[aFj] using this
abbrev L (s:Str):List Nat:=s.cps.toList
theorem aSe (a b:Str):L (a++b)=L a++L b:=by
 show (a.cps++b.cps).toList=_;rw[Wa]
theorem bH6 (s:Str):s.length=(L s).length:=by simp[Str.length]
theorem bLm (z:Str)(lo hi:Option Int): ∀c∈L (aDr z lo hi),c∈L z:=fun c hc=>by
 have:c∈(z.cps.toList.drop (HT.sIx z.length 0 lo)).take (HT.sIx z.length z.length hi-HT.sIx z.length 0 lo):=by simpa[aDr] using hc
 exact List.mem_of_mem_drop (List.mem_of_mem_take this)
theorem aHm (z:Str)(lo hi:Option Int):(aDr z lo hi).length<=z.length:=by
 rw[bH6,bH6];have e:L (aDr z lo hi)=(z.cps.toList.drop (HT.sIx z.length 0 lo)).take (HT.sIx z.length z.length hi-HT.sIx z.length 0 lo):=by simp[aDr]
 rw[e,Zu,Jx];show _<=z.cps.toList.length;omega
theorem bLl (z:Str): ∀(n:Nat),∀c∈L (aRc z n),c∈L z:=by
 have g: ∀(m:Nat) (a:Array Nat),∀c∈((Q8 m z.cps).foldl (· ++ ·) a).toList,c∈a.toList\/c∈z.cps.toList:=by
  intro m
  induction m with
  | zero=>intro a c hc;exact .inl hc
  | succ m ih=>
   intro a c hc;rw[J4,Jm] at hc;rcases ih _ c hc with h | h
   ·rw[Wa] at h
    exact List.mem_append.mp h
   ·exact .inr h
 intro n c hc;rcases g n #[] c hc with h | h
 ·simp at h
 ·exact h
def chs:Str:="aXq 0~zB-c!_dEf.gH1i(jK"
theorem aR8:(L chs).length=23:=by decide+kernel
theorem bI3:(L chs).Nodup:=by decide+kernel
theorem bI4: ∀c∈L chs,c<16^8:=by decide+kernel
def chr (i:Nat):Str:=⟨#[(L chs).getD i 0]⟩
def nam (st k:Int):Str:=
 if st/23%3=1 then aDr "zz" none (some (st%3))++aRc "a" ((5*k+st)%23).toNat
 else aDr "zyzy" none (some (st/69%4))++chr ((5*k+st)%23).toNat++aDr "yzzy" none (some (st/276%4))
theorem bDe {i:Nat}(h:i<23):(L chs)[i]? =some ((L chs).getD i 0):=by
 have h':i<(L chs).length:=by rw[aR8];exact h
 rw[Zz,Q3 h'];rfl
theorem bEv {st k k':Int}(h1:0<=k)(h2:k<23)(h3:0<=k')(h4:k'<23)(e:nam st k=nam st k'):k=k':=by
 have lo: ∀z:Int,0<=z%23/\z%23<23:=fun z=>by omega
 obtain⟨a1,a2⟩:=lo (5*k+st);obtain⟨b1,b2⟩:=lo (5*k'+st);have key:((5*k+st)%23).toNat=((5*k'+st)%23).toNat->k=k':=fun q=>by omega
 unfold nam at e;split at e
 ·have el:=congrArg Str.length e
  rw[len_app,len_app,aLw,aLw] at el;have e1:(("a":Str)).length=1:=by decide+kernel
  rw[e1] at el;exact key (by omega)
 ·have el:=congrArg L e
  rw[aSe,aSe,aSe,aSe] at el;have el2:=List.append_cancel_right el;have el3:=List.append_cancel_left el2;have ec:(L chs).getD ((5*k+st)%23).toNat 0=(L chs).getD ((5*k'+st)%23).toNat 0:=by
   have:[(L chs).getD ((5*k+st)%23).toNat 0]=[(L chs).getD ((5*k'+st)%23).toNat 0]:=by simpa[chr] using el3
   injection this
  have n1:((5*k+st)%23).toNat<(L chs).length:=by rw[aR8];omega
  have n2:((5*k'+st)%23).toNat<(L chs).length:=by rw[aR8];omega
  rw[Zz,Zz,Q3 n1,Q3 n2] at ec;exact key ((List.getElem_inj bI3).mp ec)
theorem bH0 (st k:Int):Sh (nam st k)/\(nam st k).length<=100:=by
 have a1:0<=(5*k+st)%23/\(5*k+st)%23<23:=by omega
 have hz: ∀(z:Str) (o:Option Int),(∀c∈L z,c<16^8)->∀c∈L (aDr z none o),c<16^8:=fun z o h c hc=>h c (bLm z none o c hc)
 have z1: ∀c∈L "zz",c<16^8:=by decide+kernel
 have z2: ∀c∈L "zyzy",c<16^8:=by decide+kernel
 have z3: ∀c∈L "yzzy",c<16^8:=by decide+kernel
 have z4: ∀c∈L "a",c<16^8:=by decide+kernel
 have l1:(("zz":Str)).length=2:=by decide+kernel
 have l2:(("zyzy":Str)).length=4:=by decide+kernel
 have l3:(("yzzy":Str)).length=4:=by decide+kernel
 have l4:(("a":Str)).length=1:=by decide+kernel
 have hh:(∀c∈L (nam st k),c<16^8)/\(nam st k).length<=100:=by
  unfold nam;split
  ·constructor
   ·intro c hc
    rw[aSe] at hc;rcases List.mem_append.mp hc with hc | hc
    ·exact hz _ _ z1 c hc
    ·exact z4 c (bLl _ _ c hc)
   ·rw[len_app,aLw,l4]
    have:=aHm "zz" none (some (st%3));omega
  ·constructor
   ·intro c hc
    rw[aSe,aSe] at hc;rcases List.mem_append.mp hc with hc | hc
    ·rcases List.mem_append.mp hc with hc | hc
     ·exact hz _ _ z2 c hc
     ·have e:c=(L chs).getD ((5*k+st)%23).toNat 0:=by simpa[chr] using hc
      exact bI4 c (by rw[e];exact U9 (bDe (by omega)))
    ·exact hz _ _ z3 c hc
   ·rw[len_app,len_app]
    have:=aHm "zyzy" none (some (st/69%4));have:=aHm "yzzy" none (some (st/276%4));have e:(chr ((5*k+st)%23).toNat).length=1:=rfl;omega
 refine⟨?_,hh.2⟩;have:=PySem.StrLaws.reprText_len (nam st k) hh.1;unfold Sh;omega
theorem bA9 {i j:Int}(h1:0<=i)(h2:i<1000000000000000000000000000000)(h3:0<=j)(h4:j<1000000000000000000000000000000):bCw i j=true:=by
 have q: ∀z:Int,0<=z->z<1000000000000000000000000000000->z.natAbs<2^1048576:=fun z a b=>bAq (m:=100) (by omega) (by decide)
 exact bEy (q i h1 h2) (q j h3 h4)
def aR5:Rho->Option Out:=
  (aAy (aLu 2 (b2 aGs (b2 aD4 (b2 aF4 (con (.int 5)) (look 1)) (look 0)) (con (.int 23))))
  (aAy (sIf (aA9 (b2 gEq (b2 aGs (b2 aHj (look 0) (con (.int 23))) (con (.int 3))) (con (.int 1)))) (aAy (aH7 (b2 aD4 (aZx (con (.str "zz")) aM6 (aM5 (b2 aGs (look 0) (con (.int 3))))) (b2 aF4 (con (.str "a")) (look 2))))
  aA8) aA8)
  (aAy (aH7 (b2 aD4 (b2 aD4 (aZx (con (.str "zyzy")) aM6 (aM5 (b2 aGs (b2 aHj (look 0) (con (.int 69))) (con (.int 4))))) (b2 gIx (con (.str "aXq 0~zB-c!_dEf.gH1i(jK")) (look 2))) (aZx (con (.str "yzzy")) aM6 (aM5 (b2 aGs (b2 aHj (look 0) (con (.int 276))) (con (.int 4)))))))
  aA8)))
theorem bEu {st k:Int}(h1:0<=st)(h2:st<2000)(h3:0<=k)(h4:k<1000):aBq (aR5 [some (.sh (.int st)),some (.sh (.int k)),none])=ok (.str (nam st k)):=by
 have hm:bCw 5 k=true:=bA9 (by omega) (by omega) (by omega) (by omega);have a1:0<=(5*k+st)%23/\(5*k+st)%23<23:=by omega
 have s1:aLu 2 (b2 aGs (b2 aD4 (b2 aF4 (con (.int 5)) (look 1)) (look 0)) (con (.int 23))) [some (.sh (.int st)),some (.sh (.int k)),none]=some (.nx [some (.sh (.int st)),some (.sh (.int k)),some (.sh (.int ((5*k+st)%23)))]):=by
  simp[aLu,b2,look,con,bnd,ok,lft,aGs,aD4,aF4,bJg,SV.cur,hm,aMh,D.imm]
 have l1:(("zz":Str)).length=2:=by decide+kernel
 have l2:(("zyzy":Str)).length=4:=by decide+kernel
 have l3:(("yzzy":Str)).length=4:=by decide+kernel
 have l4:(("a":Str)).length=1:=by decide+kernel
 have l5:chs.length=23:=by decide+kernel
 have d2:b2 gEq (b2 aGs (b2 aHj (look 0) (con (.int 23))) (con (.int 3))) (con (.int 1)) [some (.sh (.int st)),some (.sh (.int k)),some (.sh (.int ((5*k+st)%23)))]=ok (.bl (decide (st/23%3=1))):=by
  simp[b2,look,con,bnd,ok,aGs,aHj,gEq,eqF,SV.cur]
 have cut: ∀(z:Str) (f:Rho->M D) (i:Int) (ρ:Rho),z.length<=1000->f ρ=ok (.int i)->aZx (con (.str z)) aM6 (aM5 f) ρ=ok (.str (aDr z none (some i))):=fun z f i ρ hz hf=>by
  unfold aZx aM5 aM6 con;rw[hf];simp only[aDd];show (if z.length<=1000 then ok (D.str (aDr z none (some i))) else none)=_;rw[if_pos hz]
 have plus: ∀(f g:Rho->M D) (x y:Str) (ρ:Rho),x.length<=1000->y.length<=1000->f ρ=ok (.str x)->g ρ=ok (.str y)->b2 aD4 f g ρ=ok (.str (x++y)):=fun f g x y ρ hx hy hf hg=>by
  refine aGt hf hg ?_;show (if x.length+y.length<=100000 then ok (D.str (x++y)) else none)=_;rw[if_pos (by omega)]
 have md: ∀(d:Int),0<d->b2 aGs (look 0) (con (.int d)) [some (.sh (.int st)),some (.sh (.int k)),some (.sh (.int ((5*k+st)%23)))]=ok (.int (st%d)):=fun d hd=>by
  simp[b2,look,con,bnd,ok,aGs,SV.cur,hd]
 have mf: ∀(d e:Int),0<d->0<e->d<1000->b2 aGs (b2 aHj (look 0) (con (.int d))) (con (.int e)) [some (.sh (.int st)),some (.sh (.int k)),some (.sh (.int ((5*k+st)%23)))]=ok (.int (st/d%e)):=fun d e hd he hd2=>by
  have hd3:d<1073741824:=by omega
  simp[b2,look,con,bnd,ok,aGs,aHj,SV.cur,hd,he,hd3]
 unfold aR5;rw[aB5 s1];by_cases hb:st/23%3=1
 ·rw[decide_eq_true hb] at d2
  have t2:b2 aF4 (con (.str "a")) (look 2) [some (.sh (.int st)),some (.sh (.int k)),some (.sh (.int ((5*k+st)%23)))]=ok (.str (aRc "a" ((5*k+st)%23).toNat)):=by
   refine aGt (x:= .str "a") (y:= .int ((5*k+st)%23)) rfl rfl ?_;show (if 0<=(5*k+st)%23/\(("a":Str)).length<=1000/\(5*k+st)%23<=1000 then ok (D.str (aRc "a" ((5*k+st)%23).toNat)) else none)=_;rw[if_pos ⟨a1.1,by rw[l4];decide,by omega⟩]
  have c1:=cut "zz" (b2 aGs (look 0) (con (.int 3))) _ _ (by rw[l1];decide) (md 3 (by decide));have p1:=plus _ _ _ _ _ (by have:=aHm "zz" none (some (st%3));omega) (by rw[aLw,l4];omega) c1 t2;rw[aFq ((aKp (aCd d2)).trans (aFq (aJa p1)))];unfold nam;rw[if_pos hb];rfl
 ·rw[decide_eq_false hb] at d2
  rw[aB5 ((aPo (aCd d2)).trans rfl)];have c1:=cut "zyzy" (b2 aGs (b2 aHj (look 0) (con (.int 69))) (con (.int 4))) _ _ (by rw[l2];decide) (mf 69 4 (by decide) (by decide) (by decide));have c2:=cut "yzzy" (b2 aGs (b2 aHj (look 0) (con (.int 276))) (con (.int 4))) _ _ (by rw[l3];decide) (mf 276 4 (by decide) (by decide) (by decide));have i1:b2 gIx (con (.str "aXq 0~zB-c!_dEf.gH1i(jK")) (look 2) [some (.sh (.int st)),some (.sh (.int k)),some (.sh (.int ((5*k+st)%23)))]=ok (.str (chr ((5*k+st)%23).toNat)):=by
   refine aGt (x:= .str chs) (y:= .int ((5*k+st)%23)) rfl rfl ?_;show (if chs.length<=1000 then (match atI (L chs) ((5*k+st)%23) with | some c=>ok (D.str ⟨#[c]⟩) | none=>none) else none)=_;have ea:atI (L chs) ((5*k+st)%23)=some ((L chs).getD ((5*k+st)%23).toNat 0):=by
    have e:(5*k+st)%23=(((5*k+st)%23).toNat:Int):=by omega
    rw[e,Ze];exact aSb (bDe (by omega))
   rw[if_pos (by rw[l5];decide),ea];rfl
  have p1:=plus _ _ _ _ _ (by have:=aHm "zyzy" none (some (st/69%4));omega) (show (chr ((5*k+st)%23).toNat).length<=1000 from (show 1<=1000 by decide)) c1 i1;have p2:=plus _ _ _ _ _ (by rw[len_app];have:=aHm "zyzy" none (some (st/69%4));have e:(chr ((5*k+st)%23).toNat).length=1:=rfl;omega) (by have:=aHm "yzzy" none (some (st/276%4));omega) p1 c2;rw[aFq (aJa p2)];unfold nam;rw[if_neg hb];rfl
def fName:List D->M D
 | [.int st,.int k]=>if 0<=st/\st<2000/\0<=k/\k<1000 then ok (.str (nam st k)) else none
 | _=>none
theorem aYs: ∀ds r,fName ds=some r->ds.length=2:=by
 intro ds r h;unfold fName at h;split at h
 ·rfl
 ·cases h
theorem bA8 (N:List Str)(hN:N.length=3): ∀ds r,fName ds=some r->∃d,r= .ok d/\aBq (aR5 (aCz N ds))=ok d:=by
 intro ds r h;unfold fName at h;split at h
 ·rename_i st k
  split at h
  ·rename_i q
   cases h;refine⟨_,rfl,?_⟩;have e0:aCz N [.int st,.int k]=[some (.sh (.int st)),some (.sh (.int k)),none]:=by unfold aCz;rw[hN];rfl
   rw[e0];exact bEu q.1 q.2.1 q.2.2.1 q.2.2.2
  ·cases h
 ·cases h
theorem bB0 {st k:Int}(h:0<=st/\st<2000/\0<=k/\k<1000):fName [.int st,.int k]=ok (.str (nam st k)):=if_pos h
theorem bDg {ns:List Int}{rest:Rho}(k:Nat):app fAt (aAh (look 0) (aAh (con (.int (k:Int))) aBf)) (some (.sh (.lst (ns.map D.int)))::rest)=ok (.int (atZ ns k)):=by
 rw[aC7 (aAp (d:= .lst (ns.map D.int)) rfl (aAp (d:= .int (k:Int)) rfl aBe))];exact bB1 ns k
theorem aXi {f g:Rho->M D}{ρ:Rho}{i j:Int}(h1:f ρ=ok (.int i))(h2:g ρ=ok (.int j))(hj:0<j):b2 aGs f g ρ=ok (.int (i%j)):=by
 refine aGt h1 h2 ?_;show (if 0<j then ok (D.int (i%j)) else none)=_;rw[if_pos hj]
theorem aTo {f g:Rho->M D}{ρ:Rho}{i j:Int}(h1:f ρ=ok (.int i))(h2:g ρ=ok (.int j)):b2 gEq f g ρ=ok (.bl (decide (i=j))):=aGt h1 h2 rfl
theorem bAi {i:Nat}{f:Rho->M D}{ρ:Rho}{d:D}(h:f ρ=ok d)(hd:d.imm=true):aLu i f ρ=some (.nx (ρ.set i (some (.sh d)))):=by rw[aWp h,aKv hd]
theorem aOc {i:Nat}{f:Rho->M D}{ρ:Rho}{d:D}(h:f ρ=ok d)(hf:free ρ=ρ):aLu i f ρ=some (.nx (ρ.set i (some (.sh d)))):=by
 rw[aWp h];unfold aMh;split
 ·rfl
 ·rw[hf]
theorem aQn {k:Nat}{fe:Rho->M D}{ρ:Rho}{g:Nat->D}: ∀(l:List Nat),(∀j∈l,fe (ρ.set k (some (.sh (.int (j:Int)))))=ok (g j)/\(g j).imm=true)->
  aOz [k] h1 (fun _=>ok true) fe (l.map fun (j:Nat)=>D.int (0+(j:Int))) ρ=ok (l.map g)
 | [],_=>rfl
 | x::l,h=>by
  have ih:=aQn (g:=g) l (fun y hy=>h y (Qw _ hy));obtain⟨e1,e2⟩:=h x Qt;rw[Q9];unfold aOz;show (match fe (ρ.set k (some (.sh (.int (0+(x:Int)))))) with
    | some (.ok r)=>if r.imm=true then bnd (aOz [k] h1 (fun _=>ok true) fe (l.map fun (j:Nat)=>D.int (0+(j:Int))) ρ) fun rs=>ok (r::rs) else none
    | _=>none)=_
  rw[Int.zero_add,e1,ih];show (if (g x).imm=true then bnd (ok (l.map g)) fun rs=>ok (g x::rs) else none)=_;rw[if_pos e2];rfl
theorem bFy {m k n:Nat}{f:Rho->M D}{fe:Rho->M D}{ρ:Rho}{g:Nat->D}(hf:f ρ=ok (.int (n:Int)))(hn:n<=1000000)(h: ∀j,j<n->fe ((ext m (free ρ)).set k (some (.sh (.int (j:Int)))))=ok (g j)/\(g j).imm=true):
  cmp m (itR f) [k] h1 (fun _=>ok true) fe ρ=ok (.lst ((Yb n).map g)):=by
 have e:itR f ρ=ok (rng 0 n):=by
  unfold itR;rw[hf];rw[aDd];simp only[bJ1];rw[if_pos ⟨by omega,by omega⟩,Ze]
 unfold cmp;rw[e,aDd,if_pos (by unfold rng;rw[Qv,Y2];exact hn)];unfold rng;rw[aQn (Yb n) (fun j hj=>h j (List.mem_range.mp hj))];rfl
def nms (n:Nat)(st:Int):List Str:=(Yb n).map fun (j:Nat)=>nam st (j:Int)
theorem bEt (n:Nat)(st:Int):(nms n st).length=n:=by unfold nms;rw[Qv,Y2]
theorem bHy (n:Nat)(hn:n<=23)(st:Int):(nms n st).Nodup:=by
 unfold nms;unfold List.Nodup;rw[List.pairwise_map];refine List.Pairwise.imp_of_mem (R:=(· < ·)) ?_ List.pairwise_lt_range;intro a b ha hb hab e;rw[List.mem_range] at ha hb;have:=bEv (st:=st) (k:=a) (k':=b) (by omega) (by omega) (by omega) (by omega) e;omega
theorem bHx (n:Nat)(st:Int): ∀x∈nms n st,Sh x:=fun x hx=>by
 obtain⟨j,_,rfl⟩:=List.mem_map.mp hx;exact (bH0 st j).1
theorem bA7 {m k n:Nat}{f fs:Rho->M D}{ρ:Rho}{st:Int}(hf:f ρ=ok (.int (n:Int)))(hn:n<=1000)(hst:0<=st/\st<2000)(hs: ∀v,fs ((ext m (free ρ)).set k v)=ok (.int st))(hk:k<(ext m (free ρ)).length):
  cmp m (itR f) [k] h1 (fun _=>ok true) (app fName (aAh fs (aAh (look k) aBf))) ρ=ok (.lst ((nms n st).map D.str)):=by
 rw[bFy (g:=fun j=> .str (nam st (j:Int))) hf (by omega) (fun j hj=>⟨?_,rfl⟩)]
 ·unfold nms
  rw[List.map_map];rfl
 ·have lk:look k ((ext m (free ρ)).set k (some (.sh (.int (j:Int)))))=ok (.int (j:Int)):=by
   unfold look;rw[Q1 hk];rfl
  rw[aC7 (aAp (hs _) (aAp lk aBe))];exact bB0 ⟨hst.1,hst.2,by omega,by omega⟩
def Pw (m:Nat):Prop:=m=8\/m=16\/m=32\/m=64\/m=128
theorem above {n:Nat}(h:n<128):Pw (Z2 n)/\n<Z2 n:=by
 have g:(Yb 128).all (fun n=>decide ((Z2 n=8\/Z2 n=16\/Z2 n=32\/Z2 n=64\/Z2 n=128)/\n<Z2 n))=true:=by decide+kernel
 rw[Uk] at g;have:=g n (List.mem_range.mpr h);rw[decide_eq_true_eq] at this;exact this
theorem aR4 {g:D->M D}{f:Rho->M D}{ρ:Rho}{d:D}{r:M D}(h:f ρ=ok d)(h2:g d=r):f1 g f ρ=r:=by unfold f1;rw[h];exact h2
theorem aX5 {ds:List D}{j:Nat}{d:D}(h:ds[j]? =some d):gIx (.tup ds) (.int (j:Int))=ok d:=by
 show (match atI ds (j:Int) with | some d=>ok d | none=>none)=_;rw[aSb h]
theorem aWc {f g:Rho->M D}{ρ:Rho}{i j:Int}(h1:f ρ=ok (.int i))(h2:g ρ=ok (.int j)):b2 bBx f g ρ=ok (.int (i-j)):=aGt h1 h2 rfl
theorem aP1 {G:D->Rho->Option Rho}{F:Rho->Option Out}{d:D}{ds:List D}{ρ ρ1 ρ2:Rho}(h1:G d ρ=some ρ1)(h2:F ρ1=some (.nx ρ2)):loop G F (d::ds) ρ=loop G F ds ρ2:=by
 (conv=>lhs;unfold loop)
 rw[h1]
 dsimp only
 rw[h2]
theorem aWa {xs:List Str}(hn:xs.Nodup)(hl:xs.length<=2000):toS (tS xs)=ok (.set xs):=by
 show (match bAa (xs.map D.str) with | some xs=>if xs.length<=2000 then ok (D.set (aFj xs)) else none | none=>none)=_;rw[aSs];show (if xs.length<=2000 then ok (D.set (aFj xs)) else none)=_;rw[if_pos hl,aP0 hn]
theorem bGq (xs:List Str)(hl:xs.length<=2000):toS (.lst (xs.map D.str))=ok (.set (aFj xs)):=by
 show (match bAa (xs.map D.str) with | some xs=>if xs.length<=2000 then ok (D.set (aFj xs)) else none | none=>none)=_;rw[aSs];show (if xs.length<=2000 then ok (D.set (aFj xs)) else none)=_;rw[if_pos hl]
def bLo:List D->List D->List D
 | a::as,b::bs=> .tup [a,b]::bLo as bs
 | _,_=> []
section
variable {X:Cx}{B:Hp}{a b:Expr}{fa fb:Rho->M D}{pos p:Pos}{elts:List Expr}{ct:Nat}{tp:Pos}
def itZ (fa fb:Rho->M D):Rho->M (List D):=fun ρ=>bnd (aAh fa (aAh fb aBf) ρ) fun ds=>match ds with
 | [x,y]=>bnd (itD x) fun as=>bnd (itD y) fun bs=>ok (bLo as bs)
 | _=>none
end
def bBb:List Str->List Str->Bool
 | [],[]=>false
 | [],_::_=>true
 | _::_,[]=>false
 | x::xs,y::ys=>if x=y then bBb xs ys else decide (x.cps.toList<y.cps.toList)
def keyOf:D->Option Key
 | .int i=>some (.inl i)
 | .str x=>some (.inr x)
 | _=>none
def keysOf:List D->Option (List Key)
 | []=>some []
 | d::ds=>match keyOf d,keysOf ds with | some k,some ks=>some (k::ks) | _,_=>none
theorem bE9 {K:Qb}{H:Hp}{d:D}{v:V}{k:Key}(i:Is K H d v)(h:keyOf d=some k):v=kV k:=by
 cases i<;>first |(cases h;done) |(cases h;rfl)
section
variable {κ:Type}[DecidableEq κ]
def aSo (kvs:List (κ×D))(k:κ):Option D:=(kvs.find? fun kv=>decide (kv.1=k)).map (·.2)
end
open Classical in
def pD (p:List Str×Int):D:= .tup [.tup (p.1.map D.str),.int p.2]
section
variable {X:Cx}{B:Hp}{e:Expr}{fa:Rho->M D}{pos p apos cpos:Pos}{x:Str}{i:Nat}
def bJ5 (K:Qb):V->List V->Hp->VK->Prop:=fun x vs H Q=> ∃l b xs zs,x= .ref l/\vs=[.ref b]/\H l=some (.lst xs)/\(SqL K H b zs\/SqT K H b zs)/\xs.length+zs.length<=Qq/\Q .non (upd H l (.lst (xs++zs)))
theorem bEz:MtM X "list.extend" (bJ5 X.K):=by
 intro pins s σ H x vs v us Q I rx rv h;obtain⟨l,b,xs,zs,rfl,rfl,hH,hB,hz,q⟩:=h;cases rx;obtain⟨u,rfl,ru⟩:=rv.one;cases ru;obtain⟨z,its,n,r,hl,e⟩:=I.bL1 hH;obtain⟨its2,r2,o2,n2,ho2,hc2,hd2⟩: ∃its2:List Qd,Vals zs its2/\∃(o2:Obj) (n2:Nat),s.heap.get? b=some o2/\(o2.cls= .type "list"\/o2.cls= .type "tuple")/\o2.data= .seq its2.toArray n2:=by
  rcases hB with hB | hB
  ·obtain⟨its2,r2,⟨o2,n2,ho2,hc2,_,hd2⟩,z2⟩:=I.list hB
   exact⟨its2,r2,o2,n2,ho2,.inl hc2,hd2⟩
  ·obtain⟨its2,r2,⟨o2,ho2,hc2,n2,hd2⟩,z2⟩:=I.tuple hB
   exact⟨its2,r2,o2,n2,ho2,.inr hc2,hd2⟩
 have hl2:=r2.length;have hsz:its.toArray.size+its2.toArray.size<=Qq:=by rw[Qo,Qo];omega
 refine Zn F.slot_list_extend ⟨_,e,rfl⟩ F.entry_list_extend ?_ (F.args_list_extend_2 _ _);show Qm _ _ (Yu (.ref l) (.ref b) .none) _ _ _;unfold Yu;have ht:(Value.type "list"==Value.type "list")=true:=by rfl
 have ht2:(Value.type "tuple"==Value.type "tuple")=true:=by rfl
 rcases hc2 with hc2 | hc2
 ·refine Qc (wpAny_typeOf (T:="list") ⟨o2,ho2,hc2⟩ ?_)
  rw[if_pos (by rw[ht];simp)];refine Qc (listItems_at ho2 hd2 (Qc (listItems_at e rfl ?_)));rw[if_neg (by rw[aS7 hsz,Bool.and_false];exact Qu)];refine Qc (listUpdate_at e rfl (Qe ⟨_,rfl,?_⟩) (by rw[Qo];omega) (by rw[Uc];omega));refine⟨.non,_,I.bKz (its':=its++its2) hH e (by simp) (r.append r2) ?_,rfl,q⟩;rw[Qx];omega
 ·refine Qc (wpAny_typeOf (T:="tuple") ⟨o2,ho2,hc2⟩ ?_)
  rw[if_pos (by rw[ht2];simp)];refine Qc (listItems_at ho2 hd2 (Qc (listItems_at e rfl ?_)));rw[if_neg (by rw[aS7 hsz,Bool.and_false];exact Qu)];refine Qc (listUpdate_at e rfl (Qe ⟨_,rfl,?_⟩) (by rw[Qo];omega) (by rw[Uc];omega));refine⟨.non,_,I.bKz (its':=its++its2) hH e (by simp) (r.append r2) ?_,rfl,q⟩;rw[Qx];omega
def aUf (i:Nat)(g:Rho->M (List D)):Rho->Option Out:=fun ρ=>match ρ[i]? with
 | some (some (.own ds))=>lft (g ρ) ρ fun as=>(match as with
  | [.lst es]=>if aIj es=true/\ds.length+es.length<=100000 then some (.nx (ρ.set i (some (.own (ds++es))))) else none
  | [.tup es]=>if aIj es=true/\ds.length+es.length<=100000 then some (.nx (ρ.set i (some (.own (ds++es))))) else none
  | _=>none)
 | _=>none
theorem aRg (hN:X.N[i]? =some x)(hv:Vis X.env.scope x)(ha:PD X B e fa)(hs:aG1 e=true:=by rfl)(hline:(apos.endLine==cpos.line)=true:=by rfl)
  (hsw:swapsWith (.Call (.Attribute (.Name x p) "extend" apos) [e] [] cpos) none pos.line X.env=pure false:=by rfl)
  (hd:(x==("__debug__":Str))=false:=by decide) (hcd:(x==("__classdict__":Str))=false:=by decide):
  PDS X B (.Expr (.Call (.Attribute (.Name x p) "extend" apos) [e] [] cpos) pos) (aUf i (aAh fa aBf)):=by
 refine PS.of (aLy (bKj PySem.F.plainAttrs_list PySem.F.slot_list_extend PySem.F.type_list_extend bEz (aE8 hN hv hd hcd) (aAa ha aAk (aBu hs)) (hbase:=rfl) (hfew:=by rw[aPj hs];rfl) (hline:=hline) (hs:=aBu hs) (hplain:=rfl)) hsw) fun E σ H h=> ?_
 obtain⟨ρ,r1,h⟩:=h;unfold aUf at h;split at h
 ·rename_i ds q
  obtain⟨O,h1,ho,h2,hl,h3⟩:=(show Rel X.K B ρ σ H from r1);obtain⟨a,vs,z1,z2,z3,z4⟩:=h3 i _ q;refine⟨.ref a,z2,.inl ⟨rfl,_,SqL.of z3⟩,ρ,r1,(aD3 r1 h).imp fun as k1 us H1 e1 i1=> ?_⟩;have ho1:=ho.mono e1;have z4':=z4.mono (Off.mono e1 (O:=O));split at k1
  ·rename_i es
   split at k1
   ·rename_i hh
    cases i1 with
    | cons id1 rest=>
     cases rest;cases id1 with
     | lst hq rr=>
      have il:=aOm ho1 hh.1 rr;refine⟨a,_,vs,_,rfl,rfl,e1 _ _ z3,.inl hq,?_,k1 _ _ (Rel.aW7 O h1 ho1 (h2.trans (Off.mono e1)) hl (fun j sv qj=>(h3 j sv qj).mono e1) q z1 z2 (z4'.append il))⟩;rw[<-z4.length,<-rr.length];exact Zi hh.2 (by decide)
   ·exact Qg k1
  ·rename_i es
   split at k1
   ·rename_i hh
    cases i1 with
    | cons id1 rest=>
     cases rest;cases id1 with
     | tup hq rr=>
      have il:=aOm ho1 hh.1 rr;refine⟨a,_,vs,_,rfl,rfl,e1 _ _ z3,.inr hq,?_,k1 _ _ (Rel.aW7 O h1 ho1 (h2.trans (Off.mono e1)) hl (fun j sv qj=>(h3 j sv qj).mono e1) q z1 z2 (z4'.append il))⟩;rw[<-z4.length,<-rr.length];exact Zi hh.2 (by decide)
   ·exact Qg k1
  ·exact Qg k1
 ·exact Qg h
end
theorem ar1 (us:List Qd)(hl:us.length=1): ∃a,us=[a]:=by
 cases us with
 | nil=>exact absurd hl (by simp)
 | cons a us=>
  cases us with
  | nil=>exact⟨a,rfl⟩
  | cons z us=>exact absurd hl (by simp)
theorem ar2 (us:List Qd)(hl:us.length=2): ∃a b,us=[a,b]:=by
 cases us with
 | nil=>exact absurd hl (by simp)
 | cons a us=>
  cases us with
  | nil=>exact absurd hl (by simp)
  | cons b us=>
   cases us with
   | nil=>exact⟨a,b,rfl⟩
   | cons z us=>exact absurd hl (by simp)
theorem ar3 (us:List Qd)(hl:us.length=3): ∃a b c,us=[a,b,c]:=by
 cases us with
 | nil=>exact absurd hl (by simp)
 | cons a us=>
  cases us with
  | nil=>exact absurd hl (by simp)
  | cons b us=>
   cases us with
   | nil=>exact absurd hl (by simp)
   | cons c us=>
    cases us with
    | nil=>exact⟨a,b,c,rfl⟩
    | cons z us=>exact absurd hl (by simp)
end L2.PU
namespace L2.HD
open PySem PySem.W
def q5 (v a b c d e:Nat):List Qd:=[(.ref a),(.bool true),(vi v),(.ref b),.none,(.ref c),(.ref d),(.ref e)]
def q3 (v a b e:Nat):List Qd:=[(.ref a),(.bool true),(vi v),(.ref b),.none,.none,.none,(.ref e)]
def okl (x:Str)(a b c d:Nat):Obj:=⟨(.type "type"),none,.cls ⟨x,[(.type "object")],[(.ref a),(.type "object")],b,x,true,[],[],false,none,false⟩,#[none,none,some (vs x c),some (vs x d),some (.builtin "object.__new__"),some (.bool true)]⟩
def gdd (a b:Nat):Obj:=ofd "getset_descriptor" [(vs "__dict__" a),(.ref b),(.builtin "function.__dict__"),(.builtin "function.__dict__#set")]
def gwd (a b:Nat):Obj:=ofd "getset_descriptor" [(vs "__weakref__" a),(.ref b),(.builtin "ExceptionGroup.__weakref__"),.none]
section
variable {K:Frag}{x q:Str}{st:Stmt}{f:Addr}{p1 p2 p3 p4:Str}
theorem fo1 (m:Str)(mt c:Nat)(l:K.lookup f=some (of x q st m mt c):=by kernel_rfl)(hc:codeIn K (.ref c) q=true:=by kernel_rfl)(hk:keepIn K (.ref f)=true:=by kernel_rfl)
  (b: ∀(kV doc pm:Qd) (an:Option Addr) (cdv ct u:Qd),bindArgs (fnOf x q (aD7 st) (aCa st) (aAm st) .none kV doc pm an cdv ct) ⟨[u],[]⟩=pure ([p1].zip [u]):=by intros;rfl): ∃fd,Fun K x q st f fd/\Binds K fd [p1] []:=
 fo [p1] l hc hk fun _ _ _ _ _ _ us hl=>by obtain⟨_,rfl⟩:=PU.ar1 us hl;exact b ..
theorem fo2 (m:Str)(mt c:Nat)(l:K.lookup f=some (of x q st m mt c):=by kernel_rfl)(hc:codeIn K (.ref c) q=true:=by kernel_rfl)(hk:keepIn K (.ref f)=true:=by kernel_rfl)
  (b: ∀(kV doc pm:Qd) (an:Option Addr) (cdv ct u v:Qd),bindArgs (fnOf x q (aD7 st) (aCa st) (aAm st) .none kV doc pm an cdv ct) ⟨[u,v],[]⟩=pure ([p1,p2].zip [u,v]):=by intros;rfl): ∃fd,Fun K x q st f fd/\Binds K fd [p1,p2] []:=
 fo [p1,p2] l hc hk fun _ _ _ _ _ _ us hl=>by obtain⟨_,_,rfl⟩:=PU.ar2 us hl;exact b ..
theorem fo3 (m:Str)(mt c:Nat)(l:K.lookup f=some (of x q st m mt c):=by kernel_rfl)(hc:codeIn K (.ref c) q=true:=by kernel_rfl)(hk:keepIn K (.ref f)=true:=by kernel_rfl)
  (b: ∀(kV doc pm:Qd) (an:Option Addr) (cdv ct u v w:Qd),bindArgs (fnOf x q (aD7 st) (aCa st) (aAm st) .none kV doc pm an cdv ct) ⟨[u,v,w],[]⟩=pure ([p1,p2,p3].zip [u,v,w]):=by intros;rfl): ∃fd,Fun K x q st f fd/\Binds K fd [p1,p2,p3] []:=
 fo [p1,p2,p3] l hc hk fun _ _ _ _ _ _ us hl=>by obtain⟨_,_,_,rfl⟩:=PU.ar3 us hl;exact b ..
end
end L2.HD
namespace L2.PU
open PySem PySem.Spec PyProof.Rows PySem.W
structure Tot (n:Nat)(lt:Nat->Nat->Bool):Prop where
 ir: ∀i,lt i i=false
 tr: ∀i j k,lt i j=true->lt j k=true->lt i k=true
 to: ∀i j,i<n->j<n->i≠j->lt i j=false->lt j i=true
end L2.PU
namespace L2.PU
open PySem PySem.Spec PyProof.Rows
def N1 (p:Keyed):Int:=numOf p.1
def SL (l:List Keyed):Prop:=l.Pairwise fun p q=>N1 p<=N1 q
def bDh:Nat->List (Nat×Nat×Nat)->List (List Keyed)->Prop
 | _,[],[]=>True
 | s,(b,n,_)::p,r::R=>b=s/\n=r.length/\0<n/\SL r/\bDh (s+n) p R
 | _,_,_=>False
structure TS (a0:List Keyed)(rest:List Keyed)(lo:Nat)(st:SortSt):Prop where
 kind:kindOf st=oneType'
 fail:failedOf st=none
 runs: ∃R,(arrOf st).toList=R.flatten++rest/\R.flatten.length=lo/\bDh 0 (pendingOf st).toList R
 perm:(arrOf st).toList.Perm a0
def stand (t:Zw)(h:Int):Nat->SetTable.Probe
 | 0=>t.probeStart h
 | n+1=>t.advance (stand t h n)
def bNe:D->D->M D
 | .str i,.str j=>ok (.bl (!decide (j.cps.toList<i.cps.toList)))
 | _,_=>none
abbrev Sm:=List (List Str×Int)
theorem bE5 (a b:Str):decide (a.cps.toList<b.cps.toList)= !leS b a:=by
 rw[Jd,decide_eq_true_eq,Bool.not_eq_true',<-Bool.not_eq_true,aL5];exact List.not_le.symm
theorem aXo (a:Str):decide (a.cps.toList<a.cps.toList)=false:=by
 rw[bE5];have:=aP4 a a;rw[Bool.or_self] at this;rw[this];rfl
theorem bCx {a b c:Str}(h1:decide (a.cps.toList<b.cps.toList)=true)(h2:decide (b.cps.toList<c.cps.toList)=true):decide (a.cps.toList<c.cps.toList)=true:=
 decide_eq_true (List.lt_trans (of_decide_eq_true h1) (of_decide_eq_true h2))
theorem aXs: ∀(xs:List Str),bBb xs xs=false
 | []=>rfl
 | x::xs=>by unfold bBb;rw[if_pos rfl];exact aXs xs
theorem bC0: ∀{xs ys zs:List Str},bBb xs ys=true->bBb ys zs=true->bBb xs zs=true
 | [],[],_,h,_=>by cases h
 | [],_::_,[],_,h=>by cases h
 | [],_::_,_::_,_,_=>rfl
 | _::_,[],_,h,_=>by cases h
 | _::_,_::_,[],_,h=>by cases h
 | x::xs,y::ys,z::zs,h1,h2=>by
  unfold bBb at h1 h2⊢;by_cases e1:x=y
  ·subst e1
   rw[if_pos rfl] at h1;by_cases e2:x=z
   ·subst e2
    rw[if_pos rfl] at h2⊢;exact bC0 h1 h2
   ·rw[if_neg e2] at h2⊢
    exact h2
  ·rw[if_neg e1] at h1
   by_cases e2:y=z
   ·subst e2
    rw[if_neg e1];exact h1
   ·rw[if_neg e2] at h2
    have t:=bCx h1 h2;rw[if_neg (fun e=>by rw[e,aXo] at t;cases t)];exact t
def sD (l:Sm):D:= .tup (l.map pD)
theorem bHm (p:List Str×Int):(pD p).imm=true:=by
 show ((tS p.1).imm&&((D.int p.2).imm&&true))=true;rw[bIj];rfl
theorem aTs {α:Type}{k:Nat}{fe:Rho->M D}{ρ:Rho}{e:α->D}{g:α->D}: ∀(l:List α),(∀x∈l,fe (ρ.set k (some (.sh (e x))))=ok (g x)/\(g x).imm=true)->aOz [k] h1 (fun _=>ok true) fe (l.map e) ρ=ok (l.map g)
 | [],_=>rfl
 | x::l,h=>by
  obtain⟨e1,e2⟩:=h x Qt;have ih:=aTs (g:=g) l fun p hp=>h p (Qw _ hp)
  rw[Q9,Q9];unfold aOz;show (match fe (ρ.set k (some (.sh (e x)))) with
    | some (.ok r)=>if r.imm=true then bnd (aOz [k] h1 (fun _=>ok true) fe (l.map e) ρ) fun rs=>ok (r::rs) else none
    | _=>none)=_
  rw[e1,ih];show (if (g x).imm=true then bnd (ok (l.map g)) fun rs=>ok (g x::rs) else none)=_;rw[if_pos e2];rfl
theorem bFz {α:Type}{m k:Nat}{it:Rho->M (List D)}{fe:Rho->M D}{ρ:Rho}{l:List α}{e:α->D}{g:α->D}(hi:it ρ=ok (l.map e))(hl:l.length<=1000)
  (h: ∀x∈l,fe ((ext m (free ρ)).set k (some (.sh (e x))))=ok (g x)/\(g x).imm=true):cmp m it [k] h1 (fun _=>ok true) fe ρ=ok (.lst (l.map g)):=by
 unfold cmp;rw[hi,aDd,if_pos (by rw[Qv];omega),aTs l h,aDd]
def r4:List Nat:=[0,1,2,3]
def L35:List (List Nat):=[[]]++(r4.map fun a=> [a])++(r4.flatMap fun a=>(r4.filter fun b=>decide (a<=b)).map fun b=> [a,b])++(r4.flatMap fun a=>(r4.filter fun b=>decide (a<=b)).flatMap fun b=>(r4.filter fun c=>decide (b<=c)).map fun c=> [a,b,c])
theorem w1: ∀a:Fin 4,(L35.any fun l=>l.isPerm [a.1])=true:=by decide
theorem w2: ∀a b:Fin 4,(L35.any fun l=>l.isPerm [a.1,b.1])=true:=by decide
theorem w3: ∀a b c:Fin 4,(L35.any fun l=>l.isPerm [a.1,b.1,c.1])=true:=by decide
section
variable {K:Qb}{H:Hp}
theorem aYc {k:Key}: ∀{kvs:List (Key×D)} {vs:List (Key×V)},IsK K H kvs vs->(aSo kvs k=none/\aPb vs k=none)\/∃d v,aSo kvs k=some d/\aPb vs k=some v/\Is K H d v
 | _,_,.nil=> .inl ⟨rfl,rfl⟩
 | _,_,.cons (x:=x) (d:=d) (v:=v) i r=>by
  by_cases e:x=k
  ·exact .inr ⟨d,v,by simp[aSo,e],by simp[aPb,e],i⟩
  ·have h1: ∀ds,aSo ((x,d)::ds) k=aSo ds k:=fun ds=>by simp[aSo,Z0,e]
   have h2: ∀ds,aPb ((x,v)::ds) k=aPb ds k:=fun ds=>by simp[aPb,Z0,e]
   rw[h1,h2];exact aYc r
end
section
variable {X:Cx}{B:Hp}{e a b:Expr}{fa fb fk:Rho->M D}{pos pos' p pos2 cpos apos spos:Pos}{x:Str}{i j:Nat}
theorem bGi.ofK {K:Qb}{H:Hp}{kvs:List (Key×D)}{v:V}{kd:D}{u:V}{key:Key}(i:Is K H (.dk kvs) v)(ik:Is K H kd u)(hk:keyOf kd=some key): ∃a vs,v= .ref a/\Rd H a (.dK vs)/\IsK K H kvs vs/\u=kV key/\bGi H a u (aPb vs key):=by
 cases i with
 | dk hh rr=>
  have e:=bE9 ik hk;subst e;exact⟨_,_,rfl,hh,rr,rfl,.inl ⟨_,_,hh,rfl,rfl⟩⟩
def aTl (neg:Bool):D->D->M D:=fun k d=>match d,keyOf k with
 | .dk kvs,some key=>ok (.bl (if neg then !(aSo kvs key).isSome else (aSo kvs key).isSome))
 | _,_=>none
def bJ6 (neg:Bool):R2:=fun x y H Q=> ∃a o,y= .ref a/\bGi H a x o/\Q (.bl (if neg then !o.isSome else o.isSome)) H
theorem aQi (neg:Bool):aHn (aTl neg):=by
 intro x y c h;unfold aTl at h;split at h<;>cases h
theorem bG0 (neg:Bool):aQx X (bJ6 neg) (aTl neg):=by
 intro H x y dx dy d Q ix iy e q;unfold aTl at e;split at e
 ·rename_i kvs key hk
  cases e;obtain⟨a,vs,rfl,g1,g2,g3,g4⟩:=bGi.ofK iy ix hk;have hs:(aSo kvs key).isSome=(aPb vs key).isSome:=by
   rcases aYc (k:=key) g2 with⟨z1,z2⟩ |⟨d',v',z1,z2,i'⟩<;>rw[z1,z2]<;>rfl
  refine⟨a,_,rfl,g4,?_⟩;rw[<-hs];exact q _ H (Same.refl H) (.bl _)
 ·cases e
theorem bHt {k:Nat}(hr:aEx k X.A):OpR X (Yl .In) (bJ6 false):=by
 intro pins s σ H x y v u Q I rx ry h;obtain⟨a,o,rfl,g,q⟩:=h;cases ry;exact bNf (bFe hr) I g rx fun s' I'=>aBh I' q rfl
theorem aW8 {k:Nat}(hr:aEx k X.A):OpR X (Yl .NotIn) (bJ6 true):=by
 intro pins s σ H x y v u Q I rx ry h;obtain⟨a,o,rfl,g,q⟩:=h;cases ry;exact bFw (bFe hr) I g rx fun s' I'=>aBh I' q rfl
theorem aW0 {k:Nat}(hr:aEx k X.A)(ha:PD X B a fa)(hb:PD X B b fb)(hm:Yt .In b=false:=by rfl):PDT X B (.Compare a [.In] [b] pos) (aA9 (b2 (aTl false) fa fb)):=aFr (bHt hr) (bG0 false) (aQi false) ha hb hm
theorem aNs {k:Nat}(hr:aEx k X.A)(ha:PD X B a fa)(hb:PD X B b fb)(hm:Yt .NotIn b=false:=by rfl):PDT X B (.Compare a [.NotIn] [b] pos) (aA9 (b2 (aTl true) fa fb)):=aFr (aW8 hr) (bG0 true) (aQi true) ha hb hm
end
section
variable {X:Cx}{B:Hp}{a b:Expr}{fa fb:Rho->M D}{pos:Pos}
def bKt:D->M D
 | .int i=>ok (.int (-i))
 | _=>none
theorem bHl (ha:PD X B a fa):PD X B (.UnaryOp .USub a pos) (f1 bKt fa):=by
 refine PE.of (bKg bGm ha) fun σ H Q h=> ?_
 obtain⟨ρ,r1,h⟩:=h;refine⟨ρ,r1,(Res.bind h).imp fun d q1 v H1 e1 i1=> ?_⟩;cases i1 with
 | int i=>exact⟨i,rfl,q1 _ H1 e1 (.int _)⟩
 | _=>exact Qg q1
end
section
variable {X:Cx}{B:Hp}{a b:Expr}{fa fb:Rho->M D}{pos:Pos}
variable {e:Expr}{es:List Expr}{ga:Rho->M (List D)}
def bIz:Rho->M D:=fun _=>ok (.dk [])
end
def OkF (n:Nat)(N:List Str)(den:Rho->Option Out)(F:List D->M D):Prop:=(∀ds r,F ds=some r->ds.length=n)/\∀ds r,F ds=some r->∃d,r= .ok d/\aBq (den (aCz N ds))=ok d
def OkI (n:Nat)(C:Addr)(N:List Str)(den:Rho->Option Out)(F:List D->M (List (Str×D))):Prop:=(∀ds r,F ds=some r->ds.length+1=n)/\∀ds r a dx,F ds=some r->∃fs,r= .ok fs/\aJz a C dx (den (aPc N a C dx ds))=ok fs
theorem aQ4 {n:Nat}{N:List Str}{den:Rho->Option Out}:OkF n N den (aVp n fun ds=>aBq (den (aCz N ds))):=⟨aZ7,bGk⟩
end L2.PU
namespace L2.PU
open PySem PySem.Spec PyProof.Rows Builtin.Getset_descriptor
structure Own (K:Qb)(D:Addr):Prop where
 ga:Zo K (.ref D) "__getattribute__"=some (some (.builtin "BaseException.__getattribute__"))
 gh:Zo K (.ref D) "__getattr__"=some none
 ha:Zo K (.ref D) "__class__"=some (some (.builtin "object.__class__"))
 hn:PySem.W.specialIn K (.builtin "object.__class__") "__get__"=some (some (.builtin "getset_descriptor.__get__"))
 ht:PySem.W.takesIn K (.builtin "object.__class__")=some true
 hm:PySem.W.mroIn K D (.type "object")=some true
 hb:PySem.W.mroIn K D (.type "BaseException")=some true
 hc:(PySem.W.clsIn K D).isSome=true
section
variable {prog:Qr}{w:Q2}{A:Za}{E:Qd->Qf->Prop}{K:Qb}{a C:Addr}
theorem bB2 {M:Model}{h:Heap}(o:Own K C)(X:K.In h):Zv M h (Builtin.ObjectAttr.find (.ref a) (.ref C) "__class__") (.bind (.builtin "getset_descriptor.__get__") (.builtin "object.__class__")):=by
 have L1:=Jg (M:=M) X o.ha;have L2:=PySem.W.looks_specialIn (M:=M) X o.hn;have L3:=PySem.W.looks_takesIn (M:=M) X o.ht;refine L1.andThen (L2.andThen ?_);exact (show Zv M h (Builtin.ObjectAttr.dataDescriptor? (some (.builtin "object.__class__")) (some (.builtin "getset_descriptor.__get__"))) (some (.builtin "getset_descriptor.__get__",.builtin "object.__class__")) from L3.andThen .now).andThen (PySem.W.Looks.tag .now)
theorem bFp {s:Qf}{tp:Qd}{R:Result->Qf->Prop}(o:Own K C)(X:K.In s.heap)(e:excAt a C s.heap)(h:R (.ok (.ret (.ref C))) s):codeAny (Ql prog w) A (.call (.builtin "getset_descriptor.__get__") ⟨[.builtin "object.__class__",.ref a,tp],[]⟩) R s:=by
 obtain⟨hh,g,d,t,os⟩:=s;obtain⟨ob,ho,hc⟩:=e;have L0:Zv (Ql prog w) hh (typeOf (.ref a)) (.ref C):=hc▸(Jb ho).andThen .now;have L1:=U0 (M:=Ql prog w) X o.hm;have LI:Zv (Ql prog w) hh (isInstance (.ref a) (.type "object")) true:=L0.andThen L1;refine codeAny_call_builtin PySem.W.KF.slot_gs.plain PySem.W.KF.entry_gs (PySem.W.KF.slot_gs.check _ _ _ _ _ _ _ _ PySem.W.KF.type_class (PySem.W.KF.args_gs _ _ _) ?_);unfold Builtin.«getset_descriptor.__get__» descrGet;rw[PySem.W.dga_obj];refine Qc (Qe ?_);unfold descrGetter descrCheckInstance descrNameAndClass;simp only[PySem.W.KF.owner_class]
 repeat lk
 refine⟨Code.quiet_builtin _ (by decide+kernel),Y3 PySem.W.KF.entry_class ?_⟩;unfold Builtin.«object.__class__» shownTypeOf
 repeat lk
 exact h
theorem bFq {s:Qf}{Q:Option Qd->Qf->Prop}(o:Own K C)(X:K.In s.heap)(e:excAt a C s.heap)(h:Q (some (.ref C)) {s with toks:=s.toks+1}):Qm (Ql prog w) A (getAttr? (.ref a) "__class__") Q E s:=by
 obtain⟨hh,g,d,t,os⟩:=s;obtain⟨ob,ho,hc⟩:=e;have L0:Zv (Ql prog w) hh (typeOf (.ref a)) (.ref C):=hc▸(Jb ho).andThen .now;have L1:=Jg (M:=Ql prog w) X o.ga;have L2:=Jg (M:=Ql prog w) X o.gh;have L3:=bB2 (M:=Ql prog w) (a:=a) o X;unfold getAttr? getAttrBy? getAttrBy;refine Qc (wpAny_mkText (Qc (wpAny_attempt (Z8 (Qc (L0.at (Qc (L1.at ?_))))))));show Qm _ _ (getAttrByItsOwn _ _ _ _ _ _) _ _ _;unfold getAttrByItsOwn;refine Qc (m:=hookBefore (.ref C)) (L2.at ?_);refine Qc (wpAny_attempt (Z8 ?_));show Qm _ _ (boundAndCalled _ _ _) _ _ _;unfold boundAndCalled;rw[F.excAttr_ValueError.ga.bind (.ref a)];refine Qc (Qe ?_);have L4:=U0 (M:=Ql prog w) X o.hb;have LI:Zv (Ql prog w) hh (isInstance (.ref a) (.type "BaseException")) true:=L0.andThen L4;refine wpAny_call (codeAny_call_builtin F.excAttr_ValueError.ga.plain F.entry_bexc_ga ?_);have kd:builtinKind "BaseException.__getattribute__"=some .slot:=by decide+kernel
 have sp:splitId "BaseException.__getattribute__"=some ("BaseException","__getattribute__"):=by decide+kernel
 have ar:=F.args_bexc_ga (.ref a) (.str (Yh "__class__") t);unfold argsOk at ar;unfold checkBuiltinCall;rw[kd,sp]
 dsimp only
 refine Qc (LI.at ?_);simp only[J9,Je,if_false];refine wpAny_of_eq (show _=pure () from ar) ?_;show Qm _ _ (Builtin.«object.__getattribute__» ⟨[.ref a,.str (Yh "__class__") t],[]⟩) _ _ _;unfold Builtin.«object.__getattribute__»;refine Qc (Qe ?_);refine Qc (Qe ?_);refine Qc (L0.at ?_);refine Qc (L3.at ?_);show Qm _ _ (Builtin.ObjectAttr.bindTo _ _ _ _) _ _ _;unfold Builtin.ObjectAttr.bindTo;refine Qc (m:=holding _ (call (.builtin "getset_descriptor.__get__") [.builtin "object.__class__",.ref a,.ref C])) (Z8 (wpAny_call (bFp o X ⟨ob,ho,hc⟩ ?_)));refine Qe ?_;exact PySem.W.handed_on rfl (Qe h)
end
section
variable {K:Qb}{a C:Addr}
theorem bIg {c:Qd}{b:Bool}(o:Own K C)(e:Qa K (.ref C) c=some b):Answers (fun s=>K.In s.heap/\excAt a C s.heap) (.ref a) c b:=by
 intro dp tk P w A R s ⟨⟨kin,ob,ho,hc⟩,hq⟩;obtain⟨h0,g,d,tt,os⟩:=s;have lt:Zv (Ql P w) h0 (typeOf (.ref a)) (.ref C):=hc▸(Jb ho).andThen .now;unfold Qa at e;unfold Builtin.«isinstance.nested»;refine Qc (lt.at ?_);by_cases q:(Zc C==c)=true
 ·rw[if_pos q] at e⊢
  cases e
  first | exact Qc (wpAny_rule (Qe (hq tt))) | exact Qc (wpAny_rule (hq tt)) | exact Qe (hq tt)
 ·rw[if_neg q] at e⊢
  obtain⟨h1,h2,h3⟩:=We (M:=Ql P w) kin e;have li:Zv (Ql P w) h0 (isInstance (.ref a) c) b:=lt.andThen h3;refine Qc (h1.at ?_);rw[if_pos (by decide)]
  k_delta "plainIsInstance"
  refine Qc (Qc (h2.at ?_));simp only[J9,Je,if_false];refine Qc (li.at ?_);cases b with
  | true=>
   simp only[if_true]
   first | exact Qe (hq tt) | exact Qe (Qe (hq tt)) | exact Qc (Qe (Qe (hq tt)))
  | false=>
   simp only[Je,if_false];refine Qc (bFq o kin ⟨ob,ho,hc⟩ ?_);have hT:Zv (Ql P w) h0 (isType (.ref C)) true:=by
    have hc:=o.hc;unfold PySem.W.clsIn at hc;split at hc
    ·rename_i hl
     intro A' Q' E' s' k q;unfold isType loadHead;exact Qc (wpAny_loadPart (k _ _ (kin _ _ hl)) (Qe q))
    ·cases hc
   refine Qc (hT.at ?_);simp only[J9,Je,if_false];refine Qc (wpAny_rule (h3.at ?_))
   first | exact Qe (hq _) | exact hq _ | exact Qe (Qe (hq _))
end
section
variable {X:Cx}{B:Hp}{e a b:Expr}{fa fb:Rho->M D}{pos p p2:Pos}
def aTn (kx:Addr->Bool)(m:Addr->Option Bool)(f:Rho->M D):Rho->M D:=fun ρ=>bnd (f ρ) fun d=>match d with
 | .exc C=>match kx C,m C with | true,some b=>ok (.bl b) | _,_=>none
 | _=>none
theorem aY5 {cv:Qd}{c:V}{kx:Addr->Bool}{m:Addr->Option Bool}(rc:RelV c cv)(hu: ∀u,RelV c u->u=cv)(hx: ∀C,kx C=true->Own X.K C)(hm: ∀C b,m C=some b->Qa X.K (.ref C) cv=some b):
  aHp X (.builtin "isinstance") (fun xs H Q=> ∃C y b,xs=[y,c]/\Is X.K H (.exc C) y/\kx C=true/\m C=some b/\Q (.bl b) H):=by
 intro pins s σ H xs us Q I r h;obtain⟨C,y,b,rfl,i,hC,hb,q⟩:=h;obtain⟨u,w',rfl,r1,r2⟩:=vals2 r;rw[hu _ r2];cases i with
 | exc hh=>
  cases r1;obtain⟨hx',_,_⟩:=(show aCn X.prog X.w H s.heap _ (.ext _) from I.hok _ _ hh);exact call_isinstance (S:=fun _ R s=>(X.K.In s.heap/\excAt _ C s.heap)/\∀tk,R (.ok (.ret (.bool b))) {s with toks:=tk})
   (fun P w A R s hs=>isinstance_outer (bIg (hx C hC) (hm C b hb) 0 _ P w A R s hs) (fun z=>nomatch z)) ⟨⟨I.kIn,hx'⟩,fun tk=>⟨.bl b,H,I.tok _,rfl,q⟩⟩
theorem aCp {x:Str}{D:Addr}{kx:Addr->Bool}{m:Addr->Option Bool}(hg:Gl X "isinstance")(hb:X.mg "isinstance"=none)(hg2:Gl X x)(hm2:X.mg x=some (.ref D))(hx: ∀C,kx C=true->Own X.K C)(hm: ∀C b,m C=some b->Qa X.K (.ref C) (.ref D)=some b)(ha:PD X B e fa)(hd:(x==("__debug__":Str))=false:=by decide)
  (he:Qz [e,.Name x p2] X.env=[(false,eval e X.env),(false,eval (.Name x p2) X.env)]:=by exact bDp rfl rfl) (he2:Qz [.Name x p2] X.env=[(false,eval (.Name x p2) X.env)]:=by exact aPj rfl):PD X B (.Call (.Name "isinstance" p) [e,.Name x p2] [] pos) (aTn kx m fa):=by
 refine PE.of (aGa (aY5 (c:=V.ref D) rfl (fun u r=>r) hx hm) hg hb boot_isinstance (aC3 ha (aC3 (bD7 hg2 hm2 (v:=V.ref D) rfl hd) aFu he2) (by rw[he,he2])) (he:=by rw[he,he2]) (hpl:=by rw[he2];rfl)) fun σ H Q h=> ?_
 obtain⟨ρ,r1,h⟩:=h;refine⟨ρ,r1,(Res.bind h).imp fun d h1 v H1 e1 i1=> ?_⟩;split at h1
 ·rename_i C
  split at h1
  ·rename_i b hC hb;exact⟨C,v,b,rfl,i1,hC,hb,h1 _ H1 e1 (.bl _)⟩
  ·exact Qg h1
 ·exact Qg h1
theorem aYu: ∀xs ys:List Bool,Y6 (xs.map PyData.bool) (ys.map PyData.bool)=decide (xs=ys)
 | [],[]=>by simp[Y6]
 | [],_::_=>by simp[Y6]
 | _::_,[]=>by simp[Y6]
 | a::r,b::t=>by
  simp only[Q9,Y6,Ua,aYu r t];by_cases h:a=b<;>by_cases h':r=t<;>simp[h,h']
theorem aXt: ∀xs:List Bool,PyData.canLayAll0 (xs.map PyData.bool)=true
 | []=>rfl
 | x::r=>by simp[PyData.canLayAll0,PyData.canLay0,aXt r]
theorem aQj: ∀xs:List Bool,PyData.depthAll (xs.map PyData.bool)=0
 | []=>rfl
 | _::r=>by simp[PyData.depthAll,PyData.depth,aQj r]
theorem aNi (xs:List Bool):SeqAt.shaped (.list (xs.map PyData.bool))=true:=by simp[SeqAt.shaped,PyData.canLay0,PyData.depth,aXt xs,aQj]
theorem aLx {h:Heap}: ∀{xs:List Bool} {its:List Qd},Vals (xs.map V.bl) its->ReadsAll h its (xs.map PyData.bool) []
 | [],_,r=>by cases r;exact .nil
 | x::xs,_,r=>by
  cases r with
  | cons r1 r2=>
   cases r1;exact readsAll_cons_val (.bool _) (aLx r2)
theorem bF2 {K:Qb}{H:Hp}: ∀{ds:List D} {vs:List V} {xs:List Bool},blL ds=some xs->IsL K H ds vs->vs=xs.map V.bl
 | [],_,_,h,r=>by cases h;cases r;rfl
 | d::ds,_,_,h,r=>by
  cases r with
  | cons i r=>
   cases i<;>first |(cases h;done) | skip
   rename_i b;simp only[blL] at h;split at h
   ·rename_i bs hb
    cases h;rw[bF2 hb r];rfl
   ·cases h
def bLt (K:Qb):R2:=fun x y H Q=> ∃a b xs ys,x= .ref a/\y= .ref b/\SqL K H a ((xs:List Bool).map V.bl)/\SqL K H b ((ys:List Bool).map V.bl)/\Q (.bl (!decide (xs=ys))) H
theorem bHq {k:Nat}(hr:aEx k X.A):OpR X (Yl .NotEq) (bLt X.K):=by
 intro pins s σ H x y v u Q I rx ry h;obtain⟨a,b,xs,ys,rfl,rfl,ha,hb,q⟩:=h;cases rx;cases ry;have hu:X.A.units+64<cLine:=by have:=hr.un;omega
 obtain⟨its,r1,⟨_,n1,g1,g2,_,g3⟩,_⟩:=I.list ha;obtain⟨jts,r2,⟨_,n2,g4,g5,_,g6⟩,_⟩:=I.list hb;refine ne_dataH_same (reads_list_at g1 g2 g3 (aLx r1)) (reads_list_at g4 g5 g6 (aLx r2)) (aNi xs) (aNi ys) hu (SeqAt.noMix_of_shape (.list .bool) rfl _ _ (list_map_has fun _=>rfl) (list_map_has fun _=>rfl)) ⟨.bl _,H,I,rfl,?_⟩;rw[show Ua (.list (xs.map PyData.bool)) (.list (ys.map PyData.bool))=decide (xs=ys) by simp only[Ua];exact aYu xs ys];exact q
def bC5:D->D->M D
 | .lst xs,.lst ys=>match blL xs,blL ys with | some x,some y=>ok (.bl (!decide (x=y))) | _,_=>none
 | _,_=>none
theorem bKw:aHn bC5:=by
 intro x y c h;unfold bC5 at h
 (repeat' split at h)<;>cases h
theorem bJ3:aQx X (bLt X.K) bC5:=by
 intro H x y dx dy d Q ix iy e q;unfold bC5 at e;split at e
 ·split at e
  ·rename_i x' y' h1 h2
   cases e;cases ix with
   | lst g1 r1=>
    cases iy with
    | lst g2 r2=>
     have e1:=bF2 h1 r1;have e2:=bF2 h2 r2;subst e1 e2;exact⟨_,_,x',y',rfl,rfl,g1,g2,q _ H (Same.refl H) (.bl _)⟩
  ·cases e
 ·cases e
theorem bEb {k:Nat}(hr:aEx k X.A)(ha:PD X B a fa)(hb:PD X B b fb):PDT X B (.Compare a [.NotEq] [b] pos) (aA9 (b2 bC5 fa fb)):=aFr (bHq hr) bJ3 bKw ha hb (aL0 _)
theorem aS5:PD X B e (fun _=>none):=fun _ _ _ _ _ _ h=>by
 obtain⟨_,_,h⟩:=h;exact Qg h
end
end L2.PU
namespace L2.PU
open PySem PySem.Spec PyProof.Rows
abbrev Kept:=List (Nat×List Nat)
def flat (kp:Kept):List Nat:=kp.flatMap (·.2)
def aZw (kp:Kept)(n:Nat):List Nat:=((kp.find? fun p=>decide (p.1=n)).map (·.2)).getD []
structure bGa (ns L:List Nat):Prop where
 nd:L.Nodup
 sub: ∀y∈L,y∈ns
 cov: ∀x∈ns,∃y∈L,y&&&x=y
 anti: ∀y∈L,∀y'∈L,y&&&y'=y->y=y'
theorem bGa.perm {ns ns' L L':List Nat}(h:bGa ns L)(hn: ∀x,x∈ns'↔x∈ns)(hl:L'.Perm L):bGa ns' L' where
 nd:=hl.nodup_iff.mpr h.nd
 sub:=fun y hy=>(hn y).mpr (h.sub y (hl.mem_iff.mp hy))
 cov:=fun x hx=>by
  obtain⟨y,h1,h2⟩:=h.cov x ((hn x).mp hx);exact⟨y,hl.mem_iff.mpr h1,h2⟩
 anti:=fun y hy y' hy'=>h.anti y (hl.mem_iff.mp hy) y' (hl.mem_iff.mp hy')
abbrev bJk (r:List Str):Prop:=r.Pairwise fun a b=>decide (a.cps.toList<b.cps.toList)=true
structure aZe (P:List Str->Prop)(R:List (List Str)):Prop where
 frm: ∀r∈R,bJk r/\∃xs,P xs/\∀z,z∈r↔z∈xs
 cov: ∀xs,P xs->∃r∈R,∀z∈r,z∈xs
 anti: ∀r∈R,∀r'∈R,(∀z∈r,z∈r')->r=r'
 asc:R.Pairwise fun a b=>bBb a b=true
theorem aNo {r:List Str}(h:bJk r):r.Nodup:=h.imp fun h e=>by rw[e,aXo] at h;cases h
theorem bAk {r r':List Str}(h:bJk r)(h':bJk r')(e: ∀z,z∈r↔z∈r'):r=r':=by
 have p:r.Perm r':=(Uq (aNo h) (aNo h')).mpr e;refine List.Perm.eq_of_pairwise (fun a b _ _ h1 h2=> ?_) h h' p;have:=bCx h1 h2;rw[aXo] at this;cases this
theorem aZe.self {P:List Str->Prop}{R R':List (List Str)}(h:aZe P R)(h':aZe (· ∈R) R'):R'=R:=by
 have m: ∀r,r∈R'↔r∈R:=by
  have m1: ∀r∈R',r∈R:=fun r hr=>by
   obtain⟨p1,xs,p2,p3⟩:=h'.frm r hr;rw[bAk p1 (h.frm xs p2).1 p3];exact p2
  refine fun r=>⟨m1 r,fun hr=> ?_⟩
  obtain⟨r',h1,h2⟩:=h'.cov r hr;rw[<-h.anti r' (m1 r' h1) r hr h2];exact h1
 have nd: ∀{l:List (List Str)},l.Pairwise (fun a b=>bBb a b=true)->l.Nodup:=fun h=>h.imp fun h e=>by rw[e,aXs] at h;cases h
 refine List.Perm.eq_of_pairwise (fun a b _ _ h1 h2=> ?_) h'.asc h.asc ((Uq (nd h'.asc) (nd h.asc)).mpr m);have:=bC0 h1 h2;rw[aXs] at this;cases this
section
variable {α:Type}
def puB (st:List (Nat×α))(b:Nat)(v:α):List (Nat×α):=if (st.any fun e=>decide (e.1=b))=true then st.map (fun e=>if e.1=b then (e.1,v) else e) else st++ [(b,v)]
structure bI8 (key:α->Nat)(P:List α)(st:List (Nat×α)):Prop where
 ent: ∀e∈st,e.2∈P/\key e.2=e.1
 cov: ∀p∈P,key p∈st.map (·.1)
 len:st.length<=P.length
 nd:(st.map (·.1)).Nodup
theorem bI8.put {key:α->Nat}{P:List α}{st:List (Nat×α)}(h:bI8 key P st)(v:α):bI8 key (P++ [v]) (puB st (key v) v):=by
 unfold puB;split
 ·rename_i hc
  rw[List.any_eq_true] at hc;obtain⟨e0,he0,hc⟩:=hc;have hkeys:(st.map (fun e=>if e.1=key v then (e.1,v) else e)).map (·.1)=st.map (·.1):=by
   rw[List.map_map];refine List.map_congr_left fun e _=> ?_
   show (if e.1=key v then (e.1,v) else e).1=e.1;split<;>rfl
  refine⟨fun e he=> ?_,fun p hp=> ?_,by rw[Qv,Qx];exact Nat.le_succ_of_le h.len,by rw[hkeys];exact h.nd⟩
  ·obtain⟨e',he',rfl⟩:=List.mem_map.mp he
   split
   ·rename_i hk
    exact⟨Zd _ Qt,hk.symm⟩
   ·exact⟨Yn _ (h.ent e' he').1,(h.ent e' he').2⟩
  ·rw[hkeys]
   rcases List.mem_append.mp hp with hp | hp
   ·exact h.cov p hp
   ·rw[List.mem_singleton.mp hp]
    exact List.mem_map.mpr ⟨e0,he0,by simpa using hc⟩
 ·rename_i hc
  refine⟨fun e he=> ?_,fun p hp=> ?_,by rw[Qx,Qx];exact Nat.succ_le_succ h.len,?_⟩
  rotate_left 2
  ·rw[Uo]
   refine List.nodup_append.mpr ⟨h.nd,by simp,fun a ha b hb=> ?_⟩;obtain⟨e,he,rfl⟩:=List.mem_map.mp ha;rw[List.mem_singleton.mp hb];exact fun z=>hc (List.any_eq_true.mpr ⟨e,he,by simpa using z⟩)
  ·rcases List.mem_append.mp he with he | he
   ·exact⟨Yn _ (h.ent e he).1,(h.ent e he).2⟩
   ·rw[List.mem_singleton.mp he]
    exact⟨Zd _ Qt,rfl⟩
  ·rw[Uo]
   rcases List.mem_append.mp hp with hp | hp
   ·exact Yn _ (h.cov p hp)
   ·rw[List.mem_singleton.mp hp]
    exact Zd _ Qt
theorem bI8.get {key:α->Nat}{P:List α}{st:List (Nat×α)}(h:bI8 key P st){b:Nat}(hb:b∈st.map (·.1)): ∃p∈P,key p=b/\(st.find? fun e=>decide (e.1=b))=some (b,p):=by
 cases hf:st.find? fun e=>decide (e.1=b) with
 | none=>
  obtain⟨e,he,hb⟩:=List.mem_map.mp hb;rw[List.find?_eq_none] at hf;exact absurd (by simpa using hb) (hf e he)
 | some e=>
  have h1:=List.mem_of_find?_eq_some hf;have h2:e.1=b:=by simpa using List.find?_some hf
  obtain⟨p1,p2⟩:=h.ent e h1;exact⟨e.2,p1,p2.trans h2,by rw[<-h2]⟩
end
end L2.PU
namespace K26
open PySem PySem.Spec PyProof.Rows L2 L2.PU
abbrev St:=L2.St
def top (i:Nat):Stmt:=PySem.Challenge.pw_whence_k26_refusals_apart.main.body.getD i (.Pass ⟨0,0,0,0⟩)
abbrev aLt:Stmt:=top 16
abbrev aJw:Stmt:=top 17
abbrev aFo:Stmt:=top 18
abbrev aNn:Stmt:=top 20
abbrev aOb:Stmt:=top 21
abbrev bCk:Stmt:=top 24
abbrev aWo:Stmt:=top 26
abbrev aH5:Stmt:=top 27
abbrev aNl:Stmt:=top 29
abbrev aJv:Stmt:=top 31
abbrev aCo:Stmt:=inClass (top 35) 0
abbrev aD9:Stmt:=inClass (top 35) 1
abbrev aD0:Stmt:=inClass (top 35) 3
abbrev aH6:Stmt:=inClass (top 35) 7
abbrev aEo:Stmt:=inClass (top 37) 0
abbrev aE7:Stmt:=inClass (top 37) 3
abbrev aEn:Stmt:=inClass (top 38) 0
abbrev aKo:Stmt:=inClass (top 38) 3
abbrev aFp:Stmt:=inClass (top 39) 0
abbrev aMz:Stmt:=inClass (top 39) 3
abbrev aSv:Stmt:=top 41
abbrev aNm:Stmt:=top 42
abbrev aA3:Stmt:=top 43
abbrev aLs:Stmt:=top 44
abbrev bAh:Stmt:=top 45
set_option genInjectivity false in
structure Adr where
 aAv:Addr
 aAz:Addr
 aA6:Addr
 aCj:Addr
 aA2:Addr
 aAj:Addr
 aAg:Addr
 aAf:Addr
 aAb:Addr
 aAn:Addr
 aAd:Addr
 aAo:Addr
 aBm:Addr
 aB4:Addr
 aCu:Addr
 aBn:Addr
 aAl:Addr
 aHl:Addr
 aF7:Addr
 aD5:Addr
 aJj:Addr
 aE1:Addr
 aYq:Addr
 aR2:Addr
 aE2:Addr
 aJh:Addr
 aF6:Addr
 aBl:Addr
 aC0:Addr
 aCx:Addr
 aE3:Addr
 aDg:Addr
 aDq:Addr
 aDf:Addr
 aDp:Addr
 aD6:Addr
 aEk:Addr
 aOu:Addr
 aJi:Addr
 aA7:Addr
 aHk:Addr
 aR3:Addr
def cs (t:Adr)(C:Addr):Bool:=decide (C=t.aAv) || decide (C=t.aAz) || decide (C=t.aA6) || decide (C=t.aCj)
structure Txt (K:Qb)(mg:Str->Option Qd)(t:Adr):Prop where
 aYk:mg "Store"=some (.ref t.aAv)
 aKz:Cls K t.aAv
 aS9:Mk K t.aAv t.aBl
 aIe:Meth K t.aAv "make" t.aC0
 aGr:Meth K t.aAv "check_table" t.aCx
 aM7:Meth K t.aAv "names" t.aE3
 bBw:mg "Counts"=some (.ref t.aAz)
 aY2:Cls K t.aAz
 aXk:Mk K t.aAz t.aDg
 aJe:Meth K t.aAz "is_mark" t.aDq
 bBu:mg "Rounds"=some (.ref t.aA6)
 bI2:Cls K t.aA6
 aXj:Mk K t.aA6 t.aDf
 aUo:Meth K t.aA6 "is_mark" t.aDp
 bIm:mg "Lows"=some (.ref t.aCj)
 bLf:Cls K t.aCj
 bE0:Mk K t.aCj t.aD6
 aXn:Meth K t.aCj "is_mark" t.aEk
 aOt:mg "WhenceError"=some (.ref t.aA2)
 aZp:Zg K t.aA2 [.type "ValueError",.type "Exception",.type "BaseException",.type "object"] "ValueError.__new__"=true
 aRy:mg "NoWay"=some (.ref t.aAj)
 aSl:Zg K t.aAj [.type "ValueError",.type "Exception",.type "BaseException",.type "object"] "ValueError.__new__"=true
 aTk:mg "NoMark"=some (.ref t.aAg)
 aV6:Zg K t.aAg [.type "ValueError",.type "Exception",.type "BaseException",.type "object"] "ValueError.__new__"=true
 aTj:mg "NoName"=some (.ref t.aAf)
 aV5:Zg K t.aAf [.type "ValueError",.type "Exception",.type "BaseException",.type "object"] "ValueError.__new__"=true
 aJg:mg "NoColumn"=some (.ref t.aAb)
 aLl:Zg K t.aAb [.type "ValueError",.type "Exception",.type "BaseException",.type "object"] "ValueError.__new__"=true
 aYl:mg "NoRow"=some (.ref t.aAn)
 aZ3:Zg K t.aAn [.type "ValueError",.type "Exception",.type "BaseException",.type "object"] "ValueError.__new__"=true
 aQd:mg "NoTable"=some (.ref t.aAd)
 aT9:Zg K t.aAd [.type "ValueError",.type "Exception",.type "BaseException",.type "object"] "ValueError.__new__"=true
 aYn:mg "NoFit"=some (.ref t.aAo)
 aZ4:Zg K t.aAo [.type "ValueError",.type "Exception",.type "BaseException",.type "object"] "ValueError.__new__"=true
 aU3:mg "NoNumber"=some (.ref t.aBm)
 bDj:Zg K t.aBm [.type "ValueError",.type "Exception",.type "BaseException",.type "object"] "ValueError.__new__"=true
 aYm:mg "NoPlace"=some (.ref t.aB4)
 bGe:Zg K t.aB4 [.type "ValueError",.type "Exception",.type "BaseException",.type "object"] "ValueError.__new__"=true
 bBv:mg "NoRule"=some (.ref t.aCu)
 bGj:Zg K t.aCu [.type "ValueError",.type "Exception",.type "BaseException",.type "object"] "ValueError.__new__"=true
 aU4:mg "NoAnswer"=some (.ref t.aBn)
 bDk:Zg K t.aBn [.type "ValueError",.type "Exception",.type "BaseException",.type "object"] "ValueError.__new__"=true
 aYj:mg "Twice"=some (.ref t.aAl)
 aZ2:Zg K t.aAl [.type "ValueError",.type "Exception",.type "BaseException",.type "object"] "ValueError.__new__"=true
 aGo:Qa K (.ref t.aAb) (.ref t.aBn)=some false
 aGn:Qa K (.ref t.aAb) (.ref t.aAb)=some true
 aI6:Qa K (.ref t.aAb) (.ref t.aAo)=some false
 aH0:Qa K (.ref t.aAb) (.ref t.aAg)=some false
 aHz:Qa K (.ref t.aAb) (.ref t.aAf)=some false
 aGm:Qa K (.ref t.aAb) (.ref t.aBm)=some false
 aHb:Qa K (.ref t.aAb) (.ref t.aB4)=some false
 aI5:Qa K (.ref t.aAb) (.ref t.aAn)=some false
 aHy:Qa K (.ref t.aAb) (.ref t.aCu)=some false
 aHa:Qa K (.ref t.aAb) (.ref t.aAd)=some false
 aI4:Qa K (.ref t.aAb) (.ref t.aAj)=some false
 aI3:Qa K (.ref t.aAb) (.ref t.aAl)=some false
 aFh:Qa K (.ref t.aAb) (.type "ValueError")=some true
 aI2:Qa K (.ref t.aAo) (.ref t.aBn)=some false
 aI1:Qa K (.ref t.aAo) (.ref t.aAb)=some false
 aMx:Qa K (.ref t.aAo) (.ref t.aAo)=some true
 aLk:Qa K (.ref t.aAo) (.ref t.aAg)=some false
 aLj:Qa K (.ref t.aAo) (.ref t.aAf)=some false
 aI0:Qa K (.ref t.aAo) (.ref t.aBm)=some false
 aKl:Qa K (.ref t.aAo) (.ref t.aB4)=some false
 aMw:Qa K (.ref t.aAo) (.ref t.aAn)=some false
 aLi:Qa K (.ref t.aAo) (.ref t.aCu)=some false
 aKk:Qa K (.ref t.aAo) (.ref t.aAd)=some false
 aMv:Qa K (.ref t.aAo) (.ref t.aAj)=some false
 aMu:Qa K (.ref t.aAo) (.ref t.aAl)=some false
 aG9:Qa K (.ref t.aAo) (.type "ValueError")=some true
 aHx:Qa K (.ref t.aAg) (.ref t.aBn)=some false
 aHw:Qa K (.ref t.aAg) (.ref t.aAb)=some false
 aLh:Qa K (.ref t.aAg) (.ref t.aAo)=some false
 aKj:Qa K (.ref t.aAg) (.ref t.aAg)=some true
 aKi:Qa K (.ref t.aAg) (.ref t.aAf)=some false
 aHv:Qa K (.ref t.aAg) (.ref t.aBm)=some false
 aIz:Qa K (.ref t.aAg) (.ref t.aB4)=some false
 aLg:Qa K (.ref t.aAg) (.ref t.aAn)=some false
 aKh:Qa K (.ref t.aAg) (.ref t.aCu)=some false
 aIy:Qa K (.ref t.aAg) (.ref t.aAd)=some false
 aLf:Qa K (.ref t.aAg) (.ref t.aAj)=some false
 aLe:Qa K (.ref t.aAg) (.ref t.aAl)=some false
 aGl:Qa K (.ref t.aAg) (.type "ValueError")=some true
 aHu:Qa K (.ref t.aAf) (.ref t.aBn)=some false
 aHt:Qa K (.ref t.aAf) (.ref t.aAb)=some false
 aLd:Qa K (.ref t.aAf) (.ref t.aAo)=some false
 aKg:Qa K (.ref t.aAf) (.ref t.aAg)=some false
 aKf:Qa K (.ref t.aAf) (.ref t.aAf)=some true
 aHs:Qa K (.ref t.aAf) (.ref t.aBm)=some false
 aIx:Qa K (.ref t.aAf) (.ref t.aB4)=some false
 aLc:Qa K (.ref t.aAf) (.ref t.aAn)=some false
 aKe:Qa K (.ref t.aAf) (.ref t.aCu)=some false
 aIw:Qa K (.ref t.aAf) (.ref t.aAd)=some false
 aLb:Qa K (.ref t.aAf) (.ref t.aAj)=some false
 aLa:Qa K (.ref t.aAf) (.ref t.aAl)=some false
 aGk:Qa K (.ref t.aAf) (.type "ValueError")=some true
 aIv:Qa K (.ref t.aAn) (.ref t.aBn)=some false
 aIu:Qa K (.ref t.aAn) (.ref t.aAb)=some false
 aMt:Qa K (.ref t.aAn) (.ref t.aAo)=some false
 aK9:Qa K (.ref t.aAn) (.ref t.aAg)=some false
 aK8:Qa K (.ref t.aAn) (.ref t.aAf)=some false
 aIt:Qa K (.ref t.aAn) (.ref t.aBm)=some false
 aKd:Qa K (.ref t.aAn) (.ref t.aB4)=some false
 aMs:Qa K (.ref t.aAn) (.ref t.aAn)=some true
 aK7:Qa K (.ref t.aAn) (.ref t.aCu)=some false
 aKc:Qa K (.ref t.aAn) (.ref t.aAd)=some false
 aMr:Qa K (.ref t.aAn) (.ref t.aAj)=some false
 aMq:Qa K (.ref t.aAn) (.ref t.aAl)=some false
 aG8:Qa K (.ref t.aAn) (.type "ValueError")=some true
 aG7:Qa K (.ref t.aAd) (.ref t.aBn)=some false
 aG6:Qa K (.ref t.aAd) (.ref t.aAb)=some false
 aKb:Qa K (.ref t.aAd) (.ref t.aAo)=some false
 aIs:Qa K (.ref t.aAd) (.ref t.aAg)=some false
 aIr:Qa K (.ref t.aAd) (.ref t.aAf)=some false
 aG5:Qa K (.ref t.aAd) (.ref t.aBm)=some false
 aHr:Qa K (.ref t.aAd) (.ref t.aB4)=some false
 aKa:Qa K (.ref t.aAd) (.ref t.aAn)=some false
 aIq:Qa K (.ref t.aAd) (.ref t.aCu)=some false
 aHq:Qa K (.ref t.aAd) (.ref t.aAd)=some true
 aJ9:Qa K (.ref t.aAd) (.ref t.aAj)=some false
 aJ8:Qa K (.ref t.aAd) (.ref t.aAl)=some false
 aFm:Qa K (.ref t.aAd) (.type "ValueError")=some true
 aIp:Qa K (.ref t.aAj) (.ref t.aBn)=some false
 aIo:Qa K (.ref t.aAj) (.ref t.aAb)=some false
 aMp:Qa K (.ref t.aAj) (.ref t.aAo)=some false
 aK6:Qa K (.ref t.aAj) (.ref t.aAg)=some false
 aK5:Qa K (.ref t.aAj) (.ref t.aAf)=some false
 aIn:Qa K (.ref t.aAj) (.ref t.aBm)=some false
 aJ7:Qa K (.ref t.aAj) (.ref t.aB4)=some false
 aMo:Qa K (.ref t.aAj) (.ref t.aAn)=some false
 aK4:Qa K (.ref t.aAj) (.ref t.aCu)=some false
 aJ6:Qa K (.ref t.aAj) (.ref t.aAd)=some false
 aMn:Qa K (.ref t.aAj) (.ref t.aAj)=some true
 aMm:Qa K (.ref t.aAj) (.ref t.aAl)=some false
 aG4:Qa K (.ref t.aAj) (.type "ValueError")=some true
 aIm:Qa K (.ref t.aAl) (.ref t.aBn)=some false
 aIl:Qa K (.ref t.aAl) (.ref t.aAb)=some false
 aMl:Qa K (.ref t.aAl) (.ref t.aAo)=some false
 aK3:Qa K (.ref t.aAl) (.ref t.aAg)=some false
 aK2:Qa K (.ref t.aAl) (.ref t.aAf)=some false
 aIk:Qa K (.ref t.aAl) (.ref t.aBm)=some false
 aJ5:Qa K (.ref t.aAl) (.ref t.aB4)=some false
 aMk:Qa K (.ref t.aAl) (.ref t.aAn)=some false
 aK1:Qa K (.ref t.aAl) (.ref t.aCu)=some false
 aJ4:Qa K (.ref t.aAl) (.ref t.aAd)=some false
 aMj:Qa K (.ref t.aAl) (.ref t.aAj)=some false
 aMi:Qa K (.ref t.aAl) (.ref t.aAl)=some true
 aG3:Qa K (.ref t.aAl) (.type "ValueError")=some true
 aRr:Own K t.aAb
 bBi:Own K t.aAo
 aXu:Own K t.aAf
 bBh:Own K t.aAn
 aXv:Own K t.aAg
 bBf:Own K t.aAl
 aUt:Own K t.aAd
 bBg:Own K t.aAj
 aQy:Qi K (.ref t.aAb) (.ref t.aAb)=some true
 aT8:Qi K (.ref t.aAb) (.ref t.aAo)=some false
 aSk:Qi K (.ref t.aAb) (.ref t.aAg)=some false
 aSj:Qi K (.ref t.aAb) (.ref t.aAf)=some false
 aT7:Qi K (.ref t.aAb) (.ref t.aAn)=some false
 aQ1:Qi K (.ref t.aAb) (.ref t.aAd)=some false
 aT6:Qi K (.ref t.aAb) (.ref t.aAj)=some false
 aT5:Qi K (.ref t.aAb) (.ref t.aAl)=some false
 aEz:Qi K (.ref t.aAb) (.ref t.aA2)=some true
 aZo:Qi K (.ref t.aAo) (.ref t.aAo)=some true
 aV4:Qi K (.ref t.aAo) (.ref t.aAg)=some false
 aV3:Qi K (.ref t.aAo) (.ref t.aAf)=some false
 aZn:Qi K (.ref t.aAo) (.ref t.aAn)=some false
 aVo:Qi K (.ref t.aAo) (.ref t.aAd)=some false
 aZm:Qi K (.ref t.aAo) (.ref t.aAj)=some false
 aZl:Qi K (.ref t.aAo) (.ref t.aAl)=some false
 aGj:Qi K (.ref t.aAo) (.ref t.aA2)=some true
 aVn:Qi K (.ref t.aAg) (.ref t.aAg)=some true
 aVm:Qi K (.ref t.aAg) (.ref t.aAf)=some false
 aV2:Qi K (.ref t.aAg) (.ref t.aAn)=some false
 aT4:Qi K (.ref t.aAg) (.ref t.aAd)=some false
 aV1:Qi K (.ref t.aAg) (.ref t.aAj)=some false
 aV0:Qi K (.ref t.aAg) (.ref t.aAl)=some false
 aFl:Qi K (.ref t.aAg) (.ref t.aA2)=some true
 aVl:Qi K (.ref t.aAf) (.ref t.aAf)=some true
 aVz:Qi K (.ref t.aAf) (.ref t.aAn)=some false
 aT3:Qi K (.ref t.aAf) (.ref t.aAd)=some false
 aVy:Qi K (.ref t.aAf) (.ref t.aAj)=some false
 aVx:Qi K (.ref t.aAf) (.ref t.aAl)=some false
 aFk:Qi K (.ref t.aAf) (.ref t.aA2)=some true
 aZk:Qi K (.ref t.aAn) (.ref t.aAn)=some true
 aVk:Qi K (.ref t.aAn) (.ref t.aAd)=some false
 aZj:Qi K (.ref t.aAn) (.ref t.aAj)=some false
 aZi:Qi K (.ref t.aAn) (.ref t.aAl)=some false
 aGi:Qi K (.ref t.aAn) (.ref t.aA2)=some true
 aSi:Qi K (.ref t.aAd) (.ref t.aAd)=some true
 aVj:Qi K (.ref t.aAd) (.ref t.aAj)=some false
 aVi:Qi K (.ref t.aAd) (.ref t.aAl)=some false
 aFg:Qi K (.ref t.aAd) (.ref t.aA2)=some true
 aZh:Qi K (.ref t.aAj) (.ref t.aAj)=some true
 aZg:Qi K (.ref t.aAj) (.ref t.aAl)=some false
 aGh:Qi K (.ref t.aAj) (.ref t.aA2)=some true
 aZf:Qi K (.ref t.aAl) (.ref t.aAl)=some true
 aGg:Qi K (.ref t.aAl) (.ref t.aA2)=some true
 aGv:t.aAj≠t.aAl
 aFz:t.aAg≠t.aAj
 aFc:t.aAg≠t.aAf
 aF0:t.aAg≠t.aAn
 aEq:t.aAg≠t.aAd
 aFy:t.aAg≠t.aAl
 aFw:t.aAf≠t.aAj
 aFx:t.aAf≠t.aAn
 aEp:t.aAf≠t.aAd
 aFv:t.aAf≠t.aAl
 aEs:t.aAb≠t.aAj
 aEc:t.aAb≠t.aAg
 aEb:t.aAb≠t.aAf
 aEt:t.aAb≠t.aAn
 aD2:t.aAb≠t.aAd
 aEu:t.aAb≠t.aAo
 aEr:t.aAb≠t.aAl
 aGx:t.aAn≠t.aAj
 aFb:t.aAn≠t.aAd
 aGw:t.aAn≠t.aAl
 aFa:t.aAd≠t.aAj
 aE9:t.aAd≠t.aAl
 aGz:t.aAo≠t.aAj
 aF2:t.aAo≠t.aAg
 aF1:t.aAo≠t.aAf
 aG0:t.aAo≠t.aAn
 aFd:t.aAo≠t.aAd
 aGy:t.aAo≠t.aAl
 aHf: ∀C,cs t C=true->Cls K C/\aD8 K C "made"
 aXc: ∀C,cs t C=true->Cls K C/\aD8 K C "many"
 aL1: ∀C,cs t C=true->Cls K C/\aD8 K C "nought"
 aXb: ∀C,cs t C=true->Cls K C/\aD8 K C "one"
 aPy: ∀C,cs t C=true->Cls K C/\aD8 K C "placed"
 aDj: ∃fd,Fun K "kept_head" "kept_head" aLt t.aHl fd/\Binds K fd ["head","columns"] []
 aRx:mg "kept_head"=some (.ref t.aHl)
 aAt: ∃fd,Fun K "check_once" "check_once" aJw t.aF7 fd/\Binds K fd ["columns"] []
 aQc:mg "check_once"=some (.ref t.aF7)
 aBt: ∃fd,Fun K "together_head" "together_head" aFo t.aD5 fd/\Binds K fd ["head","other"] []
 aMc:mg "together_head"=some (.ref t.aD5)
 aAu: ∃fd,Fun K "is_whole" "is_whole" aNn t.aJj fd/\Binds K fd ["thing","least"] []
 aU2:mg "is_whole"=some (.ref t.aJj)
 aIi: ∃fd,Fun K "never_falls" "never_falls" aOb t.aE1 fd/\Binds K fd ["things"] []
 bBs:mg "never_falls"=some (.ref t.aE1)
 aN2: ∃fd,Fun K "bare" "bare" bCk t.aYq fd/\Binds K fd ["name"] []
 bIl:mg "bare"=some (.ref t.aYq)
 aJo: ∃fd,Fun K "worth" "worth" aWo t.aR2 fd/\Binds K fd ["some","way","marks"] []
 bFg:mg "worth"=some (.ref t.aR2)
 aB0: ∃fd,Fun K "check_names" "check_names" aH5 t.aE2 fd/\Binds K fd ["some","marks"] []
 aOs:mg "check_names"=some (.ref t.aE2)
 aDh: ∃fd,Fun K "names_in" "names_in" aNl t.aJh fd/\Binds K fd ["some"] []
 aU0:mg "names_in"=some (.ref t.aJh)
 aCb: ∃fd,Fun K "make_table" "make_table" aJv t.aF6 fd/\Binds K fd ["way","head","pairs"] []
 aQb:mg "make_table"=some (.ref t.aF6)
 aFf: ∃fd,Fun K "__init__" "Store.__init__" aCo t.aBl fd/\Binds K fd ["self"] []
 aJ3: ∃fd,Fun K "make" "Store.make" aD9 t.aC0 fd/\Binds K fd ["self","table","head"] []
 aHo: ∃fd,Fun K "check_table" "Store.check_table" aD0 t.aCx fd/\Binds K fd ["self","table"] []
 aO9: ∃fd,Fun K "names" "Store.names" aH6 t.aE3 fd/\Binds K fd ["self","table"] []
 aJq: ∃fd,Fun K "__init__" "Counts.__init__" aEo t.aDg fd/\Binds K fd ["self"] []
 aKu: ∃fd,Fun K "is_mark" "Counts.is_mark" aE7 t.aDq fd/\Binds K fd ["self","thing"] []
 aJp: ∃fd,Fun K "__init__" "Rounds.__init__" aEn t.aDf fd/\Binds K fd ["self","many"] []
 aVw: ∃fd,Fun K "is_mark" "Rounds.is_mark" aKo t.aDp fd/\Binds K fd ["self","thing"] []
 aMg: ∃fd,Fun K "__init__" "Lows.__init__" aFp t.aD6 fd/\Binds K fd ["self","many"] []
 aZ1: ∃fd,Fun K "is_mark" "Lows.is_mark" aMz t.aEk fd/\Binds K fd ["self","thing"] []
 aEi: ∃fd,Fun K "_law_at" "_law_at" aSv t.aOu fd/\Binds K fd ["_law_script","_law_k"] []
 bBt:mg "_law_at"=some (.ref t.aOu)
 aDi: ∃fd,Fun K "_law_name" "_law_name" aNm t.aJi fd/\Binds K fd ["_law_style","_law_k"] []
 aU1:mg "_law_name"=some (.ref t.aJi)
 aBr: ∃fd,Fun K "_law_provoked" "_law_provoked" aA3 t.aA7 fd/\Binds K fd ["_law_which","_law_names","_law_number"] []
 aNa:mg "_law_provoked"=some (.ref t.aA7)
 aCy: ∃fd,Fun K "_law_kinds" "_law_kinds" aLs t.aHk fd/\Binds K fd ["_law_which","_law_names","_law_number"] []
 aRw:mg "_law_kinds"=some (.ref t.aHk)
 bLn: ∃fd,Fun K "law" "law" bAh t.aR3 fd/\Binds K fd ["_law_script"] []
 bLb:mg "law"=some (.ref t.aR3)
 aQv:mg "ValueError"=none
 bNh:mg "all"=none
 bI6:mg "bool"=none
 bLj:mg "int"=none
 aAw:mg "isinstance"=none
 aY9:mg "len"=none
 aR9:mg "range"=none
 bB7:mg "set"=none
 bB6:mg "sorted"=none
 aO1:mg "tuple"=none
 bNg:mg "zip"=none
 aXe:t.aAv≠t.aAz
 aXd:t.aAv≠t.aA6
 bA2:t.aAv≠t.aCj
 aXg:t.aAz≠t.aAv
 aVr:t.aAz≠t.aA6
 aZv:t.aAz≠t.aCj
 aXf:t.aA6≠t.aAv
 aVq:t.aA6≠t.aAz
 aZs:t.aA6≠t.aCj
 bA3:t.aCj≠t.aAv
 aZu:t.aCj≠t.aAz
 aZt:t.aCj≠t.aA6
section
variable {P:Qr}{w:Q2}{K:Qb}{mg:Str->Option Qd}{base:Heap}{t:Adr}
def aBd (t:Adr)(C:Addr):Option Bool:=if C=t.aAb then some false else if C=t.aAo then some false else if C=t.aAg then some false else if C=t.aAf then some false else if C=t.aAn then some false else if C=t.aAd then some false else if C=t.aAj then some false else if C=t.aAl then some false else none
theorem aP8 (T:Txt K mg t): ∀C b,aBd t C=some b->Qa K (.ref C) (.ref t.aBn)=some b:=fun C b hC=>by
 unfold aBd at hC;split at hC
 ·rename_i z;subst z;cases hC;exact T.aGo
 split at hC
 ·rename_i z;subst z;cases hC;exact T.aI2
 split at hC
 ·rename_i z;subst z;cases hC;exact T.aHx
 split at hC
 ·rename_i z;subst z;cases hC;exact T.aHu
 split at hC
 ·rename_i z;subst z;cases hC;exact T.aIv
 split at hC
 ·rename_i z;subst z;cases hC;exact T.aG7
 split at hC
 ·rename_i z;subst z;cases hC;exact T.aIp
 split at hC
 ·rename_i z;subst z;cases hC;exact T.aIm
 cases hC
def aBb (t:Adr)(C:Addr):Option Bool:=if C=t.aAb then some true else if C=t.aAo then some false else if C=t.aAg then some false else if C=t.aAf then some false else if C=t.aAn then some false else if C=t.aAd then some false else if C=t.aAj then some false else if C=t.aAl then some false else none
theorem aP7 (T:Txt K mg t): ∀C b,aBb t C=some b->Qa K (.ref C) (.ref t.aAb)=some b:=fun C b hC=>by
 unfold aBb at hC;split at hC
 ·rename_i z;subst z;cases hC;exact T.aGn
 split at hC
 ·rename_i z;subst z;cases hC;exact T.aI1
 split at hC
 ·rename_i z;subst z;cases hC;exact T.aHw
 split at hC
 ·rename_i z;subst z;cases hC;exact T.aHt
 split at hC
 ·rename_i z;subst z;cases hC;exact T.aIu
 split at hC
 ·rename_i z;subst z;cases hC;exact T.aG6
 split at hC
 ·rename_i z;subst z;cases hC;exact T.aIo
 split at hC
 ·rename_i z;subst z;cases hC;exact T.aIl
 cases hC
def aCt (t:Adr)(C:Addr):Option Bool:=if C=t.aAb then some false else if C=t.aAo then some true else if C=t.aAg then some false else if C=t.aAf then some false else if C=t.aAn then some false else if C=t.aAd then some false else if C=t.aAj then some false else if C=t.aAl then some false else none
theorem aXz (T:Txt K mg t): ∀C b,aCt t C=some b->Qa K (.ref C) (.ref t.aAo)=some b:=fun C b hC=>by
 unfold aCt at hC;split at hC
 ·rename_i z;subst z;cases hC;exact T.aI6
 split at hC
 ·rename_i z;subst z;cases hC;exact T.aMx
 split at hC
 ·rename_i z;subst z;cases hC;exact T.aLh
 split at hC
 ·rename_i z;subst z;cases hC;exact T.aLd
 split at hC
 ·rename_i z;subst z;cases hC;exact T.aMt
 split at hC
 ·rename_i z;subst z;cases hC;exact T.aKb
 split at hC
 ·rename_i z;subst z;cases hC;exact T.aMp
 split at hC
 ·rename_i z;subst z;cases hC;exact T.aMl
 cases hC
def aB3 (t:Adr)(C:Addr):Option Bool:=if C=t.aAb then some false else if C=t.aAo then some false else if C=t.aAg then some true else if C=t.aAf then some false else if C=t.aAn then some false else if C=t.aAd then some false else if C=t.aAj then some false else if C=t.aAl then some false else none
theorem aUw (T:Txt K mg t): ∀C b,aB3 t C=some b->Qa K (.ref C) (.ref t.aAg)=some b:=fun C b hC=>by
 unfold aB3 at hC;split at hC
 ·rename_i z;subst z;cases hC;exact T.aH0
 split at hC
 ·rename_i z;subst z;cases hC;exact T.aLk
 split at hC
 ·rename_i z;subst z;cases hC;exact T.aKj
 split at hC
 ·rename_i z;subst z;cases hC;exact T.aKg
 split at hC
 ·rename_i z;subst z;cases hC;exact T.aK9
 split at hC
 ·rename_i z;subst z;cases hC;exact T.aIs
 split at hC
 ·rename_i z;subst z;cases hC;exact T.aK6
 split at hC
 ·rename_i z;subst z;cases hC;exact T.aK3
 cases hC
def aB2 (t:Adr)(C:Addr):Option Bool:=if C=t.aAb then some false else if C=t.aAo then some false else if C=t.aAg then some false else if C=t.aAf then some true else if C=t.aAn then some false else if C=t.aAd then some false else if C=t.aAj then some false else if C=t.aAl then some false else none
theorem aUv (T:Txt K mg t): ∀C b,aB2 t C=some b->Qa K (.ref C) (.ref t.aAf)=some b:=fun C b hC=>by
 unfold aB2 at hC;split at hC
 ·rename_i z;subst z;cases hC;exact T.aHz
 split at hC
 ·rename_i z;subst z;cases hC;exact T.aLj
 split at hC
 ·rename_i z;subst z;cases hC;exact T.aKi
 split at hC
 ·rename_i z;subst z;cases hC;exact T.aKf
 split at hC
 ·rename_i z;subst z;cases hC;exact T.aK8
 split at hC
 ·rename_i z;subst z;cases hC;exact T.aIr
 split at hC
 ·rename_i z;subst z;cases hC;exact T.aK5
 split at hC
 ·rename_i z;subst z;cases hC;exact T.aK2
 cases hC
def aBa (t:Adr)(C:Addr):Option Bool:=if C=t.aAb then some false else if C=t.aAo then some false else if C=t.aAg then some false else if C=t.aAf then some false else if C=t.aAn then some false else if C=t.aAd then some false else if C=t.aAj then some false else if C=t.aAl then some false else none
theorem aP6 (T:Txt K mg t): ∀C b,aBa t C=some b->Qa K (.ref C) (.ref t.aBm)=some b:=fun C b hC=>by
 unfold aBa at hC;split at hC
 ·rename_i z;subst z;cases hC;exact T.aGm
 split at hC
 ·rename_i z;subst z;cases hC;exact T.aI0
 split at hC
 ·rename_i z;subst z;cases hC;exact T.aHv
 split at hC
 ·rename_i z;subst z;cases hC;exact T.aHs
 split at hC
 ·rename_i z;subst z;cases hC;exact T.aIt
 split at hC
 ·rename_i z;subst z;cases hC;exact T.aG5
 split at hC
 ·rename_i z;subst z;cases hC;exact T.aIn
 split at hC
 ·rename_i z;subst z;cases hC;exact T.aIk
 cases hC
def aBk (t:Adr)(C:Addr):Option Bool:=if C=t.aAb then some false else if C=t.aAo then some false else if C=t.aAg then some false else if C=t.aAf then some false else if C=t.aAn then some false else if C=t.aAd then some false else if C=t.aAj then some false else if C=t.aAl then some false else none
theorem aRt (T:Txt K mg t): ∀C b,aBk t C=some b->Qa K (.ref C) (.ref t.aB4)=some b:=fun C b hC=>by
 unfold aBk at hC;split at hC
 ·rename_i z;subst z;cases hC;exact T.aHb
 split at hC
 ·rename_i z;subst z;cases hC;exact T.aKl
 split at hC
 ·rename_i z;subst z;cases hC;exact T.aIz
 split at hC
 ·rename_i z;subst z;cases hC;exact T.aIx
 split at hC
 ·rename_i z;subst z;cases hC;exact T.aKd
 split at hC
 ·rename_i z;subst z;cases hC;exact T.aHr
 split at hC
 ·rename_i z;subst z;cases hC;exact T.aJ7
 split at hC
 ·rename_i z;subst z;cases hC;exact T.aJ5
 cases hC
def aCs (t:Adr)(C:Addr):Option Bool:=if C=t.aAb then some false else if C=t.aAo then some false else if C=t.aAg then some false else if C=t.aAf then some false else if C=t.aAn then some true else if C=t.aAd then some false else if C=t.aAj then some false else if C=t.aAl then some false else none
theorem aXy (T:Txt K mg t): ∀C b,aCs t C=some b->Qa K (.ref C) (.ref t.aAn)=some b:=fun C b hC=>by
 unfold aCs at hC;split at hC
 ·rename_i z;subst z;cases hC;exact T.aI5
 split at hC
 ·rename_i z;subst z;cases hC;exact T.aMw
 split at hC
 ·rename_i z;subst z;cases hC;exact T.aLg
 split at hC
 ·rename_i z;subst z;cases hC;exact T.aLc
 split at hC
 ·rename_i z;subst z;cases hC;exact T.aMs
 split at hC
 ·rename_i z;subst z;cases hC;exact T.aKa
 split at hC
 ·rename_i z;subst z;cases hC;exact T.aMo
 split at hC
 ·rename_i z;subst z;cases hC;exact T.aMk
 cases hC
def aB1 (t:Adr)(C:Addr):Option Bool:=if C=t.aAb then some false else if C=t.aAo then some false else if C=t.aAg then some false else if C=t.aAf then some false else if C=t.aAn then some false else if C=t.aAd then some false else if C=t.aAj then some false else if C=t.aAl then some false else none
theorem aUu (T:Txt K mg t): ∀C b,aB1 t C=some b->Qa K (.ref C) (.ref t.aCu)=some b:=fun C b hC=>by
 unfold aB1 at hC;split at hC
 ·rename_i z;subst z;cases hC;exact T.aHy
 split at hC
 ·rename_i z;subst z;cases hC;exact T.aLi
 split at hC
 ·rename_i z;subst z;cases hC;exact T.aKh
 split at hC
 ·rename_i z;subst z;cases hC;exact T.aKe
 split at hC
 ·rename_i z;subst z;cases hC;exact T.aK7
 split at hC
 ·rename_i z;subst z;cases hC;exact T.aIq
 split at hC
 ·rename_i z;subst z;cases hC;exact T.aK4
 split at hC
 ·rename_i z;subst z;cases hC;exact T.aK1
 cases hC
def aBj (t:Adr)(C:Addr):Option Bool:=if C=t.aAb then some false else if C=t.aAo then some false else if C=t.aAg then some false else if C=t.aAf then some false else if C=t.aAn then some false else if C=t.aAd then some true else if C=t.aAj then some false else if C=t.aAl then some false else none
theorem aRs (T:Txt K mg t): ∀C b,aBj t C=some b->Qa K (.ref C) (.ref t.aAd)=some b:=fun C b hC=>by
 unfold aBj at hC;split at hC
 ·rename_i z;subst z;cases hC;exact T.aHa
 split at hC
 ·rename_i z;subst z;cases hC;exact T.aKk
 split at hC
 ·rename_i z;subst z;cases hC;exact T.aIy
 split at hC
 ·rename_i z;subst z;cases hC;exact T.aIw
 split at hC
 ·rename_i z;subst z;cases hC;exact T.aKc
 split at hC
 ·rename_i z;subst z;cases hC;exact T.aHq
 split at hC
 ·rename_i z;subst z;cases hC;exact T.aJ6
 split at hC
 ·rename_i z;subst z;cases hC;exact T.aJ4
 cases hC
def aCr (t:Adr)(C:Addr):Option Bool:=if C=t.aAb then some false else if C=t.aAo then some false else if C=t.aAg then some false else if C=t.aAf then some false else if C=t.aAn then some false else if C=t.aAd then some false else if C=t.aAj then some true else if C=t.aAl then some false else none
theorem aXx (T:Txt K mg t): ∀C b,aCr t C=some b->Qa K (.ref C) (.ref t.aAj)=some b:=fun C b hC=>by
 unfold aCr at hC;split at hC
 ·rename_i z;subst z;cases hC;exact T.aI4
 split at hC
 ·rename_i z;subst z;cases hC;exact T.aMv
 split at hC
 ·rename_i z;subst z;cases hC;exact T.aLf
 split at hC
 ·rename_i z;subst z;cases hC;exact T.aLb
 split at hC
 ·rename_i z;subst z;cases hC;exact T.aMr
 split at hC
 ·rename_i z;subst z;cases hC;exact T.aJ9
 split at hC
 ·rename_i z;subst z;cases hC;exact T.aMn
 split at hC
 ·rename_i z;subst z;cases hC;exact T.aMj
 cases hC
def aCq (t:Adr)(C:Addr):Option Bool:=if C=t.aAb then some false else if C=t.aAo then some false else if C=t.aAg then some false else if C=t.aAf then some false else if C=t.aAn then some false else if C=t.aAd then some false else if C=t.aAj then some false else if C=t.aAl then some true else none
theorem aXw (T:Txt K mg t): ∀C b,aCq t C=some b->Qa K (.ref C) (.ref t.aAl)=some b:=fun C b hC=>by
 unfold aCq at hC;split at hC
 ·rename_i z;subst z;cases hC;exact T.aI3
 split at hC
 ·rename_i z;subst z;cases hC;exact T.aMu
 split at hC
 ·rename_i z;subst z;cases hC;exact T.aLe
 split at hC
 ·rename_i z;subst z;cases hC;exact T.aLa
 split at hC
 ·rename_i z;subst z;cases hC;exact T.aMq
 split at hC
 ·rename_i z;subst z;cases hC;exact T.aJ8
 split at hC
 ·rename_i z;subst z;cases hC;exact T.aMm
 split at hC
 ·rename_i z;subst z;cases hC;exact T.aMi
 cases hC
def aA1 (t:Adr)(C:Addr):Bool:=decide (C=t.aAb) || decide (C=t.aAo) || decide (C=t.aAg) || decide (C=t.aAf) || decide (C=t.aAn) || decide (C=t.aAd) || decide (C=t.aAj) || decide (C=t.aAl)
theorem aM9 (T:Txt K mg t): ∀C,aA1 t C=true->Qa K (.ref C) (.type "ValueError")=some true:=fun C hC=>by
 unfold aA1 at hC;simp only[Z1,decide_eq_true_eq] at hC;rcases hC with ((((((rfl | rfl) | rfl) | rfl) | rfl) | rfl) | rfl) | rfl
 ·exact T.aFh
 ·exact T.aG9
 ·exact T.aGl
 ·exact T.aGk
 ·exact T.aG8
 ·exact T.aFm
 ·exact T.aG4
 ·exact T.aG3
def kx (t:Adr)(C:Addr):Bool:=decide (C=t.aAb) || decide (C=t.aAo) || decide (C=t.aAf) || decide (C=t.aAn) || decide (C=t.aAg) || decide (C=t.aAl) || decide (C=t.aAd) || decide (C=t.aAj)
theorem aKs (T:Txt K mg t): ∀C,kx t C=true->Own K C:=fun C hC=>by
 unfold kx at hC;simp only[Z1,decide_eq_true_eq] at hC;rcases hC with ((((((rfl | rfl) | rfl) | rfl) | rfl) | rfl) | rfl) | rfl
 ·exact T.aRr
 ·exact T.bBi
 ·exact T.aXu
 ·exact T.bBh
 ·exact T.aXv
 ·exact T.bBf
 ·exact T.aUt
 ·exact T.bBg
def aAx (t:Adr)(C:Addr):Option Bool:=if C=t.aAb then some true else if C=t.aAo then some true else if C=t.aAf then some true else if C=t.aAn then some true else if C=t.aAg then some true else if C=t.aAl then some true else if C=t.aAd then some true else if C=t.aAj then some true else none
theorem aMb (T:Txt K mg t): ∀C b,aAx t C=some b->Qi K (.ref C) (.ref t.aA2)=some b:=fun C b hC=>by
 unfold aAx at hC;split at hC
 ·rename_i z;subst z;cases hC;exact T.aEz
 split at hC
 ·rename_i z;subst z;cases hC;exact T.aGj
 split at hC
 ·rename_i z;subst z;cases hC;exact T.aFk
 split at hC
 ·rename_i z;subst z;cases hC;exact T.aGi
 split at hC
 ·rename_i z;subst z;cases hC;exact T.aFl
 split at hC
 ·rename_i z;subst z;cases hC;exact T.aGg
 split at hC
 ·rename_i z;subst z;cases hC;exact T.aFg
 split at hC
 ·rename_i z;subst z;cases hC;exact T.aGh
 cases hC
def aE5:List Str:=["head","columns","column"]
theorem aJu:aA5 aE5 ["head","columns"] (aAm aLt):=by constructor<;>first | rfl | decide+kernel
def aDw (t:Adr)(aAt:List D->M D):Rho->Option Out:=
  (aAy (aD1 (app aAt (aAh (look 1) aBf)))
  (aAy (aM0 1 (gN 2) (aAy (sIf (aA9 (b2 (gIn true) (look 2) (look 0))) (aAy (aDb t.aAb (aAh (jnd (aTf "the head has no column " (aX4 (look 2) aVs))) aBf))
  aA8) aA8)
  aA8))
  (aAy (aH7 (f1 toT (look 1)))
  aA8)))
theorem aPx (T:Txt K mg t){k:Nat}{aAt:List D->M D}(aDo:Def P w K mg base k "check_once" aAt){F:List D->M D}(hL: ∀ds r,F ds=some r->ds.length=2)(hq: ∀ds r,F ds=some r->aBq (aDw t aAt (aCz aE5 ds))=some r):Def P w K mg base (k+1) "kept_head" F:=by
 obtain⟨fd,Fu,bi⟩:=T.aDj;refine⟨_,_,_,T.aRx,Fu.kp,bi,hL,bBy Fu aJu hL fun cdv A outer s H E hr=>⟨aDw t aAt,fun B=> ?_,hq⟩⟩;refine aAc ?_ ?_;(refine aB6 ?_;(refine aBs aDo hr rfl ?_;(refine aAa ?_ ?_;(exact aAe 1);(exact aAk))));(refine aAc ?_ ?_;(refine aOe 1 rfl (Zf rfl) PassesOwn.leaving rfl (fun B=> ?_) (fun B=> ?_);(exact aKw (i:=2) (aJu).nd rfl (Zf rfl));(refine aAc ?_ ?_;(refine aCm ?_ ?_ ?_;(refine aWz ?_ ?_;(exact aAe 2);(exact aAe 0));(refine aAc ?_ ?_;(refine aCl Q7 T.aLl T.aJg rfl rfl ?_;(refine aAa ?_ ?_;(refine aIa ?_;(refine aPr ?_;(refine aSx ?_ ?_;(exact aAe 2);(exact aSy))));(exact aAk)));(exact aAi));(exact aAi));(exact aAi)));(refine aAc ?_ ?_;(refine aCw ?_;(refine aKx rfl T.aO1 ?_;(exact aAe 1)));(exact aAi)))
def aEh:List Str:=["columns"]
theorem aOa:aA5 aEh ["columns"] (aAm aJw):=by constructor<;>first | rfl | decide+kernel
def aDl (t:Adr):Rho->Option Out:=
  (aAy (sIf (aA9 (b2 gNe (f1 bJe (f1 toS (look 0))) (f1 aPd (look 0)))) (aAy (aDb t.aAb (aAh (con (.str "a column stands twice")) aBf))
  aA8) aA8)
  aA8)
theorem aDs (T:Txt K mg t){k:Nat}{F:List D->M D}(hL: ∀ds r,F ds=some r->ds.length=1)(hq: ∀ds r,F ds=some r->aBq (aDl t (aCz aEh ds))=some r):Def P w K mg base (k+1) "check_once" F:=by
 obtain⟨fd,Fu,bi⟩:=T.aAt;refine⟨_,_,_,T.aQc,Fu.kp,bi,hL,bBy Fu aOa hL fun cdv A outer s H E hr=>⟨aDl t,fun B=> ?_,hq⟩⟩;refine aAc ?_ ?_;(refine aCm ?_ ?_ ?_;(refine bCq ?_ ?_;(refine bEf rfl T.aY9 ?_;(refine aS4 rfl rfl T.bB7 ?_;(exact aAe 0)));(refine aS6 rfl T.aY9 ?_;(exact aAe 0)));(refine aAc ?_ ?_;(refine aCl Q7 T.aLl T.aJg rfl rfl ?_;(refine aAa ?_ ?_;(exact aFs);(exact aAk)));(exact aAi));(exact aAi));(exact aAi)
def aC8:List Str:=["head","other"]
theorem aKm:aA5 aC8 ["head","other"] (aAm aFo):=by constructor<;>first | rfl | decide+kernel
def aCe (t:Adr):Rho->Option Out:=
  (aAy (sIf (aA9 (b2 bIo (f1 toS (look 0)) (f1 toS (look 1)))) (aAy (aDb t.aAo (aAh (con (.str "the columns are not the same")) aBf))
  aA8) aA8)
  (aAy (aH7 (f1 toT (look 0)))
  aA8))
theorem aKq (T:Txt K mg t){k:Nat}{F:List D->M D}(hL: ∀ds r,F ds=some r->ds.length=2)(hq: ∀ds r,F ds=some r->aBq (aCe t (aCz aC8 ds))=some r):Def P w K mg base (k+1) "together_head" F:=by
 obtain⟨fd,Fu,bi⟩:=T.aBt;refine⟨_,_,_,T.aMc,Fu.kp,bi,hL,bBy Fu aKm hL fun cdv A outer s H E hr=>⟨aCe t,fun B=> ?_,hq⟩⟩;refine aAc ?_ ?_;(refine aCm ?_ ?_ ?_;(refine bEa hr ?_ ?_;(refine aS4 rfl rfl T.bB7 ?_;(exact aAe 0));(refine aS4 rfl rfl T.bB7 ?_;(exact aAe 1)));(refine aAc ?_ ?_;(refine aCl Q7 T.aZ4 T.aYn rfl rfl ?_;(refine aAa ?_ ?_;(exact aFs);(exact aAk)));(exact aAi));(exact aAi));(refine aAc ?_ ?_;(refine aCw ?_;(refine aKx rfl T.aO1 ?_;(exact aAe 0)));(exact aAi))
def aGe:List Str:=["thing","least"]
theorem aRa:aA5 aGe ["thing","least"] (aAm aNn):=by constructor<;>first | rfl | decide+kernel
def aEe (t:Adr):Rho->Option Out:=
  (aAy (aH7 (bGh (isi "int" (look 0)) (bGh (bKr (isi "bool" (look 0))) (b2 gGe (look 0) (look 1)))))
  aA8)
theorem aHe (T:Txt K mg t){k:Nat}{F:List D->M D}(h:OkF 2 aGe (aEe t) F):Def P w K mg base (k+1) "is_whole" F:=by
 obtain⟨hL,hq⟩:=h;obtain⟨fd,Fu,bi⟩:=T.aAu;refine⟨_,_,_,T.aU2,Fu.kp,bi,hL,bC7 Fu aRa hL fun cdv A outer s H E hr=>⟨aEe t,fun B=> ?_,hq⟩⟩;refine aAc ?_ ?_;(refine aCw ?_;(refine bCt ?_ ?_;(refine bCr (T:="int") rfl T.aAw rfl T.bLj (by decide+kernel) (by decide) ?_;(exact aAe 0));(refine bCt ?_ ?_;(refine bHk ?_;(refine bCr (T:="bool") rfl T.aAw rfl T.bI6 (by decide+kernel) (by decide) ?_;(exact aAe 0)));(refine bHj ?_;(refine bKl ?_ ?_;(exact aAe 0);(exact aAe 1))))));(exact aAi)
def bCb:List Str:=["things"]
def aVu:List Str:=["?0","ahead","behind"]
def aYw (t:Adr):Rho->Option Out:=
  (aAy (aH7 (f1 bL6 (cmp 2 (itZ (look 0) (aZx (look 0) (aM5 (con (.int 1))) aM6)) [1,2] h2 (fun _=>ok true) (b2 bNe (look 1) (look 2)))))
  aA8)
def aZd:List Str:=["name"]
theorem bDv:aA5 aZd ["name"] (aAm bCk):=by constructor<;>first | rfl | decide+kernel
def aOy (t:Adr):Rho->Option Out:=
  (aAy (aH7 (mkT (aAh (mkT (aAh (mkT (aAh (look 0) aBf)) (aAh (con (.int 1)) aBf))) aBf)))
  aA8)
theorem bEr (T:Txt K mg t){k:Nat}{F:List D->M D}(h:OkF 1 aZd (aOy t) F):Def P w K mg base (k+1) "bare" F:=by
 obtain⟨hL,hq⟩:=h;obtain⟨fd,Fu,bi⟩:=T.aN2;refine⟨_,_,_,T.bIl,Fu.kp,bi,hL,bC7 Fu bDv hL fun cdv A outer s H E hr=>⟨aOy t,fun B=> ?_,hq⟩⟩;refine aAc ?_ ?_;(refine aCw ?_;(refine aDc ?_;(refine aAa ?_ ?_;(refine aDc ?_;(refine aAa ?_ ?_;(refine aDc ?_;(refine aAa ?_ ?_;(exact aAe 0);(exact aAk)));(refine aAa ?_ ?_;(exact aAr);(exact aAk))));(exact aAk))));(exact aAi)
def aO4:List Str:=["some","way","marks"]
theorem bAg:aA5 aO4 ["some","way","marks"] (aAm aWo):=by constructor<;>first | rfl | decide+kernel
def aIh (t:Adr)(aB0:List D->M D):Rho->Option Out:=
  (aAy (aD1 (app aB0 (aAh (look 0) (aAh (look 2) aBf))))
  (aAy (aH7 (fun _=>none))
  aA8))
theorem bA0 (T:Txt K mg t){k:Nat}{aB0:List D->M D}(aO7:Def P w K mg base k "check_names" aB0){F:List D->M D}(hL: ∀ds r,F ds=some r->ds.length=3)(hq: ∀ds r,F ds=some r->aBq (aIh t aB0 (aCz aO4 ds))=some r):Def P w K mg base (k+1) "worth" F:=by
 obtain⟨fd,Fu,bi⟩:=T.aJo;refine⟨_,_,_,T.bFg,Fu.kp,bi,hL,bBy Fu bAg hL fun cdv A outer s H E hr=>⟨aIh t aB0,fun B=> ?_,hq⟩⟩;refine aAc ?_ ?_;(refine aB6 ?_;(refine aBs aO7 hr rfl ?_;(refine aAa ?_ ?_;(exact aAe 0);(refine aAa ?_ ?_;(exact aAe 2);(exact aAk)))));(refine aAc ?_ ?_;(refine aCw ?_;(exact aS5));(exact aAi))
def aDx:List Str:=["some","marks","name"]
theorem aGu:aA5 aDx ["some","marks"] (aAm aH5):=by constructor<;>first | rfl | decide+kernel
def aC5 (t:Adr)(aDh:List D->M D):Rho->Option Out:=
  (aAy (aWt (app aDh (aAh (look 0) aBf)) (gN 2) (aAy (sIf (aA9 (b2 (aTl true) (look 2) (look 1))) (aAy (aDb t.aAf (aAh (jnd (aTf "no mark is told for " (aX4 (look 2) aVs))) aBf))
  aA8) aA8)
  aA8))
  aA8)
theorem aM3 (T:Txt K mg t){k:Nat}{aDh:List D->M D}(aVf:Def P w K mg base k "names_in" aDh){F:List D->M D}(hL: ∀ds r,F ds=some r->ds.length=2)(hq: ∀ds r,F ds=some r->aBq (aC5 t aDh (aCz aDx ds))=some r):Def P w K mg base (k+1) "check_names" F:=by
 obtain⟨fd,Fu,bi⟩:=T.aB0;refine⟨_,_,_,T.aOs,Fu.kp,bi,hL,bBy Fu aGu hL fun cdv A outer s H E hr=>⟨aC5 t aDh,fun B=> ?_,hq⟩⟩;refine aAc ?_ ?_;(refine bAu PassesOwn.leaving rfl ?_ (fun B=> ?_) (fun B=> ?_);(refine aBs aVf hr rfl ?_;(refine aAa ?_ ?_;(exact aAe 0);(exact aAk)));(exact aKw (i:=2) (aGu).nd rfl (Zf rfl));(refine aAc ?_ ?_;(refine aCm ?_ ?_ ?_;(refine aNs hr ?_ ?_;(exact aAe 2);(exact aAe 1));(refine aAc ?_ ?_;(refine aCl Q7 T.aV5 T.aTj rfl rfl ?_;(refine aAa ?_ ?_;(refine aIa ?_;(refine aPr ?_;(refine aSx ?_ ?_;(exact aAe 2);(exact aSy))));(exact aAk)));(exact aAi));(exact aAi));(exact aAi)));(exact aAi)
def aGd:List Str:=["some","names","entry"]
theorem aHc:aA5 aGd ["some"] (aAm aNl):=by constructor<;>first | rfl | decide+kernel
def aEd (t:Adr):Rho->Option Out:=
  (aAy (sNew 1 aBf)
  (aAy (aM0 0 (gN 2) (aAy (aUf 1 (aAh (b2 gIx (look 2) (con (.int 0))) aBf))
  aA8))
  (aAy (aH7 (f1 bGs (f1 toS (look 1))))
  aA8)))
theorem aRj (T:Txt K mg t){k:Nat}{F:List D->M D}(h:OkF 1 aGd (aEd t) F):Def P w K mg base (k+1) "names_in" F:=by
 obtain⟨hL,hq⟩:=h;obtain⟨fd,Fu,bi⟩:=T.aDh;refine⟨_,_,_,T.aU0,Fu.kp,bi,hL,bC7 Fu aHc hL fun cdv A outer s H E hr=>⟨aEd t,fun B=> ?_,hq⟩⟩;refine aAc ?_ ?_;(refine bEd (i:=1) (aHc).nd rfl (Zf rfl) ?_;(exact aAk));(refine aAc ?_ ?_;(refine aOe 0 rfl (Zf rfl) PassesOwn.never rfl (fun B=> ?_) (fun B=> ?_);(exact aKw (i:=2) (aHc).nd rfl (Zf rfl));(refine aAc ?_ ?_;(refine aRg (i:=1) rfl (Zf rfl) ?_;(refine aHd ?_ ?_ (fun _ _=>rfl);(exact aAe 2);(exact aAr)));(exact aAi)));(refine aAc ?_ ?_;(refine aCw ?_;(refine aW4 rfl rfl T.bB6 ?_;(refine aS4 rfl rfl T.bB7 ?_;(exact aAe 1))));(exact aAi)))
def aEg:List Str:=["way","head","pairs","row","mark"]
theorem aH1:aA5 aEg ["way","head","pairs"] (aAm aJv):=by constructor<;>first | rfl | decide+kernel
def aDk (t:Adr)(aAt:List D->M D)(aF8:Addr->Option (List D->M D)):Rho->Option Out:=
  (aAy (aD1 (app aAt (aAh (look 1) aBf)))
  (aAy (aM0 2 (gN2 3 4) (aAy (sIf (aA9 (b2 gNe (f1 aPd (look 3)) (f1 aPd (look 1)))) (aAy (aDb t.aAn (aAh (con (.str "a row is not as long as the head")) aBf))
  aA8) aA8)
  (aAy (sIf (bCu (test (bB8 "is_mark" aF8 (look 0) (aAh (look 4) aBf)))) (aAy (aDb t.aAg (aAh (con (.str "a row has no mark of the way")) aBf))
  aA8) aA8)
  aA8)))
  (aAy (aH7 (mkT (aAh (f1 toT (look 1)) (aAh (fun _=>none) aBf))))
  aA8)))
theorem aOk (T:Txt K mg t){k:Nat}{aAt:List D->M D}(aDo:Def P w K mg base k "check_once" aAt){aF8:Addr->Option (List D->M D)}(aVh: ∀C F,aF8 C=some F->Mth P w K mg base k C "is_mark" F){F:List D->M D}(hL: ∀ds r,F ds=some r->ds.length=3)(hq: ∀ds r,F ds=some r->aBq (aDk t aAt aF8 (aCz aEg ds))=some r):Def P w K mg base (k+1) "make_table" F:=by
 obtain⟨fd,Fu,bi⟩:=T.aCb;refine⟨_,_,_,T.aQb,Fu.kp,bi,hL,bBy Fu aH1 hL fun cdv A outer s H E hr=>⟨aDk t aAt aF8,fun B=> ?_,hq⟩⟩;refine aAc ?_ ?_;(refine aB6 ?_;(refine aBs aDo hr rfl ?_;(refine aAa ?_ ?_;(exact aAe 1);(exact aAk))));(refine aAc ?_ ?_;(refine aOe 2 rfl (Zf rfl) PassesOwn.leaving rfl (fun B=> ?_) (fun B=> ?_);(exact bAx (i:=3) (j:=4) rfl (aH1).nd rfl (Zf rfl) rfl (Zf rfl));(refine aAc ?_ ?_;(refine aCm ?_ ?_ ?_;(refine bCq ?_ ?_;(refine aS6 rfl T.aY9 ?_;(exact aAe 3));(refine aS6 rfl T.aY9 ?_;(exact aAe 1)));(refine aAc ?_ ?_;(refine aCl Q7 T.aZ3 T.aYl rfl rfl ?_;(refine aAa ?_ ?_;(exact aFs);(exact aAk)));(exact aAi));(exact aAi));(refine aAc ?_ ?_;(refine aCm ?_ ?_ ?_;(refine aRf ?_;(refine aRe ?_;(refine aOj aVh hr ?_ ?_;(exact aAe 0);(refine aAa ?_ ?_;(exact aAe 4);(exact aAk)))));(refine aAc ?_ ?_;(refine aCl Q7 T.aV6 T.aTk rfl rfl ?_;(refine aAa ?_ ?_;(exact aFs);(exact aAk)));(exact aAi));(exact aAi));(exact aAi))));(refine aAc ?_ ?_;(refine aCw ?_;(refine aDc ?_;(refine aAa ?_ ?_;(refine aKx rfl T.aO1 ?_;(exact aAe 1));(refine aAa ?_ ?_;(exact aS5);(exact aAk)))));(exact aAi)))
def aKt:List Str:=["self"]
theorem aI8:aA5 aKt ["self"] (aAm aCo):=by constructor<;>first | rfl | decide+kernel
def aTq (t:Adr):Rho->Option Out:=
  (aAy (aM1 (cs t) 0 "made" bIz)
  (aAy (aM1 (cs t) 0 "placed" bIz)
  aA8))
def aC1:List Str:=["self","table","head"]
theorem aH2:aA5 aC1 ["self","table","head"] (aAm aD9):=by constructor<;>first | rfl | decide+kernel
def aDm (t:Adr)(aAt:List D->M D):Rho->Option Out:=
  (aAy (sIf (aA9 (b2 (aTl false) (look 1) (fld (cs t) "made" (look 0)))) (aAy (aDb t.aAl (aAh (jnd (aTf "there is a table " (aX4 (look 1) (aTf " already" aVs)))) aBf))
  aA8) aA8)
  (aAy (aD1 (app aAt (aAh (look 2) aBf)))
  (aAy (fun _=>none)
  aA8)))
theorem aOl (T:Txt K mg t){k:Nat}{aAt:List D->M D}(aDo:Def P w K mg base k "check_once" aAt){F:List D->M D}(hL: ∀ds r,F ds=some r->ds.length=3)(hq: ∀ds r,F ds=some r->aBq (aDm t aAt (aCz aC1 ds))=some r):Mth P w K mg base (k+1) t.aAv "make" F:=by
 obtain⟨fd,Fu,bi⟩:=T.aJ3;refine⟨_,_,_,T.aKz,T.aIe,bi,hL,bBy Fu aH2 hL fun cdv A outer s H E hr=>⟨aDm t aAt,fun B=> ?_,hq⟩⟩;refine aAc ?_ ?_;(refine aCm ?_ ?_ ?_;(refine aW0 hr ?_ ?_;(exact aAe 1);(refine aW6 (f:="made") (T.aHf) ?_;(exact aAe 0)));(refine aAc ?_ ?_;(refine aCl Q7 T.aZ2 T.aYj rfl rfl ?_;(refine aAa ?_ ?_;(refine aIa ?_;(refine aPr ?_;(refine aSx ?_ ?_;(exact aAe 1);(refine aPr ?_;(exact aSy)))));(exact aAk)));(exact aAi));(exact aAi));(refine aAc ?_ ?_;(refine aB6 ?_;(refine aBs aDo hr rfl ?_;(refine aAa ?_ ?_;(exact aAe 2);(exact aAk))));(refine aAc ?_ ?_;(exact aH9);(exact aAi)))
def aBz:List Str:=["self","table"]
theorem aGp:aA5 aBz ["self","table"] (aAm aD0):=by constructor<;>first | rfl | decide+kernel
def aBp (t:Adr):Rho->Option Out:=
  (aAy (sIf (aA9 (b2 (aTl true) (look 1) (fld (cs t) "made" (look 0)))) (aAy (aDb t.aAd (aAh (jnd (aTf "there is no table " (aX4 (look 1) aVs))) aBf))
  aA8) aA8)
  aA8)
theorem aGq (T:Txt K mg t){k:Nat}{F:List D->M D}(hL: ∀ds r,F ds=some r->ds.length=2)(hq: ∀ds r,F ds=some r->aBq (aBp t (aCz aBz ds))=some r):Mth P w K mg base (k+1) t.aAv "check_table" F:=by
 obtain⟨fd,Fu,bi⟩:=T.aHo;refine⟨_,_,_,T.aKz,T.aGr,bi,hL,bBy Fu aGp hL fun cdv A outer s H E hr=>⟨aBp t,fun B=> ?_,hq⟩⟩;refine aAc ?_ ?_;(refine aCm ?_ ?_ ?_;(refine aNs hr ?_ ?_;(exact aAe 1);(refine aW6 (f:="made") (T.aHf) ?_;(exact aAe 0)));(refine aAc ?_ ?_;(refine aCl Q7 T.aT9 T.aQd rfl rfl ?_;(refine aAa ?_ ?_;(refine aIa ?_;(refine aPr ?_;(refine aSx ?_ ?_;(exact aAe 1);(exact aSy))));(exact aAk)));(exact aAi));(exact aAi));(exact aAi)
def aDy:List Str:=["self","table"]
theorem aMy:aA5 aDy ["self","table"] (aAm aH6):=by constructor<;>first | rfl | decide+kernel
def aC6 (t:Adr)(aCi:Addr->Option (List D->M D)):Rho->Option Out:=
  (aAy (aD1 (bB8 "check_table" aCi (look 0) (aAh (look 1) aBf)))
  (aAy (fun _=>none)
  aA8))
theorem aM4 (T:Txt K mg t){k:Nat}{aCi:Addr->Option (List D->M D)}(aNf: ∀C F,aCi C=some F->Mth P w K mg base k C "check_table" F){F:List D->M D}(hL: ∀ds r,F ds=some r->ds.length=2)(hq: ∀ds r,F ds=some r->aBq (aC6 t aCi (aCz aDy ds))=some r):Mth P w K mg base (k+1) t.aAv "names" F:=by
 obtain⟨fd,Fu,bi⟩:=T.aO9;refine⟨_,_,_,T.aKz,T.aM7,bi,hL,bBy Fu aMy hL fun cdv A outer s H E hr=>⟨aC6 t aCi,fun B=> ?_,hq⟩⟩;refine aAc ?_ ?_;(refine aB6 ?_;(refine aOj aNf hr ?_ ?_;(exact aAe 0);(refine aAa ?_ ?_;(exact aAe 1);(exact aAk))));(refine aAc ?_ ?_;(exact aH9);(exact aAi))
def aCh:List Str:=["self"]
theorem aH4:aA5 aCh ["self"] (aAm aEo):=by constructor<;>first | rfl | decide+kernel
def aBy (t:Adr):Rho->Option Out:=
  (aAy (aM1 (cs t) 0 "nought" (con (.int 0)))
  (aAy (aM1 (cs t) 0 "one" (con (.int 1)))
  aA8))
theorem aIc (T:Txt K mg t){k:Nat}{F:List D->M (List (Str×D))}(h:OkI 1 t.aAz aCh (aBy t) F):Ctor P w K mg base (k+1) "Counts" t.aAz F:=by
 obtain⟨hL,hq⟩:=h;obtain⟨fd,Fu,bi⟩:=T.aJq;refine⟨_,_,_,T.bBw,T.aXk,bi,hL,bIi Fu aH4 hL fun cdv A outer s H E hr=>⟨aBy t,fun B=> ?_,hq⟩⟩;refine aAc ?_ ?_;(refine aGb (f:="nought") (i:=0) (T.aL1) rfl (Zf rfl) ?_;(exact aAr));(refine aAc ?_ ?_;(refine aGb (f:="one") (i:=0) (T.aXb) rfl (Zf rfl) ?_;(exact aAr));(exact aAi))
def aCv:List Str:=["self","thing"]
theorem aI9:aA5 aCv ["self","thing"] (aAm aE7):=by constructor<;>first | rfl | decide+kernel
def aB8 (t:Adr)(aAu:List D->M D):Rho->Option Out:=
  (aAy (aH7 (app aAu (aAh (look 1) (aAh (con (.int 0)) aBf))))
  aA8)
theorem aJc (T:Txt K mg t){k:Nat}{aAu:List D->M D}(aEy:Def P w K mg base k "is_whole" aAu){F:List D->M D}(h:OkF 2 aCv (aB8 t aAu) F):Mth P w K mg base (k+1) t.aAz "is_mark" F:=by
 obtain⟨hL,hq⟩:=h;obtain⟨fd,Fu,bi⟩:=T.aKu;refine⟨_,_,_,T.aY2,T.aJe,bi,hL,bC7 Fu aI9 hL fun cdv A outer s H E hr=>⟨aB8 t aAu,fun B=> ?_,hq⟩⟩;refine aAc ?_ ?_;(refine aCw ?_;(refine aBs aEy hr rfl ?_;(refine aAa ?_ ?_;(exact aAe 1);(refine aAa ?_ ?_;(exact aAr);(exact aAk)))));(exact aAi)
def aCg:List Str:=["self","many"]
theorem aH3:aA5 aCg ["self","many"] (aAm aEn):=by constructor<;>first | rfl | decide+kernel
def aBx (t:Adr)(aAu:List D->M D):Rho->Option Out:=
  (aAy (sIf (bCu (test (app aAu (aAh (look 1) (aAh (con (.int 2)) aBf))))) (aAy (aDb t.aAj (aAh (con (.str "rounds go by a whole number from 2 on")) aBf))
  aA8) aA8)
  (aAy (aWu (cs t) 0 "many" 1)
  (aAy (aM1 (cs t) 0 "nought" (con (.int 0)))
  (aAy (aM1 (cs t) 0 "one" (con (.int 1)))
  aA8))))
theorem aIb (T:Txt K mg t){k:Nat}{aAu:List D->M D}(aEy:Def P w K mg base k "is_whole" aAu){F:List D->M (List (Str×D))}(hL: ∀ds r,F ds=some r->ds.length+1=2)(hq: ∀ds r a dx,F ds=some r->aL9 a t.aA6 dx (aBx t aAu (aPc aCg a t.aA6 dx ds))=some r):Ctor P w K mg base (k+1) "Rounds" t.aA6 F:=by
 obtain⟨fd,Fu,bi⟩:=T.aJp;refine⟨_,_,_,T.bBu,T.aXj,bi,hL,bC3 Fu aH3 hL fun cdv A outer s H E hr=>⟨aBx t aAu,fun B=> ?_,hq⟩⟩;refine aAc ?_ ?_;(refine aCm ?_ ?_ ?_;(refine aRf ?_;(refine aRe ?_;(refine aBs aEy hr rfl ?_;(refine aAa ?_ ?_;(exact aAe 1);(refine aAa ?_ ?_;(exact aAr);(exact aAk))))));(refine aAc ?_ ?_;(refine aCl Q7 T.aSl T.aRy rfl rfl ?_;(refine aAa ?_ ?_;(exact aFs);(exact aAk)));(exact aAi));(exact aAi));(refine aAc ?_ ?_;(exact aS2 (f:="many") (i:=0) (j:=1) (T.aXc) rfl (Zf rfl) rfl (Zf rfl));(refine aAc ?_ ?_;(refine aGb (f:="nought") (i:=0) (T.aL1) rfl (Zf rfl) ?_;(exact aAr));(refine aAc ?_ ?_;(refine aGb (f:="one") (i:=0) (T.aXb) rfl (Zf rfl) ?_;(exact aAr));(exact aAi))))
def aVv:List Str:=["self","thing"]
def aTr (t:Adr)(aAu:List D->M D):Rho->Option Out:=
  (aAy (aH7 (bGh (app aAu (aAh (look 1) (aAh (con (.int 0)) aBf))) (b2 gLt (look 1) (fld (cs t) "many" (look 0)))))
  aA8)
def aC9:List Str:=["self","many"]
theorem aKn:aA5 aC9 ["self","many"] (aAm aFp):=by constructor<;>first | rfl | decide+kernel
def aCf (t:Adr)(aAu:List D->M D):Rho->Option Out:=
  (aAy (sIf (bCu (test (app aAu (aAh (look 1) (aAh (con (.int 1)) aBf))))) (aAy (aDb t.aAj (aAh (con (.str "lows keep a whole number from 1 on")) aBf))
  aA8) aA8)
  (aAy (aWu (cs t) 0 "many" 1)
  (aAy (aM1 (cs t) 0 "nought" (mkT aBf))
  (aAy (aM1 (cs t) 0 "one" (mkT (aAh (con (.int 0)) aBf)))
  aA8))))
theorem aKr (T:Txt K mg t){k:Nat}{aAu:List D->M D}(aEy:Def P w K mg base k "is_whole" aAu){F:List D->M (List (Str×D))}(hL: ∀ds r,F ds=some r->ds.length+1=2)(hq: ∀ds r a dx,F ds=some r->aL9 a t.aCj dx (aCf t aAu (aPc aC9 a t.aCj dx ds))=some r):Ctor P w K mg base (k+1) "Lows" t.aCj F:=by
 obtain⟨fd,Fu,bi⟩:=T.aMg;refine⟨_,_,_,T.bIm,T.bE0,bi,hL,bC3 Fu aKn hL fun cdv A outer s H E hr=>⟨aCf t aAu,fun B=> ?_,hq⟩⟩;refine aAc ?_ ?_;(refine aCm ?_ ?_ ?_;(refine aRf ?_;(refine aRe ?_;(refine aBs aEy hr rfl ?_;(refine aAa ?_ ?_;(exact aAe 1);(refine aAa ?_ ?_;(exact aAr);(exact aAk))))));(refine aAc ?_ ?_;(refine aCl Q7 T.aSl T.aRy rfl rfl ?_;(refine aAa ?_ ?_;(exact aFs);(exact aAk)));(exact aAi));(exact aAi));(refine aAc ?_ ?_;(exact aS2 (f:="many") (i:=0) (j:=1) (T.aXc) rfl (Zf rfl) rfl (Zf rfl));(refine aAc ?_ ?_;(refine aGb (f:="nought") (i:=0) (T.aL1) rfl (Zf rfl) ?_;(refine aDc ?_;(exact aAk)));(refine aAc ?_ ?_;(refine aGb (f:="one") (i:=0) (T.aXb) rfl (Zf rfl) ?_;(refine aDc ?_;(refine aAa ?_ ?_;(exact aAr);(exact aAk))));(exact aAi))))
def aZ0:List Str:=["self","thing"]
def aVd:List Str:=["?0","?1","low"]
def aVt (t:Adr)(aAu:List D->M D)(aIi:List D->M D):Rho->Option Out:=
  (aAy (sIf (orB (bCu (test (isi "tuple" (look 1)))) (aA9 (b2 gGt (f1 aPd (look 1)) (fld (cs t) "many" (look 0))))) (aAy (aH7 (con (.bl false)))
  aA8) aA8)
  (aAy (aH7 (bGh (f1 bL6 (cmp 1 (itE (look 1)) [2] h1 (fun _=>ok true) (app aAu (aAh (look 2) (aAh (con (.int 0)) aBf))))) (app aIi (aAh (look 1) aBf))))
  aA8))
def aO5:List Str:=["_law_script","_law_k"]
theorem aWn:aA5 aO5 ["_law_script","_law_k"] (aAm aSv):=by constructor<;>first | rfl | decide+kernel
def aNy (t:Adr):Rho->Option Out:=
  (aAy (sIf (aA9 (b2 gLt (look 1) (f1 aPd (look 0)))) (aAy (aH7 (b2 gIx (look 0) (look 1)))
  aA8) aA8)
  (aAy (aH7 (con (.int 0)))
  aA8))
theorem aW9 (T:Txt K mg t){k:Nat}{F:List D->M D}(h:OkF 2 aO5 (aNy t) F):Def P w K mg base (k+1) "_law_at" F:=by
 obtain⟨hL,hq⟩:=h;obtain⟨fd,Fu,bi⟩:=T.aEi;refine⟨_,_,_,T.bBt,Fu.kp,bi,hL,bC7 Fu aWn hL fun cdv A outer s H E hr=>⟨aNy t,fun B=> ?_,hq⟩⟩;refine aAc ?_ ?_;(refine aCm ?_ ?_ ?_;(refine bHg ?_ ?_;(exact aAe 1);(refine aS6 rfl T.aY9 ?_;(exact aAe 0)));(refine aAc ?_ ?_;(refine aCw ?_;(refine aHd ?_ ?_ (fun _ _=>rfl);(exact aAe 0);(exact aAe 1)));(exact aAi));(exact aAi));(refine aAc ?_ ?_;(refine aCw ?_;(exact aAr));(exact aAi))
def aJn:List Str:=["_law_style","_law_k","_law_at_here"]
theorem aLr:aA5 aJn ["_law_style","_law_k"] (aAm aNm):=by constructor<;>first | rfl | decide+kernel
def aJ0 (t:Adr):Rho->Option Out:=
  (aAy (aLu 2 (b2 aGs (b2 aD4 (b2 aF4 (con (.int 5)) (look 1)) (look 0)) (con (.int 23))))
  (aAy (sIf (aA9 (b2 gEq (b2 aGs (b2 aHj (look 0) (con (.int 23))) (con (.int 3))) (con (.int 1)))) (aAy (aH7 (b2 aD4 (aZx (con (.str "zz")) aM6 (aM5 (b2 aGs (look 0) (con (.int 3))))) (b2 aF4 (con (.str "a")) (look 2))))
  aA8) aA8)
  (aAy (aH7 (b2 aD4 (b2 aD4 (aZx (con (.str "zyzy")) aM6 (aM5 (b2 aGs (b2 aHj (look 0) (con (.int 69))) (con (.int 4))))) (b2 gIx (con (.str "aXq 0~zB-c!_dEf.gH1i(jK")) (look 2))) (aZx (con (.str "yzzy")) aM6 (aM5 (b2 aGs (b2 aHj (look 0) (con (.int 276))) (con (.int 4)))))))
  aA8)))
theorem aRk (T:Txt K mg t){k:Nat}{F:List D->M D}(h:OkF 2 aJn (aJ0 t) F):Def P w K mg base (k+1) "_law_name" F:=by
 obtain⟨hL,hq⟩:=h;obtain⟨fd,Fu,bi⟩:=T.aDi;refine⟨_,_,_,T.aU1,Fu.kp,bi,hL,bC7 Fu aLr hL fun cdv A outer s H E hr=>⟨aJ0 t,fun B=> ?_,hq⟩⟩;refine aAc ?_ ?_;(refine aE0 (i:=2) (aLr).nd rfl (Zf rfl) ?_;(refine aJx ?_ ?_;(refine aFt ?_ ?_;(refine aS3 ?_ ?_;(exact aAr);(exact aAe 1));(exact aAe 0));(exact aAr)));(refine aAc ?_ ?_;(refine aCm ?_ ?_ ?_;(refine aDn ?_ ?_;(refine aJx ?_ ?_;(refine aRh ?_ ?_;(exact aAe 0);(exact aAr));(exact aAr));(exact aAr));(refine aAc ?_ ?_;(refine aCw ?_;(refine aFt ?_ ?_;(refine aOi ?_ ?_ ?_;(exact aFs);(exact aOh);(refine aOg ?_;(refine aJx ?_ ?_;(exact aAe 0);(exact aAr))));(refine aS3 ?_ ?_;(exact aFs);(exact aAe 2))));(exact aAi));(exact aAi));(refine aAc ?_ ?_;(refine aCw ?_;(refine aFt ?_ ?_;(refine aFt ?_ ?_;(refine aOi ?_ ?_ ?_;(exact aFs);(exact aOh);(refine aOg ?_;(refine aJx ?_ ?_;(refine aRh ?_ ?_;(exact aAe 0);(exact aAr));(exact aAr))));(refine aHd ?_ ?_ (fun _ _=>rfl);(exact aFs);(exact aAe 2)));(refine aOi ?_ ?_ ?_;(exact aFs);(exact aOh);(refine aOg ?_;(refine aJx ?_ ?_;(refine aRh ?_ ?_;(exact aAe 0);(exact aAr));(exact aAr))))));(exact aAi)))
def aA0:List Str:=["_law_which","_law_names","_law_number","_law_store"]
theorem aDz:aA5 aA0 ["_law_which","_law_names","_law_number"] (aAm aA3):=by constructor<;>first | rfl | decide+kernel
def aFe (t:Adr)(aN2:List D->M D)(aDj:List D->M D)(aCb:List D->M D)(aBt:List D->M D)(aJo:List D->M D)(aGf:List D->M (List (Str×D)))(aT2:List D->M (List (Str×D)))(aK0:List D->M (List (Str×D)))(aPa:List D->M (List (Str×D)))(aO6:Addr->Option (List D->M D)):Rho->Option Out:=
  (aAy (aLu 3 (fun _=>mkO t.aAv aPa []))
  (aAy (sIf (aA9 (b2 gEq (look 0) (con (.int 0)))) (aAy (aD1 (app (mkO t.aA6 aK0) (aAh (b2 bBx (con (.int 1)) (look 2)) aBf)))
  aA8) (aAy (sIf (aA9 (b2 gEq (look 0) (con (.int 1)))) (aAy (aD1 (app aCb (aAh (fun _=>mkO t.aAz aGf []) (aAh (mkT (aAh (b2 gIx (look 1) (con (.int 0))) aBf)) (aAh (mkL (aAh (mkT (aAh (mkT (aAh (look 2) aBf)) (aAh (b2 bBx (f1 bKt (con (.int 1))) (look 2)) aBf))) aBf)) aBf)))))
  aA8) (aAy (sIf (aA9 (b2 gEq (look 0) (con (.int 2)))) (aAy (aD1 (app aJo (aAh (app aN2 (aAh (b2 gIx (look 1) (con (.int 0))) aBf)) (aAh (fun _=>mkO t.aAz aGf []) (aAh (bIy (b2 gIx (look 1) (con (.int 1))) (look 2)) aBf)))))
  aA8) (aAy (sIf (aA9 (b2 gEq (look 0) (con (.int 3)))) (aAy (aD1 (app aDj (aAh (mkT (aAh (b2 gIx (look 1) (con (.int 0))) aBf)) (aAh (mkT (aAh (b2 gIx (look 1) (con (.int 1))) aBf)) aBf))))
  aA8) (aAy (sIf (aA9 (b2 gEq (look 0) (con (.int 4)))) (aAy (aD1 (app aCb (aAh (fun _=>mkO t.aAz aGf []) (aAh (mkT (aAh (b2 gIx (look 1) (con (.int 0))) aBf)) (aAh (mkL (aAh (mkT (aAh (mkT (aAh (con (.int 0)) (aAh (look 2) aBf))) (aAh (con (.int 1)) aBf))) aBf)) aBf)))))
  aA8) (aAy (sIf (aA9 (b2 gEq (look 0) (con (.int 5)))) (aAy (aD1 (bB8 "names" aO6 (look 3) (aAh (b2 gIx (look 1) (con (.int 0))) aBf)))
  aA8) (aAy (sIf (aA9 (b2 gEq (look 0) (con (.int 6)))) (aAy (aD1 (app aBt (aAh (mkT (aAh (b2 gIx (look 1) (con (.int 0))) aBf)) (aAh (mkT (aAh (b2 gIx (look 1) (con (.int 1))) aBf)) aBf))))
  aA8) (aAy (sIf (aA9 (b2 gEq (look 0) (con (.int 7)))) (aAy (fun _=>none)
  (aAy (fun _=>none)
  aA8)) (aAy (aD1 (app (mkO t.aCj aT2) (aAh (b2 bBx (con (.int 0)) (look 2)) aBf)))
  aA8))
  aA8))
  aA8))
  aA8))
  aA8))
  aA8))
  aA8))
  aA8))
  aA8))
theorem aLn (T:Txt K mg t){k k':Nat}(hk:k'+1<=k){aN2:List D->M D}(bJa:Def P w K mg base k "bare" aN2){aDj:List D->M D}(aSg:Def P w K mg base k "kept_head" aDj){aCb:List D->M D}(aJ2:Def P w K mg base k "make_table" aCb){aBt:List D->M D}(aMf:Def P w K mg base k "together_head" aBt){aJo:List D->M D}(bGb:Def P w K mg base k "worth" aJo){aGf:List D->M (List (Str×D))}(aO8:Ctor P w K mg base k' "Counts" t.aAz aGf){aT2:List D->M (List (Str×D))}(bJb:Ctor P w K mg base k' "Lows" t.aCj aT2){aK0:List D->M (List (Str×D))}(bCd:Ctor P w K mg base k' "Rounds" t.aA6 aK0){aPa:List D->M (List (Str×D))}(bGc:Ctor P w K mg base k' "Store" t.aAv aPa){aO6:Addr->Option (List D->M D)}(bCe: ∀C F,aO6 C=some F->Mth P w K mg base k C "names" F){cdv:Qd}{A:Za}{outer:List Env}{s:Qf}{H:Hp}{E:XK}(hr:aEx k (A.deeper (envOfC "_law_provoked" (aAm aA3) s.heap.objs.size t.aA7 cdv)))(B:Hp):
  PDB (cxX P w K mg base aA0 "_law_provoked" (aAm aA3) t.aA7 cdv A outer s H E) B (aCa aA3) (aFe t aN2 aDj aCb aBt aJo aGf aT2 aK0 aPa aO6):=
 by
 have hr':=hr.mono hk;refine aAc ?_ ?_;(refine aE0 (i:=3) (aDz).nd rfl (Zf rfl) ?_;(exact aKy bGc hr' rfl));(refine aAc ?_ ?_;(refine aCm ?_ ?_ ?_;(refine aDn ?_ ?_;(exact aAe 0);(exact aAr));(refine aAc ?_ ?_;(refine aB6 ?_;(refine aW5 bCd hr' rfl ?_;(refine aAa ?_ ?_;(refine aW3 ?_ ?_;(exact aAr);(exact aAe 2));(exact aAk))));(exact aAi));(refine aAc ?_ ?_;(refine aCm ?_ ?_ ?_;(refine aDn ?_ ?_;(exact aAe 0);(exact aAr));(refine aAc ?_ ?_;(refine aB6 ?_;(refine aBs aJ2 hr rfl ?_;(refine aAa ?_ ?_;(exact aKy aO8 hr' rfl);(refine aAa ?_ ?_;(refine aDc ?_;(refine aAa ?_ ?_;(refine aHd ?_ ?_ (fun _ _=>rfl);(exact aAe 1);(exact aAr));(exact aAk)));(refine aAa ?_ ?_;(refine aJy ?_;(refine aAa ?_ ?_;(refine aDc ?_;(refine aAa ?_ ?_;(refine aDc ?_;(refine aAa ?_ ?_;(exact aAe 2);(exact aAk)));(refine aAa ?_ ?_;(refine aW3 ?_ ?_;(refine bHl ?_;(exact aAr));(exact aAe 2));(exact aAk))));(exact aAk)));(exact aAk))))));(exact aAi));(refine aAc ?_ ?_;(refine aCm ?_ ?_ ?_;(refine aDn ?_ ?_;(exact aAe 0);(exact aAr));(refine aAc ?_ ?_;(refine aB6 ?_;(refine aBs bGb hr rfl ?_;(refine aAa ?_ ?_;(refine aBs bJa hr rfl ?_;(refine aAa ?_ ?_;(refine aHd ?_ ?_ (fun _ _=>rfl);(exact aAe 1);(exact aAr));(exact aAk)));(refine aAa ?_ ?_;(exact aKy aO8 hr' rfl);(refine aAa ?_ ?_;(refine bAy ?_ ?_;(refine aHd ?_ ?_ (fun _ _=>rfl);(exact aAe 1);(exact aAr));(exact aAe 2));(exact aAk))))));(exact aAi));(refine aAc ?_ ?_;(refine aCm ?_ ?_ ?_;(refine aDn ?_ ?_;(exact aAe 0);(exact aAr));(refine aAc ?_ ?_;(refine aB6 ?_;(refine aBs aSg hr rfl ?_;(refine aAa ?_ ?_;(refine aDc ?_;(refine aAa ?_ ?_;(refine aHd ?_ ?_ (fun _ _=>rfl);(exact aAe 1);(exact aAr));(exact aAk)));(refine aAa ?_ ?_;(refine aDc ?_;(refine aAa ?_ ?_;(refine aHd ?_ ?_ (fun _ _=>rfl);(exact aAe 1);(exact aAr));(exact aAk)));(exact aAk)))));(exact aAi));(refine aAc ?_ ?_;(refine aCm ?_ ?_ ?_;(refine aDn ?_ ?_;(exact aAe 0);(exact aAr));(refine aAc ?_ ?_;(refine aB6 ?_;(refine aBs aJ2 hr rfl ?_;(refine aAa ?_ ?_;(exact aKy aO8 hr' rfl);(refine aAa ?_ ?_;(refine aDc ?_;(refine aAa ?_ ?_;(refine aHd ?_ ?_ (fun _ _=>rfl);(exact aAe 1);(exact aAr));(exact aAk)));(refine aAa ?_ ?_;(refine aJy ?_;(refine aAa ?_ ?_;(refine aDc ?_;(refine aAa ?_ ?_;(refine aDc ?_;(refine aAa ?_ ?_;(exact aAr);(refine aAa ?_ ?_;(exact aAe 2);(exact aAk))));(refine aAa ?_ ?_;(exact aAr);(exact aAk))));(exact aAk)));(exact aAk))))));(exact aAi));(refine aAc ?_ ?_;(refine aCm ?_ ?_ ?_;(refine aDn ?_ ?_;(exact aAe 0);(exact aAr));(refine aAc ?_ ?_;(refine aB6 ?_;(refine aOj bCe hr ?_ ?_;(exact aAe 3);(refine aAa ?_ ?_;(refine aHd ?_ ?_ (fun _ _=>rfl);(exact aAe 1);(exact aAr));(exact aAk))));(exact aAi));(refine aAc ?_ ?_;(refine aCm ?_ ?_ ?_;(refine aDn ?_ ?_;(exact aAe 0);(exact aAr));(refine aAc ?_ ?_;(refine aB6 ?_;(refine aBs aMf hr rfl ?_;(refine aAa ?_ ?_;(refine aDc ?_;(refine aAa ?_ ?_;(refine aHd ?_ ?_ (fun _ _=>rfl);(exact aAe 1);(exact aAr));(exact aAk)));(refine aAa ?_ ?_;(refine aDc ?_;(refine aAa ?_ ?_;(refine aHd ?_ ?_ (fun _ _=>rfl);(exact aAe 1);(exact aAr));(exact aAk)));(exact aAk)))));(exact aAi));(refine aAc ?_ ?_;(refine aCm ?_ ?_ ?_;(refine aDn ?_ ?_;(exact aAe 0);(exact aAr));(refine aAc ?_ ?_;(exact aH9);(refine aAc ?_ ?_;(exact aH9);(exact aAi)));(refine aAc ?_ ?_;(refine aB6 ?_;(refine aW5 bJb hr' rfl ?_;(refine aAa ?_ ?_;(refine aW3 ?_ ?_;(exact aAr);(exact aAe 2));(exact aAk))));(exact aAi)));(exact aAi)));(exact aAi)));(exact aAi)));(exact aAi)));(exact aAi)));(exact aAi)));(exact aAi)));(exact aAi))
def aE4:List Str:=["_law_which","_law_names","_law_number","_law_found","e"]
theorem aB9:aA5 aE4 ["_law_which","_law_names","_law_number"] (aAm aLs):=by constructor<;>first | rfl | decide+kernel
def aDv (t:Adr)(aBr:List D->M D):Rho->Option Out:=
  (aAy (aLu 3 (mkL aBf))
  (aAy (bJd (aAy (aD1 (app aBr (aAh (look 0) (aAh (look 1) (aAh (look 2) aBf)))))
  aA8) (⟨aAx t,4,(aAy (aLu 3 (mkL (aAh (aTn (kx t) (aCr t) (look 4)) (aAh (aTn (kx t) (aB3 t) (look 4)) (aAh (aTn (kx t) (aB2 t) (look 4)) (aAh (aTn (kx t) (aBb t) (look 4)) aBf))))))
  (aAy (aLu 3 (b2 aD4 (look 3) (mkL (aAh (aTn (kx t) (aCs t) (look 4)) (aAh (aTn (kx t) (aBj t) (look 4)) (aAh (aTn (kx t) (aCt t) (look 4)) (aAh (aTn (kx t) (aCq t) (look 4)) aBf)))))))
  (aAy (aLu 3 (b2 aD4 (look 3) (mkL (aAh (aTn (kx t) (aBa t) (look 4)) (aAh (aTn (kx t) (aBk t) (look 4)) (aAh (aTn (kx t) (aB1 t) (look 4)) aBf))))))
  (aAy (aLu 3 (b2 aD4 (look 3) (mkL (aAh (aTn (kx t) (aBd t) (look 4)) (aAh (exs (aA1 t) (look 4)) aBf)))))
  aA8))))⟩::[]))
  (aAy (aH7 (look 3))
  aA8)))
theorem aPw (T:Txt K mg t){k:Nat}{aBr:List D->M D}(aNe:Def P w K mg base k "_law_provoked" aBr){F:List D->M D}(h:OkF 3 aE4 (aDv t aBr) F):Def P w K mg base (k+1) "_law_kinds" F:=by
 obtain⟨hL,hq⟩:=h;obtain⟨fd,Fu,bi⟩:=T.aCy;refine⟨_,_,_,T.aRw,Fu.kp,bi,hL,bC7 Fu aB9 hL fun cdv A outer s H E hr=>⟨aDv t aBr,fun B=> ?_,hq⟩⟩;refine aAc ?_ ?_;(refine aE0 (i:=3) (aB9).nd rfl (Zf rfl) ?_;(refine aJy ?_;(exact aAk)));(refine aAc ?_ ?_;(refine bEc rfl rfl (fun pins Q=> ?_) ?_;(refine aAc ?_ ?_;(refine aB6 ?_;(refine aBs aNe hr rfl ?_;(refine aAa ?_ ?_;(exact aAe 0);(refine aAa ?_ ?_;(exact aAe 1);(refine aAa ?_ ?_;(exact aAe 2);(exact aAk))))));(exact aAi));(refine bAw (i:=4) rfl T.aOt (aMb T) (aB9).nd rfl rfl (fun e B=> ?_) ?_;(refine aAc ?_ ?_;(refine aE0 (i:=3) (aB9).nd rfl (Zf rfl) ?_;(refine aJy ?_;(refine aAa ?_ ?_;(refine aCp rfl T.aAw rfl T.aRy (aKs T) (aXx T) ?_;(exact aAe 4));(refine aAa ?_ ?_;(refine aCp rfl T.aAw rfl T.aTk (aKs T) (aUw T) ?_;(exact aAe 4));(refine aAa ?_ ?_;(refine aCp rfl T.aAw rfl T.aTj (aKs T) (aUv T) ?_;(exact aAe 4));(refine aAa ?_ ?_;(refine aCp rfl T.aAw rfl T.aJg (aKs T) (aP7 T) ?_;(exact aAe 4));(exact aAk)))))));(refine aAc ?_ ?_;(refine aE0 (i:=3) (aB9).nd rfl (Zf rfl) ?_;(refine aFt ?_ ?_;(exact aAe 3);(refine aJy ?_;(refine aAa ?_ ?_;(refine aCp rfl T.aAw rfl T.aYl (aKs T) (aXy T) ?_;(exact aAe 4));(refine aAa ?_ ?_;(refine aCp rfl T.aAw rfl T.aQd (aKs T) (aRs T) ?_;(exact aAe 4));(refine aAa ?_ ?_;(refine aCp rfl T.aAw rfl T.aYn (aKs T) (aXz T) ?_;(exact aAe 4));(refine aAa ?_ ?_;(refine aCp rfl T.aAw rfl T.aYj (aKs T) (aXw T) ?_;(exact aAe 4));(exact aAk))))))));(refine aAc ?_ ?_;(refine aE0 (i:=3) (aB9).nd rfl (Zf rfl) ?_;(refine aFt ?_ ?_;(exact aAe 3);(refine aJy ?_;(refine aAa ?_ ?_;(refine aCp rfl T.aAw rfl T.aU3 (aKs T) (aP6 T) ?_;(exact aAe 4));(refine aAa ?_ ?_;(refine aCp rfl T.aAw rfl T.aYm (aKs T) (aRt T) ?_;(exact aAe 4));(refine aAa ?_ ?_;(refine aCp rfl T.aAw rfl T.bBv (aKs T) (aUu T) ?_;(exact aAe 4));(exact aAk)))))));(refine aAc ?_ ?_;(refine aE0 (i:=3) (aB9).nd rfl (Zf rfl) ?_;(refine aFt ?_ ?_;(exact aAe 3);(refine aJy ?_;(refine aAa ?_ ?_;(refine aCp rfl T.aAw rfl T.aU4 (aKs T) (aP8 T) ?_;(exact aAe 4));(refine aAa ?_ ?_;(refine bEg (T:="ValueError") rfl T.aAw rfl T.aQv (by decide+kernel) (aM9 T) ?_;(exact aAe 4));(exact aAk))))));(exact aAi)))));(exact bEe)));(refine aAc ?_ ?_;(refine aCw ?_;(exact aAe 3));(exact aAi)))
def bCc:List Str:=["_law_script","_law_names","_law_number","_law_which","_law_due"]
def aT0:List Str:=["?0","?1","?2","_law_which","?4","_law_k"]
theorem bA5:aT0.Nodup:=by decide+kernel
def aTz:List Str:=["_law_script","?1","?2","?3","?4","_law_k"]
theorem bA4:aTz.Nodup:=by decide+kernel
theorem aPn:aA5 bCc ["_law_script"] (aAm bAh):=by constructor<;>first | rfl | decide+kernel
def aOx (t:Adr)(aEi:List D->M D)(aCy:List D->M D)(aDi:List D->M D):Rho->Option Out:=
  (aAy (aLu 1 (cmp 1 (itR (con (.int 2))) [5] h1 (fun _=>ok true) (app aDi (aAh (b2 aGs (app aEi (aAh (look 0) (aAh (con (.int 0)) aBf))) (con (.int 2000))) (aAh (look 5) aBf)))))
  (aAy (aLu 2 (b2 aGs (app aEi (aAh (look 0) (aAh (con (.int 1)) aBf))) (b2 bGf (con (.int 10)) (con (.int 60)))))
  (aAy (aPp (con (.int 9)) (gN 3) (aAy (aLu 4 (b2 aD4 (cmp 1 (itR (con (.int 12))) [5] h1 (fun _=>ok true) (b2 gEq (look 5) (b2 aGs (look 3) (con (.int 8))))) (mkL (aAh (con (.bl true)) aBf))))
  (aAy (sIf (aA9 (b2 bC5 (app aCy (aAh (look 3) (aAh (look 1) (aAh (look 2) aBf)))) (look 4))) (aAy (aH7 (con (.bl false)))
  aA8) aA8)
  aA8)))
  (aAy (aH7 (con (.bl true)))
  aA8))))
theorem bFj (T:Txt K mg t){fd:Z5}(Fu:Fun K "law" "law" bAh t.aR3 fd){k:Nat}{aEi:List D->M D}(aT1:Def P w K mg base k "_law_at" aEi){aCy:List D->M D}(aSf:Def P w K mg base k "_law_kinds" aCy){aDi:List D->M D}(aVg:Def P w K mg base k "_law_name" aDi){F:List D->M D}(hL: ∀ds r,F ds=some r->ds.length=1)(hq: ∀ds r,F ds=some r->∃d,r= .ok d/\aBq (aOx t aEi aCy aDi (aCz bCc ds))=ok d):FnD P w K mg base (k+1) t.aR3 fd ["_law_script"] F:=by
 refine bC7 Fu aPn hL fun cdv A outer s H E hr=>⟨aOx t aEi aCy aDi,fun B=> ?_,hq⟩
 refine aAc ?_ ?_;(refine aW2 (i:=1) (aPn).nd rfl (Zf rfl) (N':=aTz) (m:=1) (ks:=[5]) rfl rfl rfl rfl (by repeat (first | exact bCy | refine aXr rfl (by first | exact Zf rfl | exact Ud rfl) ?_)) rfl rfl rfl rfl rfl ?_ (fun C s₀ H₀ ex=> ?_) (fun C s₀ H₀ ex B=> ?_) (fun C s₀ H₀ ex B=> ?_);(refine bCm rfl T.aR9 ?_;(exact aAr));(exact bHh bA4 rfl (Zf rfl));(exact aSz);(refine aBs aVg hr rfl ?_;(refine aAa ?_ ?_;(refine aJx ?_ ?_;(refine aBs aT1 hr rfl ?_;(refine aAa ?_ ?_;(exact aAe 0);(refine aAa ?_ ?_;(exact aAr);(exact aAk))));(exact aAr));(refine aAa ?_ ?_;(exact aAe 5);(exact aAk)))));(refine aAc ?_ ?_;(refine aE0 (i:=2) (aPn).nd rfl (Zf rfl) ?_;(refine aJx ?_ ?_;(refine aBs aT1 hr rfl ?_;(refine aAa ?_ ?_;(exact aAe 0);(refine aAa ?_ ?_;(exact aAr);(exact aAk))));(refine bHi ?_ ?_;(exact aAr);(exact aAr))));(refine aAc ?_ ?_;(refine aW1 rfl T.aR9 PassesOwn.never rfl ?_ (fun B=> ?_) (fun B=> ?_);(exact aAr);(exact aKw (i:=3) (aPn).nd rfl (Ud rfl));(refine aAc ?_ ?_;(refine aE0 (i:=4) (aPn).nd rfl (Zf rfl) ?_;(refine aFt ?_ ?_;(refine bAz (N':=aT0) (m:=1) (ks:=[5]) rfl rfl rfl rfl (by repeat (first | exact bCy | refine aXr rfl (by first | exact Zf rfl | exact Ud rfl) ?_)) rfl rfl rfl rfl rfl ?_ (fun C s₀ H₀ ex=> ?_) (fun C s₀ H₀ ex B=> ?_) (fun C s₀ H₀ ex B=> ?_);(refine bCm rfl T.aR9 ?_;(exact aAr));(exact bHh bA5 rfl (Zf rfl));(exact aSz);(refine bKm ?_ ?_;(exact aAe 5);(refine aJx ?_ ?_;(exact aAe 3);(exact aAr))));(refine aJy ?_;(refine aAa ?_ ?_;(exact bEi);(exact aAk)))));(refine aAc ?_ ?_;(refine aCm ?_ ?_ ?_;(refine bEb hr ?_ ?_;(refine aBs aSf hr rfl ?_;(refine aAa ?_ ?_;(exact aAe 3);(refine aAa ?_ ?_;(exact aAe 1);(refine aAa ?_ ?_;(exact aAe 2);(exact aAk)))));(exact aAe 4));(refine aAc ?_ ?_;(refine aCw ?_;(exact bEi));(exact aAi));(exact aAi));(exact aAi))));(refine aAc ?_ ?_;(refine aCw ?_;(exact bEi));(exact aAi))))
end
def bL8 (C:Addr)(H:Hp)(a dx:Addr)(H':Hp):Prop:= ∃m p,H m=none/\H p=none/\m≠p/\m≠a/\p≠a/\H' a=some (.ins C dx [("made",.ref m),("placed",.ref p)])/\H' m=some (.dK [])/\H' p=some (.dK [])/\∀b o,b≠a->H b=some o->H' b=some o
def spS (C:Addr):Sp:=fun vs H Q _=> ∃a dx,vs=[.ref a]/\H a=some (.ins C dx [])/\∀H',bL8 C H a dx H'->Q .non H'
section
variable {P:Qr}{w:Q2}{K:Qb}{mg:Str->Option Qd}{base:Heap}{t:Adr}
theorem csS (t:Adr):cs t t.aAv=true:=by simp[cs]
theorem aNg (T:Txt K mg t){k:Nat}{fd:Z5}(Fu:Fun K "__init__" "Store.__init__" aCo t.aBl fd):aSh P w K mg base (CXD P w) (k+1) t.aBl fd ["self"] (spS t.aAv):=by
 obtain⟨oc,od,kV,doc,pm,an,cdv,ct,osl,rfl,lk,hcd⟩:=Fu.ex;refine aR1 lk hcd aI8 (fun vs H Q E ⟨a,dx,e,_⟩=>by rw[e];rfl) fun A outer s H vs Q E hr hsp=> ?_
 obtain⟨a,dx,rfl,ha,h⟩:=hsp;refine⟨_,PSs.nox (aBo (aSw (f:="made") (aE8 (i:=0) rfl (Zf rfl)) aS1 rfl) (aBo (aSw (f:="placed") (aE8 (i:=0) rfl (Zf rfl)) aS1 rfl) aDe)),?_⟩;intro m hm;have ma:m≠a:=fun z=>by rw[z,ha] at hm;cases hm
 refine⟨.ref a,rfl,a,t.aAv,dx,[],rfl,by rw[aAq ma.symm];exact ha,(T.aHf _ (csS t)).1,(T.aHf _ (csS t)).2,by decide,?_⟩;intro p hp;have pa:p≠a:=fun z=>by rw[z,aAs] at hp;cases hp
 have pm':p≠m:=fun z=>by rw[z,aAq ma,aAs] at hp;cases hp
 have hp0:H p=none:=by rw[aAq pa,aAq pm'] at hp;exact hp
 refine⟨.ref a,rfl,a,t.aAv,dx,[("made",.ref m)],rfl,by rw[aAq pa.symm,aAs];rfl,(T.aPy _ (csS t)).1,(T.aPy _ (csS t)).2,(show 1<1000 by decide),?_⟩;refine h _ ⟨m,p,hm,hp0,pm'.symm,ma,pa,?_,?_,?_,fun b o hb e=> ?_⟩
 ·rw[aAs];rfl
 ·rw[aAq ma,aAq pm'.symm,aAq ma,aAs]
 ·rw[aAq pa,aAs]
 ·have bm:b≠m:=fun z=>by rw[z,hm] at e;cases e
  have bp:b≠p:=fun z=>by rw[z,hp0] at e;cases e
  rw[aAq hb,aAq bp,aAq hb,aAq bm];exact e
def oS (t:Adr):D:= .obj t.aAv [("made",.dk []),("placed",.dk [])]
def iS:List D->M (List (Str×D))
 | []=>ok [("made",.dk []),("placed",.dk [])]
 | _=>none
theorem aF9 (T:Txt K mg t)(k:Nat):Ctor P w K mg base (k+1) "Store" t.aAv iS:=by
 obtain⟨fd,Fu,bi⟩:=T.aFf;refine⟨_,_,_,T.aYk,T.aS9,bi,(fun ds r h=>by unfold iS at h;split at h<;>first | rfl | cases h),(aNg T Fu).imp fun vs H Q E h=> ?_⟩;obtain⟨a,dx,ws,ds,rfl,ha,hd,i,hl,h⟩:=h
 match ds,ws,i with
 | [],[],_=>
  refine⟨a,dx,rfl,ha,fun H' ⟨m,p,h1,h2,h3,h4,h5,g1,g2,g3,g4⟩=> ?_⟩;refine h H' _ g1 (.cons (.dk (.inl g2) .nil) (.cons (.dk (.inl g3) .nil) .nil)) fun b o e=> ?_
  unfold hid at e;split at e
  ·cases e
  ·rename_i hb;exact g4 b o hb e
 | _::_,_,_=>exact Qg h
end
section
variable {X:Cx}{k:Nat}{C f:Addr}{fd:Z5}{p pos apos:Pos}
def bMg (C:Addr):TE:=fun _ H Q=> ∀a dx H',H a=none->H dx=none->dx≠a->bL8 C (upd (upd H dx (.own a)) a (.ins C dx [])) a dx H'->Q (.ref a) H'
theorem bHd (h1:X.mg "Store"=some (.ref C))(Mm:Mk X.K C f)(hb:Binds X.K fd ["self"] [])(G:aSh X.prog X.w X.K X.mg X.base (CXD X.prog X.w) k f fd ["self"] (spS C))(hr:aEx (k+1) X.A)(hg:Gl X "Store"):PE X (.Call (.Name "Store" p) [] [] pos) (bMg C):=by
 intro pins s σ H Q I h;refine Y1 (aHh I hg h1 ?_ (by decide));refine U4 I.kIn Mm.kp ?_;have hq:spS C [.ref (s.heap.objs.size+1)] (upd (upd H s.heap.objs.size (.own (s.heap.objs.size+1))) (s.heap.objs.size+1) (.ins C s.heap.objs.size [])) (fun v H2=>v= .non/\Q (.ref (s.heap.objs.size+1)) H2) (fun _ _ _=>False):=
  ⟨_,_,rfl,aAs,fun H' z=>⟨rfl,h _ _ H' (I.hok.fresh (Jf _)) (I.hok.fresh (Qn _)) (Qy (Ji _)) z⟩⟩
 have I2:=Inv.made (C:=C) I;have r2:Vals [V.ref (s.heap.objs.size+1)] [Zc (s.heap.objs.size+1)]:= .cons rfl .nil;have hbb:=hb {s with heap:=(s.heap.push Zk).push (Zy C s.heap.objs.size)} [Zc (s.heap.objs.size+1)] I2.kIn rfl;rw[Zl] at hbb;refine wpAny_call (aTa (f:=f) I.kIn Mm.makes Mm.init (beq_iff_eq.mp Mm.fn) (codeAny_mono (G.run _ X.stack _ _ ⟨[Zc (s.heap.objs.size+1)],[]⟩ [Zc (s.heap.objs.size+1)] _ _ _ (hr.make C [] []) (I2.env0.make C [] []) hbb r2 hq) fun r s' hq'=> ?_));cases r with
 | error e=>
  obtain⟨c,ea,H',ee,os,bare,un,fl,z⟩:=hq';exact Qg z
 | ok fl=>
  cases fl with
  | ret u=>
   obtain⟨v,H',I3,rv,ev,q3⟩:=I2.after hq';subst ev;exact⟨rv,⟨V.ref (s.heap.objs.size+1),H',I3,rfl,q3⟩⟩
  | next=>exact Qg hq'
  | brk=>exact Qg hq'
  | cont=>exact Qg hq'
theorem bAt {m:Str}{ps:List Str}{sp:Sp}{o e:Expr}{es:List Expr}{to:TE}{ta:TA}{pl:Sem Bool}(hM:Meth X.K C m f)(hC:Cls X.K C)(hb:Binds X.K fd ps [])(G:aSh X.prog X.w X.K X.mg X.base (CXD X.prog X.w) k f fd ps sp)(hr:aEx k X.A)(he:PE X o to)(ha:PA X (e::es) ta)
  (hst:Qz (e::es) X.env=(false,eval e X.env)::Qz es X.env:=by exact aBu rfl) (hpl:(backTo pos (Qz es X.env)).any (·.1)=false:=by rfl)
  (ht:eval (.Call (.Attribute o m apos) (e::es) [] pos) X.env=(do
   let ov<-eval o X.env
   standAt apos.atName
   let (f,first)<-holding [ov] (getMethod ov m pl)
   callWith pos f first (backTo pos (Qz (e::es) X.env)) (backToKw pos (keywordEach [] X.env))):=by rfl):
  PE X (.Call (.Attribute o m apos) (e::es) [] pos) (fun σ H Q=>to σ H fun x H1=> ∃a dx fs,x= .ref a/\H1 a=some (.ins C dx fs)/\fs.lookup m=none/\ta σ H1 fun vs H2=>sp (.ref a::vs) H2 Q (fun _ _ _=>False)):=by
 intro pins s σ H Q I h;refine Uw (pl:=pl) (thn (he pins s σ H _ I h) fun u s1 hP=> ?_) ht;obtain⟨x,H1,I1,rx,a,dx,fs,ex,ea,l,q⟩:=hP;subst ex;obtain rfl:u=Zc a:=rx;refine aNw I1 ea hC hM l ?_;refine Jp (first:=[.ref a]) (h₀:=X.base) I.ok.mod.kin hM.kp (thn (ha pos pins s1 σ H1 _ I1 q) fun us s2 ⟨vs',H2,I2,r2,q2⟩=>⟨I2.kIn,?_⟩) hst hpl;have hl:(Zc a::us++ []).length=ps.length:=by
  have:=G.len _ _ _ _ q2;rw[Zl,Q4,<-r2.length,<-Q4 (a:=V.ref a)];exact this
 have hbb:=hb s2 (Zc a::us) I2.kIn hl;rw[Zl] at hbb;refine wpAny_call (codeAny_mono (G.run X.A X.stack s2 H2 ⟨Zc a::us,[]⟩ (Zc a::us) (.ref a::vs') Q _ hr I2.env0 hbb (.cons rfl r2) q2) fun r s' hq=> ?_);cases r with
 | error e=>
  obtain⟨c,ea,H',ee,os,bare,un,fl,z⟩:=hq;exact Qg z
 | ok fl=>
  cases fl with
  | ret u=>exact I2.after hq
  | next=>exact Qg hq
  | brk=>exact Qg hq
  | cont=>exact Qg hq
end
def aU5 (t:Adr):List D->M D:=aPf 1 fun ds=>aBq (aDl t (aCz aEh ds))
theorem aRi (t:Adr){xs:List Str}(hn:xs.Nodup)(hl:xs.length<=100):aU5 t [tS xs]=ok .non:=by
 refine aEj rfl ?_;have e0:aCz aEh [tS xs]=[some (.sh (tS xs))]:=rfl;rw[e0];unfold aDl;have q1:f1 bJe (f1 toS (look 0)) [some (.sh (tS xs))]=ok (.int (xs.length:Int)):=aR4 (aR4 (g:=toS) (d:=tS xs) rfl (aWa hn (by omega))) rfl;have q2:f1 aPd (look 0) [some (.sh (tS xs))]=ok (.int (xs.length:Int)):=by
  refine aR4 (d:=tS xs) rfl ?_;show ok (D.int ((xs.map D.str).length:Int))=_;rw[Qv]
 have q3:aA9 (b2 gNe (f1 bJe (f1 toS (look 0))) (f1 aPd (look 0))) [some (.sh (tS xs))]=ok false:=by
  refine aCd (aGt q1 q2 ?_);show ok (D.bl (!decide ((xs.length:Int)=(xs.length:Int))))=_;rw[decide_eq_true rfl];rfl
 rw[aB5 ((aPo q3).trans rfl)];rfl
def spM (K:Qb)(C:Addr):Sp:=fun vs H Q _=> ∃a dx m p x h,vs=[.ref a,.str x,h]/\H a=some (.ins C dx [("made",.ref m),("placed",.ref p)])/\H m=some (.dK [])/\H p=some (.dK [])/\Is K H (tS []) h/\∀v H1,Same H H1->Is K H1 (tS []) v->Q .non (upd H1 m (.dK [(Zq x,v)]))
section
variable {P:Qr}{w:Q2}{K:Qb}{mg:Str->Option Qd}{base:Heap}{t:Adr}
theorem bE4 (T:Txt K mg t){k:Nat}{fd:Z5}(Fu:Fun K "make" "Store.make" aD9 t.aC0 fd)(G:Def P w K mg base k "check_once" (aU5 t)):aSh P w K mg base (CXD P w) (k+1) t.aC0 fd ["self","table","head"] (spM K t.aAv):=by
 obtain⟨oc,od,kV',doc,pm,an,cdv,ct,osl,rfl,lk,hcd⟩:=Fu.ex;refine aR1 lk hcd aH2 (fun vs H Q E ⟨a,dx,m,p,x,h,e,_⟩=>by rw[e];rfl) fun A outer s H vs Q E hr hsp=> ?_
 obtain⟨a,dx,m,p,x,h,rfl,ha,hm,hp,hh,q⟩:=hsp;have i0:IsL K H [oS t,.str x,tS []] [.ref a,.str x,h]:= .cons (.obj ha (.cons (.dk (.inl hm) .nil) (.cons (.dk (.inl hp) .nil) .nil))) (.cons (.str x) (.cons hh .nil));have r0:Rel K H [some (.sh (oS t)),some (.sh (.str x)),some (.sh (tS []))] (start aC1 [.ref a,.str x,h]) H:=aH8 (N:=aC1) i0 (show 3<=3 by decide);refine⟨_,PSs.nox (aBo (aM2 (aW0 (B:=H) hr (aAe 1) (aW6 (f:="made") T.aHf (aAe 0))) aC2 aDe) (aBo (aLy (aBs (B:=H) G hr rfl (aAa (aAe 2) aAk))) (aBo (bD1 (bFe hr) (bCp (f:="made") (aE8 (i:=0) rfl (Zf rfl)) rfl) (aE8 (i:=1) rfl (Zf rfl)) (aKx (B:=H) rfl T.aO1 (aAe 2)) rfl) aDe))),?_⟩;refine⟨_,r0,?_⟩;have ht:aA9 (b2 (aTl false) (look 1) (fld (cs t) "made" (look 0))) [some (.sh (oS t)),some (.sh (.str x)),some (.sh (tS []))]=ok false:=by
  have f1:fld (cs t) "made" (look 0) [some (.sh (oS t)),some (.sh (.str x)),some (.sh (tS []))]=ok (.dk []):=aYo (C:=t.aAv) (show look 0 [some (.sh (oS t)),some (.sh (.str x)),some (.sh (tS []))]=ok (oS t) from rfl) (csS t) rfl;exact aCd (aGt (x:= .str x) rfl f1 rfl)
 rw[ht];intro H1 e1;refine⟨_,r0.mono e1,?_⟩;have hc:app (aU5 t) (aAh (look 2) aBf) [some (.sh (oS t)),some (.sh (.str x)),some (.sh (tS []))]=ok .non:=(aC7 (aAp (d:=tS []) rfl aBe)).trans (aRi t .nil (by decide));rw[hc];intro v2 H2 e2 i2;refine⟨_,(r0.mono e1).mono e2,?_⟩;intro v3 H3 e3 i3;have s3:Same H H3:=(e1.trans e2).trans e3;refine⟨.ref a,rfl,a,t.aAv,dx,_,.ref m,rfl,s3 _ _ ha,(T.aHf _ (csS t)).1,(T.aHf _ (csS t)).2,rfl,.str x,rfl,m,_,rfl,bJc.k (k:=Zq x) (s3 _ _ hm) (by rw[sizeLine_eq];decide),?_⟩;exact q v3 H3 s3 i3
end
theorem aZr {K:Qb}{H H':Hp}{d0 d1 d2:D}{v0 v1 v2:V}{s3:Option SV}{v3:Option V}(e:Same H H')(i0:Is K H' d0 v0)(i1:Is K H' d1 v1)(i2:Is K H' d2 v2)(h3:s3=none\/∃d v,s3=some (.sh d)/\v3=some v/\Is K H' d v):
  Rel K H [some (.sh d0),some (.sh d1),some (.sh d2),s3] [some v0,some v1,some v2,v3] H':=by
 have e0:L2.PU.Off H' (fun _=>none)=H':=by funext b;unfold L2.PU.Off;rw[if_neg (fun⟨i,e⟩=>nomatch e)]
 refine⟨fun _=>none,(by intro _ _ _ q;cases q),(by intro _ _ q;cases q),by rw[e0];exact e,rfl,fun i sv q=> ?_⟩
 match i,q with
 | 0,q=>cases q;exact⟨v0,rfl,by rw[e0];exact i0⟩
 | 1,q=>cases q;exact⟨v1,rfl,by rw[e0];exact i1⟩
 | 2,q=>cases q;exact⟨v2,rfl,by rw[e0];exact i2⟩
 | 3,q=>
  have q':s3=some sv:=Option.some.inj q;rcases h3 with h |⟨d,v,h1,h2,h3⟩
  ·rw[h] at q';cases q'
  ·rw[h1] at q'
   cases q';exact⟨v,by rw[h2];rfl,by rw[e0];exact h3⟩
theorem els {X:Cx}{B:Hp}{f:Rho->M Bool}{u:TS}{D':Ends}{σ:St}{H:Hp}{ρ:Rho}(r:Rel X.K B ρ σ H)(hf:f ρ=ok false)(h: ∀H',Same H H'->u D' σ H'):bJs (tDT X B f) aSq u D' σ H:=by
 refine⟨ρ,r,?_⟩;rw[hf];exact h
theorem bMa {X:Cx}{B:Hp}{f:Rho->M Bool}{u:TS}{D':Ends}{σ:St}{H:Hp}{ρ:Rho}(r:Rel X.K B ρ σ H)(hf:f ρ=ok true)(h: ∀H',Same H H'->u D' σ H'):bJs (tDT X B f) u aSq D' σ H:=by
 refine⟨ρ,r,?_⟩;rw[hf];exact h
theorem bFs {j:Int}(h:(7:Int)≠j){s1 s2 s3:Option SV}:aA9 (b2 gEq (look 0) (con (.int j))) [some (.sh (.int 7)),s1,s2,s3]=ok false:=by
 have:=aCd (aTo (f:=look 0) (g:=con (.int j)) (ρ:=[some (.sh (.int 7)),s1,s2,s3]) (i:=7) (j:=j) rfl rfl);rw[decide_eq_false h] at this;exact this
def oS1 (t:Adr)(x:Str):D:= .obj t.aAv [("made",.dk [(Zq x,tS [])]),("placed",.dk [])]
def bFk (t:Adr):List D->M D:=aPf 3 fun ds=>aBq (aDm t (aU5 t) (aCz aC1 ds))
theorem bE3 (t:Adr){x:Str}{d:D}(hx:(Z3 x).length<=10000):bFk t [oS1 t x,.str x,d]=err t.aAl:=by
 refine aEj rfl ?_;have e0:aCz aC1 [oS1 t x,.str x,d]=[some (.sh (oS1 t x)),some (.sh (.str x)),some (.sh d)]:=rfl;rw[e0];unfold aDm;have f1:fld (cs t) "made" (look 0) [some (.sh (oS1 t x)),some (.sh (.str x)),some (.sh d)]=ok (.dk [(Zq x,tS [])]):=aYo (C:=t.aAv) (show look 0 [some (.sh (oS1 t x)),some (.sh (.str x)),some (.sh d)]=ok (oS1 t x) from rfl) (csS t) rfl;have q:aA9 (b2 (aTl false) (look 1) (fld (cs t) "made" (look 0))) [some (.sh (oS1 t x)),some (.sh (.str x)),some (.sh d)]=ok true:=by
  refine aCd (aGt (x:= .str x) rfl f1 ?_);show ok (D.bl (if false then _ else (aSo [((Zq x:Key),tS [])] (Zq x)).isSome))=_;simp[aSo]
 obtain⟨z,hz⟩:=bM7 (c:="there is a table ") (c':=" already") (f:=look 1) (ρ:=[some (.sh (oS1 t x)),some (.sh (.str x)),some (.sh d)]) (by decide+kernel) (by decide+kernel) hx rfl;rw[aBv ((aKp q).trans (aC4 hz))];rfl
open Classical in
def mMk (t:Adr):Addr->Option (List D->M D):=fun C=>if C=t.aAv then some (bFk t) else none
section
variable {P:Qr}{w:Q2}{K:Qb}{mg:Str->Option Qd}{base:Heap}{t:Adr}
theorem bH3 (T:Txt K mg t)(k:Nat): ∀C F,mMk t C=some F->Mth P w K mg base (k+2) C "make" F:=by
 intro C F h;unfold mMk at h;split at h
 ·rename_i e;subst e;cases h
  exact aOl T (aDs T (k:=k) aCc aEm) aCc aEm
 ·cases h
theorem bJ8 (T:Txt K mg t){k:Nat}{fdI fdM:Z5}(FuI:Fun K "__init__" "Store.__init__" aCo t.aBl fdI)(biI:Binds K fdI ["self"] [])(FuM:Fun K "make" "Store.make" aD9 t.aC0 fdM)(biM:Binds K fdM ["self","table","head"] [])
  {cdv:Qd} {A:Za} {outer:List Env} {s:Qf} {H:Hp} {E:XK} (hr:aEx (k+2) (A.deeper (envOfC "_law_provoked" (aAm aA3) s.heap.objs.size t.aA7 cdv))):
  PSs (cxX P w K mg base aA0 "_law_provoked" (aAm aA3) t.aA7 cdv A outer s H E) (aCa aA3) (fun _ σ H1=>H1=H/\∃x y n v1,σ=[some (.int 7),some v1,some (.int n),none]/\Is K H (.lst [.str x,.str y]) v1/\(Z3 x).length<=10000/\
   ∀pins s' σ' H' ev,Same H H'->Exc (cxX P w K mg base aA0 "_law_provoked" (aAm aA3) t.aA7 cdv A outer s H E) pins σ' H' t.aAl ev s'->(cxX P w K mg base aA0 "_law_provoked" (aAm aA3) t.aA7 cdv A outer s H E).xe ev s'):=by
 refine PSs.of (aBo (aWw (i:=3) (aDz).nd rfl (Zf rfl) (bHd T.aYk T.aS9 biI (aNg T (k:=0) FuI) (hr.mono (by omega)) rfl))
  (aBo (aM2 (aDn (B:=H) (aAe 0) aAr) aC2 (aBo (aM2 (aDn (B:=H) (aAe 0) aAr) aC2 (aBo (aM2 (aDn (B:=H) (aAe 0) aAr) aC2 (aBo (aM2 (aDn (B:=H) (aAe 0) aAr) aC2 (aBo (aM2 (aDn (B:=H) (aAe 0) aAr) aC2 (aBo (aM2 (aDn (B:=H) (aAe 0) aAr) aC2 (aBo (aM2 (aDn (B:=H) (aAe 0) aAr) aC2 (aBo (aM2 (aDn (B:=H) (aAe 0) aAr)
   (aBo (aLy (bAt T.aIe T.aKz biM (bE4 T FuM (aDs T (k:=k) aCc aEm)) hr (aE8 (i:=3) rfl (Zf rfl)) (aAa (B:=H) (aHd (aAe 1) aAr (fun _ _=>rfl)) (aAa (aDc aAk) aAk)))) (aBo (aLy (aOj (B:=H) (bH3 T k) hr (aAe 3) (aAa (aHd (aAe 1) aAr (fun _ _=>rfl)) (aAa (aDc (aAa (aHd (aAe 1) aAr (fun _ _=>rfl)) aAk)) aAk)))) aDe))
   aC2) aDe)) aDe)) aDe)) aDe)) aDe)) aDe)) aDe)) aDe)) fun D' σ H1 h=> ?_
 obtain⟨rfl,x,y,n,v1,rfl,i1,hx,hxe⟩:=h;intro a dx H' ha hdx ne hN;obtain⟨m,p,m0,p0,mp,ma,pa,g1,g2,g3,g4⟩:=hN;have mdx:m≠dx:=fun z=>by rw[aAq ma,z,aAs] at m0;cases m0
 have hm:H1 m=none:=by rw[aAq ma,aAq mdx] at m0;exact m0
 have sH:Same H1 H':=fun b o e=>g4 b o (aBi e ha) (by rw[aAq (aBi e ha),aAq (aBi e hdx)];exact e)
 refine els (ρ:=[some (.sh (.int 7)),some (.sh (.lst [.str x,.str y])),some (.sh (.int n)),none]) (aZr sH (.int 7) (i1.mono sH) (.int n) (.inl rfl)) (bFs (by decide)) fun H2 e2=> ?_
 have s2:Same H1 H2:=sH.trans e2;refine els (ρ:=[some (.sh (.int 7)),some (.sh (.lst [.str x,.str y])),some (.sh (.int n)),none]) (aZr s2 (.int 7) (i1.mono s2) (.int n) (.inl rfl)) (bFs (by decide)) fun H3 e3=> ?_
 have s3:Same H1 H3:=s2.trans e3;refine els (ρ:=[some (.sh (.int 7)),some (.sh (.lst [.str x,.str y])),some (.sh (.int n)),none]) (aZr s3 (.int 7) (i1.mono s3) (.int n) (.inl rfl)) (bFs (by decide)) fun H4 e4=> ?_
 have s4:Same H1 H4:=s3.trans e4;refine els (ρ:=[some (.sh (.int 7)),some (.sh (.lst [.str x,.str y])),some (.sh (.int n)),none]) (aZr s4 (.int 7) (i1.mono s4) (.int n) (.inl rfl)) (bFs (by decide)) fun H5 e5=> ?_
 have s5:Same H1 H5:=s4.trans e5;refine els (ρ:=[some (.sh (.int 7)),some (.sh (.lst [.str x,.str y])),some (.sh (.int n)),none]) (aZr s5 (.int 7) (i1.mono s5) (.int n) (.inl rfl)) (bFs (by decide)) fun H6 e6=> ?_
 have s6:Same H1 H6:=s5.trans e6;refine els (ρ:=[some (.sh (.int 7)),some (.sh (.lst [.str x,.str y])),some (.sh (.int n)),none]) (aZr s6 (.int 7) (i1.mono s6) (.int n) (.inl rfl)) (bFs (by decide)) fun H7 e7=> ?_
 have s7:Same H1 H7:=s6.trans e7;refine els (ρ:=[some (.sh (.int 7)),some (.sh (.lst [.str x,.str y])),some (.sh (.int n)),none]) (aZr s7 (.int 7) (i1.mono s7) (.int n) (.inl rfl)) (bFs (by decide)) fun H8 e8=> ?_
 have s8:Same H1 H8:=s7.trans e8;have q7:aA9 (b2 gEq (look 0) (con (.int 7))) [some (.sh (.int 7)),some (.sh (.lst [.str x,.str y])),some (.sh (.int n)),none]=ok true:=rfl;refine bMa (aZr s8 (.int 7) (i1.mono s8) (.int n) (.inl rfl)) q7 fun H9 e9=> ?_
 have s9:Same H1 H9:=s8.trans e9;have sN:Same H' H9:=(((((((e2.trans e3).trans e4).trans e5).trans e6).trans e7).trans e8).trans e9);refine⟨.ref a,rfl,a,dx,_,rfl,sN _ _ g1,rfl,[some (.sh (.int 7)),some (.sh (.lst [.str x,.str y])),some (.sh (.int n)),none],aZr s9 (.int 7) (i1.mono s9) (.int n) (.inl rfl),?_⟩;intro vs H10 e10 i10;cases i10 with
 | cons j1 j2=>
  cases j1;cases j2 with
  | cons j3 j4=>
   cases j4;refine⟨a,dx,m,p,x,_,rfl,e10 _ _ (sN _ _ g1),e10 _ _ (sN _ _ g2),e10 _ _ (sN _ _ g3),j3,fun v H11 e11 iv=> ?_⟩;have sm:Same H1 (upd H11 m (.dK [(Zq x,v)])):=fun b o e=>by
    rw[aAq (aBi e hm)];exact e11 _ _ (e10 _ _ (s9 _ _ e))
   have am:a≠m:=fun z=>ma z.symm
   have k1:upd H11 m (.dK [(Zq x,v)]) a=some (.ins t.aAv dx [("made",.ref m),("placed",.ref p)]):=by rw[aAq am];exact e11 _ _ (e10 _ _ (sN _ _ g1))
   have k3:upd H11 m (.dK [(Zq x,v)]) p=some (.dK []):=by rw[aAq mp.symm];exact e11 _ _ (e10 _ _ (sN _ _ g3))
   have h11:H11 m=some (.dK []):=e11 _ _ (e10 _ _ (sN _ _ g2));have iv':Is K (upd H11 m (.dK [(Zq x,v)])) (tS []) v:=by
    cases iv with
    | tup hh rr=>
     rename_i q ws;cases rr;have hh':H11 q=some (.tup []):=hh;have qm:q≠m:=fun z=>by rw[z,h11] at hh';cases hh'
     exact .tup (show upd H11 m _ q=some (.tup []) by rw[aAq qm];exact hh') .nil
   refine⟨[some (.sh (.int 7)),some (.sh (.lst [.str x,.str y])),some (.sh (.int n)),some (.sh (oS1 t x))],aZr sm (.int 7) (i1.mono sm) (.int n) (.inr ⟨oS1 t x,.ref a,rfl,rfl,.obj k1 (.cons (.dk (.inl aAs) (.cons iv' .nil)) (.cons (.dk (.inl k3) .nil) .nil))⟩),?_⟩;have hap:bB8 "make" (mMk t) (look 3) (aAh (b2 gIx (look 1) (con (.int 0))) (aAh (mkT (aAh (b2 gIx (look 1) (con (.int 1))) aBf)) aBf)) [some (.sh (.int 7)),some (.sh (.lst [.str x,.str y])),some (.sh (.int n)),some (.sh (oS1 t x))]=err t.aAl:=by
    refine (aO3 (m:="make") (FM:=mMk t) (C:=t.aAv) (F:=bFk t) (fo:=look 3) (ds:=[.str x,.tup [.str y]]) rfl (if_pos rfl) rfl rfl).trans (bE3 t hx)
   rw[hap];exact fun pins s' H2' ev e z=>hxe pins s' _ H2' ev (sm.trans e) z
end
def aNx (t:Adr):List D->M D:=aVp 2 fun ds=>aBq (aEe t (aCz aGe ds))
theorem aN3 (t:Adr)(i j:Int):aNx t [.int i,.int j]=ok (.bl (decide (j<=i))):=by
 refine aLm rfl ?_;have e0:aCz aGe [.int i,.int j]=[some (.sh (.int i)),some (.sh (.int j))]:=rfl;rw[e0];simp[aEe,aAy,aH7,bGh,bKr,isi,tyN,isB,b2,look,SV.cur,bnd,ok,lft,gGe,bF1,aBq]
abbrev lS (xs:List Str):D:= .lst (xs.map D.str)
def mk (l:List (Str×D)):D:= .dk (l.map fun p=>(Zq p.1,p.2))
def aZw (l:List (Str×D))(n:Str):Option D:=(l.find? fun p=>decide (p.1=n)).map (·.2)
theorem val_mk (l:List (Str×D))(n:Str):aSo (l.map fun p=>((Zq p.1:Key),p.2)) (Zq n)=aZw l n:=by
 unfold aSo aZw
 induction l with
 | nil=>rfl
 | cons p l ih=>
  rw[Q9,Z0,Z0];by_cases e:p.1=n
  ·rw[decide_eq_true (show (Zq p.1:Key)=Zq n by rw[e]),decide_eq_true e]
   rfl
  ·rw[decide_eq_false (fun z:(Zq p.1:Key)=Zq n=>e (Sum.inr.inj z)),decide_eq_false e]
   exact ih
theorem bI0 {f g:Rho->M D}{ρ:Rho}{l:List (Str×D)}{n:Str}(h1:f ρ=ok (.str n))(h2:g ρ=ok (mk l)):b2 (aTl true) f g ρ=ok (.bl (!(aZw l n).isSome)):=by
 refine aGt h1 h2 ?_;show ok (D.bl (if true then !(aSo (l.map fun p=>((Zq p.1:Key),p.2)) (Zq n)).isSome else _))=_;rw[val_mk];rfl
def fNames (t:Adr):List D->M D:=aVp 1 fun ds=>aBq (aEd t (aCz aGd ds))
def aY6:Rho->Option Out:=(aAy (aUf 1 (aAh (b2 gIx (look 2) (con (.int 0))) aBf))
  aA8)
theorem bHz {ρ:Rho}{i:Nat}:sNew i aBf ρ=some (.nx (ρ.set i (some (.own [])))):=by simp[sNew,aBf,ok,lft,aIj]
theorem bIq {f:Rho->M D}{ρ:Rho}{p:List Str×Int}(h:f ρ=ok (pD p)):b2 gIx f (con (.int 0)) ρ=ok (tS p.1):=aGt h (y:= .int ((0:Nat):Int)) rfl (aX5 rfl)
theorem aUm {x:D}: ∀(l:Sm) (acc:List Str) (s:Option SV),acc.length+(l.flatMap (·.1)).length<=1000->
  ∃s',loop (gN 2) aY6 (l.map pD) [some (.sh x),some (.own (acc.map D.str)),s]=some (.nx [some (.sh x),some (.own ((acc++l.flatMap (·.1)).map D.str)),s']):=by
 intro l
 induction l with
 | nil=>intro acc s _;exact⟨s,by simp[loop]⟩
 | cons p l ih=>
  intro acc s hl;rw[List.flatMap_cons,Qx] at hl;have s1:aUf 1 (aAh (b2 gIx (look 2) (con (.int 0))) aBf) [some (.sh x),some (.own (acc.map D.str)),some (.sh (pD p))]=some (.nx [some (.sh x),some (.own ((acc++p.1).map D.str)),some (.sh (pD p))]):=by
   unfold aUf;show lft _ _ _=_;rw[aAp (bIq (f:=look 2) (p:=p) rfl) aBe];show (if aIj (p.1.map D.str)=true/\(acc.map D.str).length+(p.1.map D.str).length<=100000 then _ else _)=_;rw[if_pos ⟨aQa _,by simp only[Qv];omega⟩,Uo];rfl
  obtain⟨s',h⟩:=ih (acc++p.1) (some (.sh (pD p))) (by rw[Qx];omega);refine⟨s',?_⟩;have e:aY6 [some (.sh x),some (.own (acc.map D.str)),some (.sh (pD p))]=some (.nx [some (.sh x),some (.own ((acc++p.1).map D.str)),some (.sh (pD p))]):=by
   unfold aY6;rw[aB5 s1];rfl
  have g:gN 2 (pD p) [some (.sh x),some (.own (acc.map D.str)),s]=some [some (.sh x),some (.own (acc.map D.str)),some (.sh (pD p))]:=by
   show some (aMh 2 (pD p) _)=_;rw[aKv (bHm p)];rfl
  rw[Q9];refine (aP1 g e).trans ?_;rw[h,List.flatMap_cons,Yo]
def namesOf (l:Sm):List Str:=aWg (aFj (l.flatMap (·.1)))
theorem bA6 (t:Adr){l:Sm}(hl:(l.flatMap (·.1)).length<60):fNames t [sD l]=ok (lS (namesOf l)):=by
 refine aLm rfl ?_;have e0:aCz aGd [sD l]=[some (.sh (sD l)),none,none]:=rfl;rw[e0];unfold aEd;rw[aB5 bHz];obtain⟨s',lp⟩:=aUm (x:=sD l) l [] none (by rw[J1,Nat.zero_add];omega);have s2:aM0 0 (gN 2) aY6 [some (.sh (sD l)),some (.own []),none]=some (.nx [some (.sh (sD l)),some (.own ((l.flatMap (·.1)).map D.str)),s']):=lp;show aBq (aAy (aM0 0 (gN 2) aY6) _ [some (.sh (sD l)),some (.own []),none])=_;have q2:bGs (.set (aFj (l.flatMap (·.1))))=ok (lS (namesOf l)):=by
  show (if (aFj (l.flatMap (·.1))).length<64/\(aFj (l.flatMap (·.1))).Nodup then ok (D.lst ((aWg (aFj (l.flatMap (·.1)))).map .str)) else none)=_;rw[if_pos ⟨by have:=aXm (l.flatMap (·.1));omega,aUn _⟩];rfl
 rw[aB5 s2,aFq (aJa (aR4 (g:=bGs) (aR4 (g:=toS) (d:=lS (l.flatMap (·.1))) rfl (bGq _ (by omega))) q2))];rfl
def aTm (t:Adr):List D->M D:=aPf 2 fun ds=>aBq (aC5 t (fNames t) (aCz aDx ds))
def aQq (t:Adr):Rho->Option Out:=(aAy (sIf (aA9 (b2 (aTl true) (look 2) (look 1))) (aAy (aDb t.aAf (aAh (jnd (aTf "no mark is told for " (aX4 (look 2) aVs))) aBf))
  aA8) aA8)
  aA8)
theorem aU8 (t:Adr){x:D}{d:List (Str×D)}: ∀(ns:List Str) (s:Option SV),(∀n∈ns,Sh n)->
  (if (ns.all fun n=>(aZw d n).isSome)=true then∃ρ,loop (gN 2) (aQq t) (ns.map D.str) [some (.sh x),some (.sh (mk d)),s]=some (.nx ρ)
  else∃ρ,loop (gN 2) (aQq t) (ns.map D.str) [some (.sh x),some (.sh (mk d)),s]=some (.ex t.aAf ρ)):=by
 intro ns
 induction ns with
 | nil=>intro s _;rw[List.all_nil,if_pos rfl];exact⟨_,rfl⟩
 | cons n ns ih=>
  intro s hs;have q:=aCd (bI0 (f:=look 2) (g:=look 1) (ρ:=[some (.sh x),some (.sh (mk d)),some (.sh (.str n))]) (l:=d) (n:=n) rfl rfl);rw[Ja,Q9];cases hb:(aZw d n).isSome with
  | true=>
   rw[hb] at q;have e:aQq t [some (.sh x),some (.sh (mk d)),some (.sh (.str n))]=some (.nx [some (.sh x),some (.sh (mk d)),some (.sh (.str n))]):=by
    unfold aQq;rw[aB5 ((aPo q).trans rfl)];rfl
   rw[Ux,aP1 (ρ1:=[some (.sh x),some (.sh (mk d)),some (.sh (.str n))]) rfl e];exact ih _ fun m hm=>hs m (Qw _ hm)
  | false=>
   rw[hb] at q;obtain⟨z,hz⟩:=bKx (c:="no mark is told for ") (f:=look 2) (ρ:=[some (.sh x),some (.sh (mk d)),some (.sh (.str n))]) (by decide+kernel) (hs n Qt) rfl;rw[Us,if_neg (by decide)];refine⟨[some (.sh x),some (.sh (mk d)),some (.sh (.str n))],?_⟩;have e:aQq t [some (.sh x),some (.sh (mk d)),some (.sh (.str n))]=some (.ex t.aAf [some (.sh x),some (.sh (mk d)),some (.sh (.str n))]):=by
    unfold aQq;exact aBv ((aKp q).trans (aC4 hz))
   unfold loop;rw[show gN 2 (.str n) [some (.sh x),some (.sh (mk d)),s]=some [some (.sh x),some (.sh (mk d)),some (.sh (.str n))] from rfl]
   dsimp only
   rw[e]
theorem bB3 (t:Adr){l:Sm}{d:List (Str×D)}(hl:(l.flatMap (·.1)).length<60)(hs: ∀n∈namesOf l,Sh n):aTm t [sD l,mk d]=if ((namesOf l).all fun n=>(aZw d n).isSome)=true then ok .non else err t.aAf:=by
 refine aEj rfl ?_;have e0:aCz aDx [sD l,mk d]=[some (.sh (sD l)),some (.sh (mk d)),none]:=rfl;rw[e0];unfold aC5;have z:=aU8 t (x:=sD l) (d:=d) (namesOf l) none hs;have c1:app (fNames t) (aAh (look 0) aBf) [some (.sh (sD l)),some (.sh (mk d)),none]=ok (lS (namesOf l)):=(aC7 (aAp (d:=sD l) rfl aBe)).trans (bA6 t hl);have f1:=bAj (G:=gN 2) (F:=aQq t) c1 (ds:=(namesOf l).map D.str) rfl;have fr:(if (lS (namesOf l)).imm=true then [some (SV.sh (sD l)),some (SV.sh (mk d)),none] else free [some (SV.sh (sD l)),some (SV.sh (mk d)),none])=[some (SV.sh (sD l)),some (SV.sh (mk d)),none]:=by split<;>rfl
 rw[fr] at f1;show aBq (aAy (aWt _ (gN 2) (aQq t)) _ _)=_;by_cases h:((namesOf l).all fun n=>(aZw d n).isSome)=true
 ·rw[if_pos h] at z⊢
  obtain⟨ρ,z⟩:=z;rw[aB5 (f1.trans z)];rfl
 ·rw[if_neg h] at z⊢
  obtain⟨ρ,z⟩:=z;rw[aBv (f1.trans z)];rfl
def aYr (t:Adr):List D->M D:=aPf 3 fun ds=>aBq (aIh t (aTm t) (aCz aO4 ds))
theorem aQ2 (t:Adr){l:Sm}{o:D}{d:List (Str×D)}(hl:(l.flatMap (·.1)).length<60)(hs: ∀n∈namesOf l,Sh n)(h:¬((namesOf l).all fun n=>(aZw d n).isSome)=true):aYr t [sD l,o,mk d]=err t.aAf:=by
 refine aEj rfl ?_;have e0:aCz aO4 [sD l,o,mk d]=[some (.sh (sD l)),some (.sh o),some (.sh (mk d))]:=rfl;rw[e0];unfold aIh;have c:app (aTm t) (aAh (look 0) (aAh (look 2) aBf)) [some (.sh (sD l)),some (.sh o),some (.sh (mk d))]=err t.aAf:=by
  rw[aC7 (aAp (d:=sD l) rfl (aAp (d:=mk d) rfl aBe)),bB3 t hl hs,if_neg h]
 have s:aD1 (app (aTm t) (aAh (look 0) (aAh (look 2) aBf))) [some (.sh (sD l)),some (.sh o),some (.sh (mk d))]=some (.ex t.aAf [some (.sh (sD l)),some (.sh o),some (.sh (mk d))]):=by
  unfold aD1;rw[c];rfl
 rw[aBv s];rfl
def bFl (t:Adr):List D->M D:=aVp 1 fun ds=>aBq (aOy t (aCz aZd ds))
theorem bF5 (t:Adr)(x:Str):bFl t [.str x]=ok (sD [([x],1)]):=aLm rfl rfl
theorem aZ6 (t:Adr){x y:Str}{o:D}{n:Int}(hxy:x≠y)(hx:Sh x):aYr t [sD [([x],1)],o,.dk [(Zq y,.int n)]]=err t.aAf:=by
 have hn:namesOf [([x],1)]=[x]:=by
  unfold namesOf;show aWg (aFj [x])=[x];rw[show aFj [x]=[x] from aP0 (by simp)];exact List.perm_singleton.mp (aLp [x])
 refine aQ2 t (l:=[([x],1)]) (d:=[(y,.int n)]) (show 1<60 by decide) (fun n hn'=>by rw[hn] at hn';rw[List.mem_singleton.mp hn'];exact hx) ?_;rw[hn];simp[aZw,Ne.symm hxy]
def iCo:List D->M (List (Str×D))
 | []=>ok [("nought",.int 0),("one",.int 1)]
 | _=>none
def oC (t:Adr):D:= .obj t.aAz [("nought",.int 0),("one",.int 1)]
theorem csC (t:Adr):cs t t.aAz=true:=by simp[cs]
theorem bI1 (t:Adr): ∀ds r a dx,iCo ds=some r->∃fs,r= .ok fs/\aJz a t.aAz dx (aBy t (aPc aCh a t.aAz dx ds))=ok fs:=by
 intro ds r a dx h;unfold iCo at h;split at h
 ·cases h
  refine⟨_,rfl,?_⟩;have e0:aPc aCh a t.aAz dx []=[some (.oin a t.aAz dx [])]:=rfl;rw[e0];have n1:(Yh "nought":Str)≠Yh "one":=by decide+kernel
  simp[aBy,aAy,aWu,aM1,mkT,aAh,aBf,look,SV.cur,con,bnd,ok,lft,D.imm,aIj,L2.PU.putAt,csC,putD,aA8,aJz,n1]
 ·cases h
def iRo (t:Adr):List D->M (List (Str×D))
 | [.int m]=>if m<2 then err t.aAj else none
 | _=>none
def iLo (t:Adr):List D->M (List (Str×D))
 | [.int m]=>if m<1 then err t.aAj else none
 | _=>none
theorem bGw (t:Adr): ∀ds r a dx,iRo t ds=some r->aL9 a t.aA6 dx (aBx t (aNx t) (aPc aCg a t.aA6 dx ds))=some r:=by
 intro ds r a dx h;unfold iRo at h;split at h
 ·split at h
  ·rename_i m hm
   cases h;have e0:aPc aCg a t.aA6 dx [.int m]=[some (.oin a t.aA6 dx []),some (.sh (.int m))]:=rfl;rw[e0];unfold aBx;have q:test (app (aNx t) (aAh (look 1) (aAh (con (.int 2)) aBf))) [some (.oin a t.aA6 dx []),some (.sh (.int m))]=ok false:=aQ5 ((aC7 (aAp (d:= .int m) rfl (aAp (d:= .int 2) rfl aBe))).trans (aN3 t m 2)) (by rw[decide_eq_false (by omega)];rfl);rw[aBv ((aKp (aRn q)).trans (aC4 (d:= .str "rounds go by a whole number from 2 on") rfl))];rfl
  ·cases h
 ·cases h
theorem bH5 (t:Adr): ∀ds r a dx,iLo t ds=some r->aL9 a t.aCj dx (aCf t (aNx t) (aPc aC9 a t.aCj dx ds))=some r:=by
 intro ds r a dx h;unfold iLo at h;split at h
 ·split at h
  ·rename_i m hm
   cases h;have e0:aPc aC9 a t.aCj dx [.int m]=[some (.oin a t.aCj dx []),some (.sh (.int m))]:=rfl;rw[e0];unfold aCf;have q:test (app (aNx t) (aAh (look 1) (aAh (con (.int 1)) aBf))) [some (.oin a t.aCj dx []),some (.sh (.int m))]=ok false:=aQ5 ((aC7 (aAp (d:= .int m) rfl (aAp (d:= .int 1) rfl aBe))).trans (aN3 t m 1)) (by rw[decide_eq_false (by omega)];rfl);rw[aBv ((aKp (aRn q)).trans (aC4 (d:= .str "lows keep a whole number from 1 on") rfl))];rfl
  ·cases h
 ·cases h
def bIu (t:Adr):List D->M D:=aPf 2 fun ds=>aBq (aDw t (aU5 t) (aCz aE5 ds))
theorem aYv {F:Rho->M D}{ρ:Rho}{d:D}(h:F ρ=ok d):aD1 F ρ=some (.nx ρ):=by unfold aD1;rw[h];rfl
theorem aOw {F:Rho->M D}{ρ:Rho}{c:Addr}(h:F ρ=err c):aD1 F ρ=some (.ex c ρ):=by unfold aD1;rw[h];rfl
theorem bFa (t:Adr){x y:Str}(hxy:x≠y)(hy:Sh y):bIu t [tS [x],tS [y]]=err t.aAb:=by
 refine aEj rfl ?_;have e0:aCz aE5 [tS [x],tS [y]]=[some (.sh (tS [x])),some (.sh (tS [y])),none]:=rfl;rw[e0];unfold aDw;rw[aB5 (aYv ((aC7 (aAp (f:=look 1) (d:=tS [y]) rfl aBe)).trans (aRi t (by simp) (show 1<=100 by decide))))];obtain⟨z,hz⟩:=bKx (c:="the head has no column ") (f:=look 2) (ρ:=[some (.sh (tS [x])),some (.sh (tS [y])),some (.sh (.str y))]) (by decide+kernel) hy rfl;have q:aA9 (b2 (gIn true) (look 2) (look 0)) [some (.sh (tS [x])),some (.sh (tS [y])),some (.sh (.str y))]=ok true:=by
  refine aCd (aGt (x:= .str y) (y:=tS [x]) rfl rfl ((bK5 true y [x]).trans ?_));simp[Ne.symm hxy]
 have lp:aM0 1 (gN 2) (aAy (sIf (aA9 (b2 (gIn true) (look 2) (look 0))) (aAy (aDb t.aAb (aAh (jnd (aTf "the head has no column " (aX4 (look 2) aVs))) aBf)) aA8) aA8) aA8) [some (.sh (tS [x])),some (.sh (tS [y])),none]=some (.ex t.aAb [some (.sh (tS [x])),some (.sh (tS [y])),some (.sh (.str y))]):=by
  show loop (gN 2) _ [.str y] _=_;unfold loop;rw[show gN 2 (.str y) (aFi 1 [some (.sh (tS [x])),some (.sh (tS [y])),none])=some [some (.sh (tS [x])),some (.sh (tS [y])),some (.sh (.str y))] from rfl]
  dsimp only
  rw[aBv ((aKp q).trans (aC4 hz))]
 rw[aBv lp];rfl
def bL5 (t:Adr):List D->M D:=aPf 2 fun ds=>aBq (aCe t (aCz aC8 ds))
theorem bGp (t:Adr){x y:Str}(hxy:x≠y):bL5 t [tS [x],tS [y]]=err t.aAo:=by
 refine aEj rfl ?_;have e0:aCz aC8 [tS [x],tS [y]]=[some (.sh (tS [x])),some (.sh (tS [y]))]:=rfl;rw[e0];unfold aCe;have q:aA9 (b2 bIo (f1 toS (look 0)) (f1 toS (look 1))) [some (.sh (tS [x])),some (.sh (tS [y]))]=ok true:=by
  refine aCd (aGt (x:= .set [x]) (y:= .set [y]) (aR4 (g:=toS) (d:=tS [x]) rfl (aWa (by simp) (show 1<=2000 by decide))) (aR4 (g:=toS) (d:=tS [y]) rfl (aWa (by simp) (show 1<=2000 by decide))) ?_);show ok (D.bl (!(decide ((1:Nat)=1)&&([x].all fun k=> [y].contains k))))=_;simp[hxy]
 rw[aBv ((aKp q).trans (aC4 (d:= .str "the columns are not the same") rfl))];rfl
def fIs (t:Adr):List D->M D:=aVp 2 fun ds=>aBq (aB8 t (aNx t) (aCz aCv ds))
theorem bK3 (t:Adr)(o:D)(m:Int):fIs t [o,.int m]=ok (.bl (decide (0<=m))):=by
 refine aLm rfl ?_;have e0:aCz aCv [o,.int m]=[some (.sh o),some (.sh (.int m))]:=rfl;rw[e0];unfold aB8;rw[aFq (aJa ((aC7 (aAp (f:=look 1) (d:= .int m) rfl (aAp (d:= .int 0) rfl aBe))).trans (aN3 t m 0)))];rfl
open Classical in
def mIs (t:Adr):Addr->Option (List D->M D):=fun C=>if C=t.aAz then some (fIs t) else none
def bJi (t:Adr):List D->M D:=aPf 3 fun ds=>aBq (aDk t (aU5 t) (mIs t) (aCz aEg ds))
def aU9 (t:Adr):Rho->Option Out:=(aAy (sIf (aA9 (b2 gNe (f1 aPd (look 3)) (f1 aPd (look 1)))) (aAy (aDb t.aAn (aAh (con (.str "a row is not as long as the head")) aBf))
  aA8) aA8)
  (aAy (sIf (bCu (test (bB8 "is_mark" (mIs t) (look 0) (aAh (look 4) aBf)))) (aAy (aDb t.aAg (aAh (con (.str "a row has no mark of the way")) aBf))
  aA8) aA8)
  aA8))
theorem bCh (t:Adr){x:Str}{row:List D}{m:Int}{c:Addr}(hr:aIj row=true)(h:aU9 t [some (.sh (oC t)),some (.sh (tS [x])),some (.sh (.lst [.tup [.tup row,.int m]])),some (.sh (.tup row)),some (.sh (.int m))]=some (.ex c [some (.sh (oC t)),some (.sh (tS [x])),some (.sh (.lst [.tup [.tup row,.int m]])),some (.sh (.tup row)),some (.sh (.int m))])):bJi t [oC t,tS [x],.lst [.tup [.tup row,.int m]]]=err c:=by
 refine aEj rfl ?_;have e0:aCz aEg [oC t,tS [x],.lst [.tup [.tup row,.int m]]]=[some (.sh (oC t)),some (.sh (tS [x])),some (.sh (.lst [.tup [.tup row,.int m]])),none,none]:=rfl;rw[e0];unfold aDk;rw[aB5 (aYv ((aC7 (aAp (f:=look 1) (d:=tS [x]) rfl aBe)).trans (aRi t (by simp) (show 1<=100 by decide))))];have g:gN2 3 4 (.tup [.tup row,.int m]) (aFi 2 [some (.sh (oC t)),some (.sh (tS [x])),some (.sh (.lst [.tup [.tup row,.int m]])),none,none])=some [some (.sh (oC t)),some (.sh (tS [x])),some (.sh (.lst [.tup [.tup row,.int m]])),some (.sh (.tup row)),some (.sh (.int m))]:=by
  show some (aMh 4 (.int m) (aMh 3 (.tup row) _))=_;rw[aKv (d:= .tup row) hr,aKv (d:= .int m) rfl];rfl
 have lp:aM0 2 (gN2 3 4) (aU9 t) [some (.sh (oC t)),some (.sh (tS [x])),some (.sh (.lst [.tup [.tup row,.int m]])),none,none]=some (.ex c [some (.sh (oC t)),some (.sh (tS [x])),some (.sh (.lst [.tup [.tup row,.int m]])),some (.sh (.tup row)),some (.sh (.int m))]):=by
  show loop (gN2 3 4) (aU9 t) [.tup [.tup row,.int m]] _=_;unfold loop;rw[g]
  dsimp only
  rw[h]
 show aBq (aAy (aM0 2 (gN2 3 4) (aU9 t)) _ _)=_;rw[aBv lp];rfl
theorem aZ9 (t:Adr){x:Str}{n m:Int}(hm:m<0):bJi t [oC t,tS [x],.lst [.tup [.tup [.int n],.int m]]]=err t.aAg:=by
 refine bCh t rfl ?_;unfold aU9;generalize hρ:([some (.sh (oC t)),some (.sh (tS [x])),some (.sh (.lst [.tup [.tup [.int n],.int m]])),some (.sh (.tup [.int n])),some (.sh (.int m))]:Rho)=ρ;have q1:aA9 (b2 gNe (f1 aPd (look 3)) (f1 aPd (look 1))) ρ=ok false:=by rw[<-hρ];rfl
 have k0:look 0 ρ=ok (oC t):=by rw[<-hρ];rfl
 have k4:look 4 ρ=ok (.int m):=by rw[<-hρ];rfl
 have q2:test (bB8 "is_mark" (mIs t) (look 0) (aAh (look 4) aBf)) ρ=ok false:=aQ5 ((aO3 (m:="is_mark") (FM:=mIs t) (C:=t.aAz) (F:=fIs t) k0 (if_pos rfl) rfl (aAp k4 aBe)).trans (bK3 t _ m)) (by rw[decide_eq_false (by omega)];rfl);rw[aB5 ((aPo q1).trans rfl),aBv ((aKp (aRn q2)).trans (aC4 (d:= .str "a row has no mark of the way") rfl))]
theorem bDm (t:Adr){x:Str}{n:Int}:bJi t [oC t,tS [x],.lst [.tup [.tup [.int 0,.int n],.int 1]]]=err t.aAn:=by
 refine bCh t rfl ?_;unfold aU9;have q1:aA9 (b2 gNe (f1 aPd (look 3)) (f1 aPd (look 1))) [some (.sh (oC t)),some (.sh (tS [x])),some (.sh (.lst [.tup [.tup [.int 0,.int n],.int 1]])),some (.sh (.tup [.int 0,.int n])),some (.sh (.int 1))]=ok true:=rfl;rw[aBv ((aKp q1).trans (aC4 (d:= .str "a row is not as long as the head") rfl))]
def fCk (t:Adr):List D->M D:=aPf 2 fun ds=>aBq (aBp t (aCz aBz ds))
theorem bLg (t:Adr){x:Str}(hx:Sh x):fCk t [oS t,.str x]=err t.aAd:=by
 refine aEj rfl ?_;have e0:aCz aBz [oS t,.str x]=[some (.sh (oS t)),some (.sh (.str x))]:=rfl;rw[e0];unfold aBp;have f1:fld (cs t) "made" (look 0) [some (.sh (oS t)),some (.sh (.str x))]=ok (.dk []):=aYo (C:=t.aAv) (show look 0 [some (.sh (oS t)),some (.sh (.str x))]=ok (oS t) from rfl) (csS t) rfl;have q:aA9 (b2 (aTl true) (look 1) (fld (cs t) "made" (look 0))) [some (.sh (oS t)),some (.sh (.str x))]=ok true:=aCd (aGt (x:= .str x) rfl f1 rfl);obtain⟨z,hz⟩:=bKx (c:="there is no table ") (f:=look 1) (ρ:=[some (.sh (oS t)),some (.sh (.str x))]) (by decide+kernel) hx rfl;rw[aBv ((aKp q).trans (aC4 hz))];rfl
open Classical in
def mCk (t:Adr):Addr->Option (List D->M D):=fun C=>if C=t.aAv then some (fCk t) else none
def fNm (t:Adr):List D->M D:=aPf 2 fun ds=>aBq (aC6 t (mCk t) (aCz aDy ds))
theorem bKs (t:Adr){x:Str}(hx:Sh x):fNm t [oS t,.str x]=err t.aAd:=by
 refine aEj rfl ?_;have e0:aCz aDy [oS t,.str x]=[some (.sh (oS t)),some (.sh (.str x))]:=rfl;rw[e0];unfold aC6;rw[aBv (aOw ((aO3 (m:="check_table") (FM:=mCk t) (C:=t.aAv) (F:=fCk t) (fo:=look 0) (ds:=[.str x]) rfl (if_pos rfl) rfl rfl).trans (bLg t hx)))];rfl
open Classical in
def mNm (t:Adr):Addr->Option (List D->M D):=fun C=>if C=t.aAv then some (fNm t) else none
def P7 (ds:List D):Prop:= ∃x y n,ds=[.int 7,.lst [.str x,.str y],.int n]/\(Z3 x).length<=10000
def bGg (t:Adr):Rho->Option Out:=aFe t (bFl t) (bIu t) (bJi t) (bL5 t) (aYr t) iCo (iLo t) (iRo t) iS (mNm t)
open Classical in
def aEw (t:Adr):List D->M D:=fun ds=>if P7 ds then err t.aAl else aPf 3 (fun ds=>aBq (bGg t (aCz aA0 ds))) ds
section
variable {P:Qr}{w:Q2}{K:Qb}{mg:Str->Option Qd}{base:Heap}{t:Adr}
theorem bH4 (T:Txt K mg t)(k:Nat): ∀C F,mIs t C=some F->Mth P w K mg base (k+2) C "is_mark" F:=by
 intro C F h;unfold mIs at h;split at h
 ·rename_i e;subst e;cases h
  exact aJc T (aHe T (k:=k) aQ4) aQ4
 ·cases h
theorem bH2 (T:Txt K mg t)(k:Nat): ∀C F,mNm t C=some F->Mth P w K mg base (k+3) C "names" F:=by
 intro C F h;unfold mNm at h;split at h
 ·rename_i e;subst e;cases h
  refine aM4 T (k:=k+2) (aCi:=mCk t) (fun C F h=> ?_) aCc aEm;unfold mCk at h;split at h
  ·rename_i e;subst e;cases h
   exact aGq T aCc aEm
  ·cases h
 ·cases h
theorem bD2 (T:Txt K mg t)(k:Nat):Def P w K mg base (k+5) "_law_provoked" (aEw t):=by
 obtain⟨fd,Fu,bi⟩:=T.aBr;obtain⟨fdI,FuI,biI⟩:=T.aFf;obtain⟨fdM,FuM,biM⟩:=T.aJ3;have kp:=Fu.kp;have hL: ∀ds r,aEw t ds=some r->ds.length=3:=fun ds r h=>by
  unfold aEw at h;split at h
  ·rename_i z;obtain⟨x,y,n,rfl,_⟩:=z;rfl
  ·exact aCc ds r h
 refine⟨_,_,_,T.aNa,kp,bi,hL,?_⟩;obtain⟨oc,od,kV',doc,pm,an,cdv,ct,osl,rfl,lk,hcd⟩:=Fu.ex;refine aR1 lk hcd aDz (fun vs H Q E ⟨ds,i,hl,_⟩=>hl) fun A outer s H vs Q E hr hsp=> ?_
 obtain⟨ds,i,hl,h⟩:=hsp;by_cases h7:P7 ds
 ·refine⟨_,bJ8 T FuI biI FuM biM (k:=k+2) hr,?_⟩
  unfold aEw at h;rw[if_pos h7] at h;obtain⟨x,y,n,rfl,hx⟩:=h7;cases i with
  | cons j1 j2=>
   cases j1;cases j2 with
   | cons j3 j4=>
    cases j4 with
    | cons j5 j6=>
     cases j5;cases j6;exact⟨rfl,x,y,n,_,rfl,j3,hx,fun pins s' σ' H' ev e z=>aZ5 z (h H' e)⟩
 ·have hL0:=hL
  unfold aEw at h;rw[if_neg h7] at h;refine⟨_,aLn T (k:=k+4) (k':=k+3) (Qn _) (bEr T (k:=k+3) aQ4) (aPx T (k:=k+3) (aDs T aCc aEm) aCc aEm) (aOk T (k:=k+3) (aDs T aCc aEm) (bH4 T (k+1)) aCc aEm) (aKq T (k:=k+3) aCc aEm) (bA0 T (k:=k+3) (aM3 T (aRj T aQ4) aCc aEm) aCc aEm)
   (aIc T ⟨(by intro ds r h;unfold iCo at h;split at h<;>first | rfl | cases h),bI1 t⟩) (aKr T (aHe T (k:=k+1) aQ4) (by intro ds r h;unfold iLo at h;split at h<;>first | rfl | cases h) (bH5 t)) (aIb T (aHe T (k:=k+1) aQ4) (by intro ds r h;unfold iRo at h;split at h<;>first | rfl | cases h) (bGw t)) (aF9 T (k+2)) (bH2 T (k+1)) hr H,?_⟩
  have hn:(["_law_which","_law_names","_law_number"]:List Str).length<=aA0.length:=(show 3<=4 by decide);cases q:aPf 3 (fun ds=>aBq (bGg t (aCz aA0 ds))) ds with
  | none=>rw[q] at h;exact Qg h
  | some r=>
   rw[q] at h;have e:=aEm ds r q;refine⟨aCz aA0 ds,aH8 i (by rw[i.length,hl];exact hn),?_⟩;show aNd _ _ _ (bGg t (aCz aA0 ds));cases qf:bGg t (aCz aA0 ds) with
   | none=>rw[qf] at e;cases e
   | some o=>
    rw[qf] at e;cases o with
    | rt d'=>cases e;exact fun v H' s' i'=>h v H' s' i'
    | nx ρ=>cases e;exact fun σ' H' r'=>h _ H' r'.kept .non
    | bk ρ=>cases e
    | ct ρ=>cases e
    | ex c ρ=>cases e;exact fun pins s' σ' H' ev r' x=>aZ5 x (h H' r'.kept)
end
theorem aDa {c:Rho->M Bool}{A B:Rho->Option Out}{ρ ρ':Rho}{x:Addr}(h:c ρ=ok false)(hB:B ρ=some (.ex x ρ')):sIf c A (aAy B aA8) ρ=some (.ex x ρ'):=(aPo h).trans (aBv hB)
theorem aQ6 {c:Rho->M Bool}{B:Rho->Option Out}{F:Rho->M D}{ρ:Rho}{x:Addr}(h:c ρ=ok true)(hF:F ρ=err x):sIf c (aAy (aD1 F) aA8) B ρ=some (.ex x ρ):=(aKp h).trans (aBv (aOw hF))
theorem bE1 {f g:Rho->M D}{ρ:Rho}{d1 d2:D}(h1:f ρ=ok d1)(h2:g ρ=ok d2):mkT (aAh f (aAh g aBf)) ρ=ok (.tup [d1,d2]):=by
 unfold mkT;rw[aAp h1 (aAp h2 aBe)];rfl
theorem bE2 {f:Rho->M D}{ρ:Rho}{d:D}(h:f ρ=ok d):mkL (aAh f aBf) ρ=ok (.lst [d]):=by
 unfold mkL;rw[aAp h aBe];rfl
theorem aIg {i j:Int}(h:i≠j){s1 s2 s3:Option SV}:aA9 (b2 gEq (look 0) (con (.int j))) [some (.sh (.int i)),s1,s2,s3]=ok false:=by
 have:=aCd (aTo (f:=look 0) (g:=con (.int j)) (ρ:=[some (.sh (.int i)),s1,s2,s3]) (i:=i) (j:=j) rfl rfl);rw[decide_eq_false h] at this;exact this
theorem bFr {i:Int}{s1 s2 s3:Option SV}:aA9 (b2 gEq (look 0) (con (.int i))) [some (.sh (.int i)),s1,s2,s3]=ok true:=by
 have:=aCd (aTo (f:=look 0) (g:=con (.int i)) (ρ:=[some (.sh (.int i)),s1,s2,s3]) (i:=i) (j:=i) rfl rfl);rw[decide_eq_true rfl] at this;exact this
abbrev Rp (t:Adr)(j:Int)(x y:Str)(n:Int):Rho:=[some (.sh (.int j)),some (.sh (.lst [.str x,.str y])),some (.sh (.int n)),some (.sh (oS t))]
section
variable (t:Adr){x y:Str}{n:Int}(hxy:x≠y)(hx:Sh x)(hy:Sh y)(hn:0<=n)
theorem aEa {j:Int}{c:Addr}{ρ':Rho}{R:Rho->Option Out}(hj:j≠7)(he: ∀ρ,bGg t ρ=aAy (aLu 3 (fun _=>mkO t.aAv iS [])) (aAy R aA8) ρ)(h:R (Rp t j x y n)=some (.ex c ρ')):aEw t [.int j,.lst [.str x,.str y],.int n]=err c:=by
 unfold aEw;rw[if_neg (fun⟨_,_,_,z,_⟩=>by injection z with z1;injection z1 with z1;exact hj z1)];refine aEj rfl ?_;show aBq (bGg t [some (.sh (.int j)),some (.sh (.lst [.str x,.str y])),some (.sh (.int n)),none])=_;rw[he,aB5 (aOc (d:=oS t) rfl rfl)];show aBq (aAy R aA8 (Rp t j x y n))=_;rw[aBv h];rfl
theorem bKf (hn:0<=n):aEw t [.int 0,.lst [.str x,.str y],.int n]=err t.aAj:=by
 refine aEa t (by decide) (fun _=>rfl) (aQ6 bFr ?_);rw[aC7 (aAp (aWc (f:=con (.int 1)) (g:=look 2) (i:=1) (j:=n) rfl rfl) aBe)];show bnd (if 1-n<2 then err t.aAj else none) _=_;rw[if_pos (by omega)];rfl
theorem bJ7 (hn:0<=n):aEw t [.int 8,.lst [.str x,.str y],.int n]=err t.aAj:=by
 refine aEa t (by decide) (fun _=>rfl) (aDa (aIg (by decide)) (aDa (aIg (by decide)) (aDa (aIg (by decide)) (aDa (aIg (by decide)) (aDa (aIg (by decide)) (aDa (aIg (by decide)) (aDa (aIg (by decide)) ((aPo (aIg (by decide))).trans (aBv (aOw ?_))))))))));rw[aC7 (aAp (aWc (f:=con (.int 0)) (g:=look 2) (i:=0) (j:=n) rfl rfl) aBe)];show bnd (if 0-n<1 then err t.aAj else none) _=_;rw[if_pos (by omega)];rfl
theorem bKe (hn:0<=n):aEw t [.int 1,.lst [.str x,.str y],.int n]=err t.aAg:=by
 refine aEa t (by decide) (fun _=>rfl) (aDa (aIg (by decide)) (aQ6 bFr ?_));have s1:b2 PU.bBx (f1 bKt (con (.int 1))) (look 2) (Rp t 1 x y n)=ok (.int (-1-n)):=aWc (i:= -1) (j:=n) rfl rfl;exact (aC7 (aAp (d:=oC t) rfl (aAp (d:=tS [x]) rfl (aAp (bE2 (bE1 (d1:= .tup [.int n]) rfl s1)) aBe)))).trans (aZ9 t (by omega))
theorem bKb:aEw t [.int 4,.lst [.str x,.str y],.int n]=err t.aAn:=by
 refine aEa t (by decide) (fun _=>rfl) (aDa (aIg (by decide)) (aDa (aIg (by decide)) (aDa (aIg (by decide)) (aDa (aIg (by decide)) (aQ6 bFr ?_)))));exact (aC7 (aAp (d:=oC t) rfl (aAp (d:=tS [x]) rfl (aAp (d:= .lst [.tup [.tup [.int 0,.int n],.int 1]]) rfl aBe)))).trans (bDm t)
theorem bKd (hxy:x≠y)(hx:Sh x):aEw t [.int 2,.lst [.str x,.str y],.int n]=err t.aAf:=by
 refine aEa t (by decide) (fun _=>rfl) (aDa (aIg (by decide)) (aDa (aIg (by decide)) (aQ6 bFr ?_)));have b1:app (bFl t) (aAh (b2 gIx (look 1) (con (.int 0))) aBf) (Rp t 2 x y n)=ok (sD [([x],1)]):=(aC7 (aAp (d:= .str x) rfl aBe)).trans (bF5 t x);exact (aC7 (aAp b1 (aAp (d:=oC t) rfl (aAp (d:= .dk [(Zq y,.int n)]) rfl aBe)))).trans (aZ6 t hxy hx)
theorem bKc (hxy:x≠y)(hy:Sh y):aEw t [.int 3,.lst [.str x,.str y],.int n]=err t.aAb:=by
 refine aEa t (by decide) (fun _=>rfl) (aDa (aIg (by decide)) (aDa (aIg (by decide)) (aDa (aIg (by decide)) (aQ6 bFr ?_))));exact (aC7 (aAp (d:=tS [x]) rfl (aAp (d:=tS [y]) rfl aBe))).trans (bFa t hxy hy)
theorem bKa (hx:Sh x):aEw t [.int 5,.lst [.str x,.str y],.int n]=err t.aAd:=by
 refine aEa t (by decide) (fun _=>rfl) (aDa (aIg (by decide)) (aDa (aIg (by decide)) (aDa (aIg (by decide)) (aDa (aIg (by decide)) (aDa (aIg (by decide)) (aQ6 bFr ?_))))));exact (aO3 (m:="names") (FM:=mNm t) (C:=t.aAv) (F:=fNm t) (fo:=look 3) (ds:=[.str x]) rfl (if_pos rfl) rfl rfl).trans (bKs t hx)
theorem bJ9 (hxy:x≠y):aEw t [.int 6,.lst [.str x,.str y],.int n]=err t.aAo:=by
 refine aEa t (by decide) (fun _=>rfl) (aDa (aIg (by decide)) (aDa (aIg (by decide)) (aDa (aIg (by decide)) (aDa (aIg (by decide)) (aDa (aIg (by decide)) (aDa (aIg (by decide)) (aQ6 bFr ?_)))))));exact (aC7 (aAp (d:=tS [x]) rfl (aAp (d:=tS [y]) rfl aBe))).trans (bGp t hxy)
theorem bG8 (hx:Sh x):aEw t [.int 7,.lst [.str x,.str y],.int n]=err t.aAl:=by
 unfold aEw;rw[if_pos ⟨x,y,n,rfl,hx⟩]
end
structure Km (t:Adr)(c:Addr)(i:Nat):Prop where
 k:kx t c=true
 w:aAx t c=some true
 v:aA1 t c=true
 m0:aCr t c=some (decide (0=i))
 m1:aB3 t c=some (decide (1=i))
 m2:aB2 t c=some (decide (2=i))
 m3:aBb t c=some (decide (3=i))
 m4:aCs t c=some (decide (4=i))
 m5:aBj t c=some (decide (5=i))
 m6:aCt t c=some (decide (6=i))
 m7:aCq t c=some (decide (7=i))
 m8:aBa t c=some (decide (8=i))
 m9:aBk t c=some (decide (9=i))
 m10:aB1 t c=some (decide (10=i))
 m11:aBd t c=some (decide (11=i))
section
variable {K:Qb}{mg:Str->Option Qd}{t:Adr}(T:Txt K mg t)
include T
theorem km0:Km t t.aAj 0:=by
 constructor<;>simp[kx,aAx,aA1,aCr,aB3,aB2,aBb,aCs,aBj,aCt,aCq,aBa,aBk,aB1,aBd,T.aEs.symm,T.aGz.symm,T.aFz.symm,T.aFw.symm,T.aGx.symm,T.aFa.symm,T.aGv]
theorem km1:Km t t.aAg 1:=by
 constructor<;>simp[kx,aAx,aA1,aCr,aB3,aB2,aBb,aCs,aBj,aCt,aCq,aBa,aBk,aB1,aBd,T.aEc.symm,T.aF2.symm,T.aFc,T.aF0,T.aEq,T.aFz,T.aFy]
theorem km2:Km t t.aAf 2:=by
 constructor<;>simp[kx,aAx,aA1,aCr,aB3,aB2,aBb,aCs,aBj,aCt,aCq,aBa,aBk,aB1,aBd,T.aEb.symm,T.aF1.symm,T.aFc.symm,T.aFx,T.aEp,T.aFw,T.aFv]
theorem km3:Km t t.aAb 3:=by
 constructor<;>simp[kx,aAx,aA1,aCr,aB3,aB2,aBb,aCs,aBj,aCt,aCq,aBa,aBk,aB1,aBd,T.aEu,T.aEc,T.aEb,T.aEt,T.aD2,T.aEs,T.aEr]
theorem km4:Km t t.aAn 4:=by
 constructor<;>simp[kx,aAx,aA1,aCr,aB3,aB2,aBb,aCs,aBj,aCt,aCq,aBa,aBk,aB1,aBd,T.aEt.symm,T.aG0.symm,T.aF0.symm,T.aFx.symm,T.aFb,T.aGx,T.aGw]
theorem km5:Km t t.aAd 5:=by
 constructor<;>simp[kx,aAx,aA1,aCr,aB3,aB2,aBb,aCs,aBj,aCt,aCq,aBa,aBk,aB1,aBd,T.aD2.symm,T.aFd.symm,T.aEq.symm,T.aEp.symm,T.aFb.symm,T.aFa,T.aE9]
theorem km6:Km t t.aAo 6:=by
 constructor<;>simp[kx,aAx,aA1,aCr,aB3,aB2,aBb,aCs,aBj,aCt,aCq,aBa,aBk,aB1,aBd,T.aEu.symm,T.aF2,T.aF1,T.aG0,T.aFd,T.aGz,T.aGy]
theorem km7:Km t t.aAl 7:=by
 constructor<;>simp[kx,aAx,aA1,aCr,aB3,aB2,aBb,aCs,aBj,aCt,aCq,aBa,aBk,aB1,aBd,T.aEr.symm,T.aGy.symm,T.aFy.symm,T.aFv.symm,T.aGw.symm,T.aE9.symm,T.aGv.symm]
end
def kl (i:Nat):List Bool:=[decide (0=i),decide (1=i),decide (2=i),decide (3=i),decide (4=i),decide (5=i),decide (6=i),decide (7=i),decide (8=i),decide (9=i),decide (10=i),decide (11=i),true]
def aQg (t:Adr):List D->M D:=aVp 3 fun ds=>aBq (aDv t (aEw t) (aCz aE4 ds))
theorem aDt {t:Adr}{c:Addr}{i:Nat}{j n:Int}{x y:Str}(hp:aEw t [.int j,.lst [.str x,.str y],.int n]=err c)(h:Km t c i):aQg t [.int j,.lst [.str x,.str y],.int n]=ok (.lst ((kl i).map D.bl)):=by
 refine aLm rfl ?_;have e0:aCz aE4 [.int j,.lst [.str x,.str y],.int n]=[some (.sh (.int j)),some (.sh (.lst [.str x,.str y])),some (.sh (.int n)),none,none]:=rfl;rw[e0];have h':aEw t [.int j,.lst [.str x,.str y],.int n]=some (Except.error c):=hp;simp[aDv,aAy,aD1,aLu,aMh,bJd,app,aAh,aBf,look,SV.cur,bnd,ok,lft,con,D.imm,aIj,free,SV.rel,h',hands,aft,aTn,exs,h.k,h.w,h.v,h.m0,h.m1,h.m2,h.m3,h.m4,h.m5,h.m6,h.m7,h.m8,h.m9,h.m10,h.m11,mkL,b2,aD4,aA8,aH7,aBq,kl]
def bDw:List D->Prop:=fun ds=> ∃ns:List Int,ds=[.lst (ns.map D.int)]/\ns.length<=63
abbrev Rl (ns:List Int)(s1 s2 s3 s4:Option SV):Rho:=[some (.sh (.lst (ns.map D.int))),s1,s2,s3,s4]
def bB5 (t:Adr):Rho->Option Out:=(aAy (aLu 4 (b2 aD4 (cmp 1 (itR (con (.int 12))) [5] h1 (fun _=>ok true) (b2 gEq (look 5) (b2 aGs (look 3) (con (.int 8))))) (mkL (aAh (con (.bl true)) aBf))))
  (aAy (sIf (aA9 (b2 bC5 (app (aQg t) (aAh (look 3) (aAh (look 1) (aAh (look 2) aBf)))) (look 4))) (aAy (aH7 (con (.bl false)))
  aA8) aA8)
  aA8))
theorem bDf: ∀l:List Bool,blL (l.map D.bl)=some l
 | []=>rfl
 | b::l=>by
  show (match blL (l.map D.bl) with | some bs=>some (b::bs) | none=>none)=_;rw[bDf l]
theorem bI5 {K:Qb}{mg:Str->Option Qd}{t:Adr}(T:Txt K mg t){ns:List Int}{x y:Str}{n:Int}{i:Nat}(s4:Option D)(hi:i<9)(hxy:x≠y)(hx:Sh x)(hy:Sh y)(hn:0<=n):
  bB5 t (Rl ns (some (.sh (.lst [.str x,.str y]))) (some (.sh (.int n))) (some (.sh (.int (0+(i:Int))))) (s4.map SV.sh))=some (.nx (Rl ns (some (.sh (.lst [.str x,.str y]))) (some (.sh (.int n))) (some (.sh (.int (0+(i:Int))))) (some (.sh (.lst ((kl (i%8)).map D.bl)))))):=by
 have hk:aQg t [.int (0+(i:Int)),.lst [.str x,.str y],.int n]=ok (.lst ((kl (i%8)).map D.bl)):=by
  match i,hi with
  | 0,_=>exact aDt (bKf t hn) (km0 T)
  | 1,_=>exact aDt (bKe t hn) (km1 T)
  | 2,_=>exact aDt (bKd t hxy hx) (km2 T)
  | 3,_=>exact aDt (bKc t hxy hy) (km3 T)
  | 4,_=>exact aDt (bKb t) (km4 T)
  | 5,_=>exact aDt (bKa t hx) (km5 T)
  | 6,_=>exact aDt (bJ9 t hxy) (km6 T)
  | 7,_=>exact aDt (bG8 t hx) (km7 T)
  | 8,_=>exact aDt (bJ7 t hn) (km0 T)
 have fr:free (Rl ns (some (.sh (.lst [.str x,.str y]))) (some (.sh (.int n))) (some (.sh (.int (0+(i:Int))))) (s4.map SV.sh))=Rl ns (some (.sh (.lst [.str x,.str y]))) (some (.sh (.int n))) (some (.sh (.int (0+(i:Int))))) (s4.map SV.sh):=by cases s4<;>rfl
 have c1:=bFz (m:=1) (k:=5) (it:=itR (con (.int 12))) (fe:=b2 gEq (look 5) (b2 aGs (look 3) (con (.int 8)))) (ρ:=Rl ns (some (.sh (.lst [.str x,.str y]))) (some (.sh (.int n))) (some (.sh (.int (0+(i:Int))))) (s4.map SV.sh)) (l:=Yb 12) (e:=fun (k:Nat)=>D.int (0+(k:Int))) (g:=fun (k:Nat)=>D.bl (decide (k=i%8))) rfl (by simp) fun k hk=>by
  refine⟨?_,rfl⟩;rw[fr];have:=aTo (f:=look 5) (g:=b2 aGs (look 3) (con (.int 8))) (ρ:=(ext 1 (Rl ns (some (.sh (.lst [.str x,.str y]))) (some (.sh (.int n))) (some (.sh (.int (0+(i:Int))))) (s4.map SV.sh))).set 5 (some (.sh (.int (0+(k:Int)))))) (i:=0+(k:Int)) rfl (aXi (i:=0+(i:Int)) (j:=8) rfl rfl (by decide));rw[this]
  congr 3
  exact propext ⟨fun h=>by omega,fun h=>by omega⟩
 have d4:b2 aD4 (cmp 1 (itR (con (.int 12))) [5] h1 (fun _=>ok true) (b2 gEq (look 5) (b2 aGs (look 3) (con (.int 8))))) (mkL (aAh (con (.bl true)) aBf)) (Rl ns (some (.sh (.lst [.str x,.str y]))) (some (.sh (.int n))) (some (.sh (.int (0+(i:Int))))) (s4.map SV.sh))=ok (.lst ((kl (i%8)).map D.bl)):=aGt c1 (y:= .lst [.bl true]) rfl rfl;unfold bB5;rw[aB5 (aOc d4 fr)];show aAy _ _ (Rl ns (some (.sh (.lst [.str x,.str y]))) (some (.sh (.int n))) (some (.sh (.int (0+(i:Int))))) (some (.sh (.lst ((kl (i%8)).map D.bl)))))=_;have q:aA9 (b2 bC5 (app (aQg t) (aAh (look 3) (aAh (look 1) (aAh (look 2) aBf)))) (look 4)) (Rl ns (some (.sh (.lst [.str x,.str y]))) (some (.sh (.int n))) (some (.sh (.int (0+(i:Int))))) (some (.sh (.lst ((kl (i%8)).map D.bl)))))=ok false:=by
  refine aCd (aGt ((aC7 (aAp (f:=look 3) (d:= .int (0+(i:Int))) rfl (aAp (f:=look 1) (d:= .lst [.str x,.str y]) rfl (aAp (f:=look 2) (d:= .int n) rfl aBe)))).trans hk) (y:= .lst ((kl (i%8)).map D.bl)) rfl ?_);show (match blL ((kl (i%8)).map D.bl),blL ((kl (i%8)).map D.bl) with | some x,some y=>ok (D.bl (!decide (x=y))) | _,_=>none)=_;rw[bDf]
  dsimp only
  rw[decide_eq_true rfl];rfl
 rw[aB5 ((aPo q).trans rfl)];rfl
theorem q60:(10:Int)^(60:Int).toNat=1000000000000000000000000000000000000000000000000000000000000:=by decide
theorem bE7 {K:Qb}{mg:Str->Option Qd}{t:Adr}(X:Txt K mg t): ∀ds r,tt bDw ds=some r->∃d,r= .ok d/\aBq (aOx t fAt (aQg t) fName (aCz bCc ds))=ok d:=by
 intro ds r hr;obtain⟨hS,e⟩:=bCg hr;clear hr;subst e;obtain⟨ns,rfl,hns⟩:=hS;refine⟨_,rfl,?_⟩;have e0:aCz bCc [.lst (ns.map D.int)]=Rl ns none none none none:=rfl;rw[e0];unfold aOx;have hst:0<=atZ ns 0%2000/\atZ ns 0%2000<2000:=by omega
 have n1:=bA7 (m:=1) (k:=5) (n:=2) (f:=con (.int 2)) (ρ:=Rl ns none none none none) (fs:=b2 aGs (app fAt (aAh (look 0) (aAh (con (.int 0)) aBf))) (con (.int 2000))) (st:=atZ ns 0%2000) rfl (by omega) hst (fun v=>aXi (bDg 0) rfl (by decide)) (Ji 5);rw[aB5 (aOc n1 rfl)];have hnd:=bHy 2 (by decide) (atZ ns 0%2000);have hsh:=bHx 2 (atZ ns 0%2000);have hl:(nms 2 (atZ ns 0%2000)).length=2:=bEt _ _;generalize nms 2 (atZ ns 0%2000)=P at hnd hl hsh⊢;obtain⟨x,y,rfl⟩: ∃x y:Str,P=[x,y]:=by
  match P,hl with
  | [x,y],_=>exact⟨x,y,rfl⟩
 have hxy:x≠y:=by
  rw[List.nodup_cons] at hnd;exact fun z=>hnd.1 (by rw[z];exact Qt)
 show aBq (aAy _ _ (Rl ns (some (.sh (.lst [.str x,.str y]))) none none none))=_;have pw:b2 bGf (con (.int 10)) (con (.int 60)) (Rl ns (some (.sh (.lst [.str x,.str y]))) none none none)=ok (.int 1000000000000000000000000000000000000000000000000000000000000):=by simp[b2,con,bnd,ok,bGf,q60]
 have a1:app fAt (aAh (look 0) (aAh (con (.int 1)) aBf)) (Rl ns (some (.sh (.lst [.str x,.str y]))) none none none)=ok (.int (atZ ns 1)):=bDg 1;rw[aB5 (bAi (aXi a1 pw (by decide)) rfl)];have hn:0<=atZ ns 1%1000000000000000000000000000000000000000000000000000000000000:=by omega
 generalize atZ ns 1%1000000000000000000000000000000000000000000000000000000000000=n at hn⊢;show aBq (aAy (aPp (con (.int 9)) (gN 3) (bB5 t)) _ (Rl ns (some (.sh (.lst [.str x,.str y]))) (some (.sh (.int n))) none none))=_;have lp:=aXp (G:=gN 3) (F:=bB5 t) (fun p ρ=> ∃(s3:Option SV) (s4:Option D),ρ=Rl ns (some (.sh (.lst [.str x,.str y]))) (some (.sh (.int n))) s3 (s4.map SV.sh)) (rng 0 9) (Rl ns (some (.sh (.lst [.str x,.str y]))) (some (.sh (.int n))) none none) ⟨none,none,rfl⟩ (by
  rintro p d q ρ e ⟨s3,s4,rfl⟩
  have hd:d∈rng 0 9:=by rw[e];exact Zd _ Qt
  unfold rng at hd;obtain⟨i,hi,rfl⟩:=List.mem_map.mp hd;exact⟨_,_,rfl,.inl (bI5 X s4 (List.mem_range.mp hi) hxy (hsh x Qt) (hsh y (Qw _ Qt)) hn),_,some _,rfl⟩)
 obtain⟨ρ,lp,s3,s4,rfl⟩:=lp;rw[aB5 ((aWs (f:=con (.int 9)) (j:=9) rfl (by decide) (by decide)).trans lp),aFq (aJa (d:= .bl true) rfl)];rfl
section
variable {P:Qr}{w:Q2}{K:Qb}{mg:Str->Option Qd}{base:Heap}{t:Adr}
theorem bH8 (X:Txt K mg t){fd:Z5}(Fu:Fun K "law" "law" bAh t.aR3 fd):FnD P w K mg base 9 t.aR3 fd ["_law_script"] (tt bDw):=
 bFj X Fu (k:=8) (aW9 X (k:=7) ⟨bFm,bI7 aO5 rfl⟩) (aPw X (k:=7) (bD2 X 2) aQ4) (aRk X (k:=7) ⟨aYs,bA8 aJn rfl⟩) (by intro ds r h;obtain⟨ns,rfl,_⟩:=(bCg h).1;rfl) (bE7 X)
end
end K26
namespace K26
open PySem PySem.W L2 L2.HD
def bJh:Params->Frag:=fun P=>
 (nat_lit 2,⟨.none,none,.dict #[] 0,#[]⟩)::
 (nat_lit 3,od 47 [de P "__name__" 165 (vs "law_whence_k26_refusals_apart" 826),
  de P "__doc__" 166 .none,
  de P "__package__" 167 .none,
  de P "__loader__" 168 (.builtin "__main__.__loader__#opaque"),
  de P "__spec__" 169 .none,
  de P "__annotations__" 170 (.ref 6),
  de P "__builtins__" 171 (.ref 4),
  de P "__file__" 173 (vs "/claim/cut.py" 172),
  de P "__cached__" 174 .none,
  de P "_wall" 193 (.ref 21),
  de P "WhenceError" 213 (.ref 31),
  de P "NoWay" 229 (.ref 44),
  de P "NoMark" 245 (.ref 56),
  de P "NoName" 261 (.ref 68),
  de P "NoColumn" 277 (.ref 80),
  de P "NoRow" 293 (.ref 92),
  de P "NoTable" 309 (.ref 104),
  de P "NoFit" 325 (.ref 116),
  de P "NoNumber" 341 (.ref 128),
  de P "NoPlace" 357 (.ref 140),
  de P "NoRule" 373 (.ref 152),
  de P "NoAnswer" 389 (.ref 164),
  de P "Twice" 405 (.ref 176),
  de P "kept_head" 416 (.ref 185),
  de P "check_once" 423 (.ref 192),
  de P "together_head" 431 (.ref 199),
  de P "is_whole" 441 (.ref 206),
  de P "never_falls" 447 (.ref 211),
  de P "plus_all" 453 (.ref 216),
  de P "bare" 462 (.ref 223),
  de P "times_over" 474 (.ref 230),
  de P "worth" 480 (.ref 235),
  de P "check_names" 489 (.ref 242),
  de P "product_worth" 500 (.ref 249),
  de P "names_in" 509 (.ref 256),
  de P "make_table" 522 (.ref 263),
  de P "put_together" 528 (.ref 268),
  de P "without_noughts" 534 (.ref 273),
  de P "Store" 659 (.ref 372),
  de P "Counts" 716 (.ref 414),
  de P "Rounds" 773 (.ref 456),
  de P "Lows" 825 (.ref 494),
  de P "_law_at" 835 (.ref 505),
  de P "_law_name" 844 (.ref 512),
  de P "_law_provoked" 854 (.ref 519),
  de P "_law_kinds" 865 (.ref 526),
  de P "law" 871 (.ref 531)])::
 (nat_lit 20,oc "_wall" 187 "_wall" 188 189 1 1 3 (q5 181 15 16 17 18 19) 191 1 192)::
 (nat_lit 21,of "_wall" "_wall" (top 0) "__main__" 164 20)::
 (nat_lit 30,od 3 [de P "__module__" 203 (vs "whence.errors" 194),
  de P "__firstlineno__" 207 (.int 5 206),
  de P "__static_attributes__" 208 (.ref 29),
  de P "__weakref__" 210 (.ref 32),
  de P "__doc__" 211 .none])::
 (nat_lit 31,⟨(.type "type"),none,.cls ⟨"WhenceError",[(.type "ValueError")],[(.ref 31),(.type "ValueError"),(.type "Exception"),(.type "BaseException"),(.type "object")],30,"WhenceError",true,[],[(.ref 44),(.ref 56),(.ref 68),(.ref 80),(.ref 92),(.ref 104),(.ref 116),(.ref 128),(.ref 140),(.ref 152),(.ref 164),(.ref 176)],false,none,false⟩,#[some (.ref 22),none,some (vs "WhenceError" 196),some (vs "WhenceError" 204),some (.builtin "ValueError.__new__"),some (.bool true)]⟩)::
 (nat_lit 32,gwd 209 31)::
 (nat_lit 43,od 2 [de P "__module__" 221 (vs "whence.errors" 194),
  de P "__firstlineno__" 225 (.int 7 224),
  de P "__static_attributes__" 226 (.ref 42),
  de P "__doc__" 227 .none])::
 (nat_lit 44,⟨(.type "type"),none,.cls ⟨"NoWay",[(.ref 31)],[(.ref 44),(.ref 31),(.type "ValueError"),(.type "Exception"),(.type "BaseException"),(.type "object")],43,"NoWay",true,[],[],false,none,false⟩,#[some (.ref 35),none,some (vs "NoWay" 214),some (vs "NoWay" 222),some (.builtin "ValueError.__new__"),some (.bool true)]⟩)::
 (nat_lit 55,od 2 [de P "__module__" 237 (vs "whence.errors" 194),
  de P "__firstlineno__" 241 (.int 9 240),
  de P "__static_attributes__" 242 (.ref 54),
  de P "__doc__" 243 .none])::
 (nat_lit 56,⟨(.type "type"),none,.cls ⟨"NoMark",[(.ref 31)],[(.ref 56),(.ref 31),(.type "ValueError"),(.type "Exception"),(.type "BaseException"),(.type "object")],55,"NoMark",true,[],[],false,none,false⟩,#[some (.ref 47),none,some (vs "NoMark" 230),some (vs "NoMark" 238),some (.builtin "ValueError.__new__"),some (.bool true)]⟩)::
 (nat_lit 67,od 2 [de P "__module__" 253 (vs "whence.errors" 194),
  de P "__firstlineno__" 257 (.int 11 256),
  de P "__static_attributes__" 258 (.ref 66),
  de P "__doc__" 259 .none])::
 (nat_lit 68,⟨(.type "type"),none,.cls ⟨"NoName",[(.ref 31)],[(.ref 68),(.ref 31),(.type "ValueError"),(.type "Exception"),(.type "BaseException"),(.type "object")],67,"NoName",true,[],[],false,none,false⟩,#[some (.ref 59),none,some (vs "NoName" 246),some (vs "NoName" 254),some (.builtin "ValueError.__new__"),some (.bool true)]⟩)::
 (nat_lit 79,od 2 [de P "__module__" 269 (vs "whence.errors" 194),
  de P "__firstlineno__" 273 (.int 13 272),
  de P "__static_attributes__" 274 (.ref 78),
  de P "__doc__" 275 .none])::
 (nat_lit 80,⟨(.type "type"),none,.cls ⟨"NoColumn",[(.ref 31)],[(.ref 80),(.ref 31),(.type "ValueError"),(.type "Exception"),(.type "BaseException"),(.type "object")],79,"NoColumn",true,[],[],false,none,false⟩,#[some (.ref 71),none,some (vs "NoColumn" 262),some (vs "NoColumn" 270),some (.builtin "ValueError.__new__"),some (.bool true)]⟩)::
 (nat_lit 91,od 2 [de P "__module__" 285 (vs "whence.errors" 194),
  de P "__firstlineno__" 289 (.int 15 288),
  de P "__static_attributes__" 290 (.ref 90),
  de P "__doc__" 291 .none])::
 (nat_lit 92,⟨(.type "type"),none,.cls ⟨"NoRow",[(.ref 31)],[(.ref 92),(.ref 31),(.type "ValueError"),(.type "Exception"),(.type "BaseException"),(.type "object")],91,"NoRow",true,[],[],false,none,false⟩,#[some (.ref 83),none,some (vs "NoRow" 278),some (vs "NoRow" 286),some (.builtin "ValueError.__new__"),some (.bool true)]⟩)::
 (nat_lit 103,od 2 [de P "__module__" 301 (vs "whence.errors" 194),
  de P "__firstlineno__" 305 (.int 17 304),
  de P "__static_attributes__" 306 (.ref 102),
  de P "__doc__" 307 .none])::
 (nat_lit 104,⟨(.type "type"),none,.cls ⟨"NoTable",[(.ref 31)],[(.ref 104),(.ref 31),(.type "ValueError"),(.type "Exception"),(.type "BaseException"),(.type "object")],103,"NoTable",true,[],[],false,none,false⟩,#[some (.ref 95),none,some (vs "NoTable" 294),some (vs "NoTable" 302),some (.builtin "ValueError.__new__"),some (.bool true)]⟩)::
 (nat_lit 115,od 2 [de P "__module__" 317 (vs "whence.errors" 194),
  de P "__firstlineno__" 321 (.int 19 320),
  de P "__static_attributes__" 322 (.ref 114),
  de P "__doc__" 323 .none])::
 (nat_lit 116,⟨(.type "type"),none,.cls ⟨"NoFit",[(.ref 31)],[(.ref 116),(.ref 31),(.type "ValueError"),(.type "Exception"),(.type "BaseException"),(.type "object")],115,"NoFit",true,[],[],false,none,false⟩,#[some (.ref 107),none,some (vs "NoFit" 310),some (vs "NoFit" 318),some (.builtin "ValueError.__new__"),some (.bool true)]⟩)::
 (nat_lit 127,od 2 [de P "__module__" 333 (vs "whence.errors" 194),
  de P "__firstlineno__" 337 (.int 21 336),
  de P "__static_attributes__" 338 (.ref 126),
  de P "__doc__" 339 .none])::
 (nat_lit 128,⟨(.type "type"),none,.cls ⟨"NoNumber",[(.ref 31)],[(.ref 128),(.ref 31),(.type "ValueError"),(.type "Exception"),(.type "BaseException"),(.type "object")],127,"NoNumber",true,[],[],false,none,false⟩,#[some (.ref 119),none,some (vs "NoNumber" 326),some (vs "NoNumber" 334),some (.builtin "ValueError.__new__"),some (.bool true)]⟩)::
 (nat_lit 139,od 2 [de P "__module__" 349 (vs "whence.errors" 194),
  de P "__firstlineno__" 353 (.int 23 352),
  de P "__static_attributes__" 354 (.ref 138),
  de P "__doc__" 355 .none])::
 (nat_lit 140,⟨(.type "type"),none,.cls ⟨"NoPlace",[(.ref 31)],[(.ref 140),(.ref 31),(.type "ValueError"),(.type "Exception"),(.type "BaseException"),(.type "object")],139,"NoPlace",true,[],[],false,none,false⟩,#[some (.ref 131),none,some (vs "NoPlace" 342),some (vs "NoPlace" 350),some (.builtin "ValueError.__new__"),some (.bool true)]⟩)::
 (nat_lit 151,od 2 [de P "__module__" 365 (vs "whence.errors" 194),
  de P "__firstlineno__" 369 (.int 25 368),
  de P "__static_attributes__" 370 (.ref 150),
  de P "__doc__" 371 .none])::
 (nat_lit 152,⟨(.type "type"),none,.cls ⟨"NoRule",[(.ref 31)],[(.ref 152),(.ref 31),(.type "ValueError"),(.type "Exception"),(.type "BaseException"),(.type "object")],151,"NoRule",true,[],[],false,none,false⟩,#[some (.ref 143),none,some (vs "NoRule" 358),some (vs "NoRule" 366),some (.builtin "ValueError.__new__"),some (.bool true)]⟩)::
 (nat_lit 163,od 2 [de P "__module__" 381 (vs "whence.errors" 194),
  de P "__firstlineno__" 385 (.int 27 384),
  de P "__static_attributes__" 386 (.ref 162),
  de P "__doc__" 387 .none])::
 (nat_lit 164,⟨(.type "type"),none,.cls ⟨"NoAnswer",[(.ref 31)],[(.ref 164),(.ref 31),(.type "ValueError"),(.type "Exception"),(.type "BaseException"),(.type "object")],163,"NoAnswer",true,[],[],false,none,false⟩,#[some (.ref 155),none,some (vs "NoAnswer" 374),some (vs "NoAnswer" 382),some (.builtin "ValueError.__new__"),some (.bool true)]⟩)::
 (nat_lit 175,od 2 [de P "__module__" 397 (vs "whence.errors" 194),
  de P "__firstlineno__" 401 (.int 29 400),
  de P "__static_attributes__" 402 (.ref 174),
  de P "__doc__" 403 .none])::
 (nat_lit 176,⟨(.type "type"),none,.cls ⟨"Twice",[(.ref 31)],[(.ref 176),(.ref 31),(.type "ValueError"),(.type "Exception"),(.type "BaseException"),(.type "object")],175,"Twice",true,[],[],false,none,false⟩,#[some (.ref 167),none,some (vs "Twice" 390),some (vs "Twice" 398),some (.builtin "ValueError.__new__"),some (.bool true)]⟩)::
 (nat_lit 184,oc "kept_head" 408 "kept_head" 409 410 32 2 3 (q5 181 179 180 181 182 183) 414 32 415)::
 (nat_lit 185,of "kept_head" "kept_head" (top 16) "whence.heads" 406 184)::
 (nat_lit 191,oc "check_once" 417 "check_once" 418 419 38 1 3 (q5 181 186 187 188 189 190) 421 38 422)::
 (nat_lit 192,of "check_once" "check_once" (top 17) "whence.heads" 406 191)::
 (nat_lit 198,oc "together_head" 424 "together_head" 425 426 41 2 3 (q5 181 193 194 195 196 197) 429 41 430)::
 (nat_lit 199,of "together_head" "together_head" (top 18) "whence.heads" 406 198)::
 (nat_lit 205,oc "is_whole" 434 "is_whole" 435 436 46 2 3 (q5 181 200 201 202 203 204) 439 46 440)::
 (nat_lit 206,of "is_whole" "is_whole" (top 20) "whence.plain" 432 205)::
 (nat_lit 210,oc "never_falls" 442 "never_falls" 443 444 48 1 3 (q3 181 207 208 209) 445 48 446)::
 (nat_lit 211,of "never_falls" "never_falls" (top 21) "whence.plain" 432 210)::
 (nat_lit 215,oc "plus_all" 448 "plus_all" 449 450 50 2 3 (q3 181 212 213 214) 451 50 452)::
 (nat_lit 216,of "plus_all" "plus_all" (top 22) "whence.plain" 432 215)::
 (nat_lit 222,oc "bare" 456 "bare" 457 458 61 1 3 (q5 181 217 218 219 220 221) 460 61 461)::
 (nat_lit 223,of "bare" "bare" (top 24) "whence.sums" 454 222)::
 (nat_lit 229,oc "times_over" 463 "times_over" 464 465 63 3 3 (q5 181 224 225 226 227 228) 472 63 473)::
 (nat_lit 230,of "times_over" "times_over" (top 25) "whence.sums" 454 229)::
 (nat_lit 234,oc "worth" 475 "worth" 476 477 73 3 3 (q3 181 231 232 233) 478 73 479)::
 (nat_lit 235,of "worth" "worth" (top 26) "whence.sums" 454 234)::
 (nat_lit 241,oc "check_names" 481 "check_names" 482 483 76 2 3 (q5 181 236 237 238 239 240) 487 76 488)::
 (nat_lit 242,of "check_names" "check_names" (top 27) "whence.sums" 454 241)::
 (nat_lit 248,oc "product_worth" 490 "product_worth" 491 492 80 3 3 (q5 181 243 244 245 246 247) 498 80 499)::
 (nat_lit 249,of "product_worth" "product_worth" (top 28) "whence.sums" 454 248)::
 (nat_lit 255,oc "names_in" 501 "names_in" 502 503 85 1 3 (q5 181 250 251 252 253 254) 507 85 508)::
 (nat_lit 256,of "names_in" "names_in" (top 29) "whence.sums" 454 255)::
 (nat_lit 262,oc "make_table" 512 "make_table" 513 514 91 3 3 (q5 181 257 258 259 260 261) 520 91 521)::
 (nat_lit 263,of "make_table" "make_table" (top 31) "whence.tables" 510 262)::
 (nat_lit 267,oc "put_together" 523 "put_together" 524 525 99 2 3 (q3 181 264 265 266) 526 99 527)::
 (nat_lit 268,of "put_together" "put_together" (top 32) "whence.tables" 510 267)::
 (nat_lit 272,oc "without_noughts" 529 "without_noughts" 530 531 104 2 3 (q3 181 269 270 271) 532 104 533)::
 (nat_lit 273,of "without_noughts" "without_noughts" (top 33) "whence.tables" 510 272)::
 (nat_lit 286,oc "__init__" 549 "Store.__init__" 550 551 109 1 3 (q5 181 281 282 283 284 285) 553 109 554)::
 (nat_lit 287,of "__init__" "Store.__init__" (inClass (top 35) 0) "whence.stores" 535 286)::
 (nat_lit 293,oc "make" 556 "Store.make" 557 558 113 3 3 (q5 181 288 289 290 291 292) 562 113 563)::
 (nat_lit 294,of "make" "Store.make" (inClass (top 35) 1) "whence.stores" 535 293)::
 (nat_lit 300,oc "put" 565 "Store.put" 566 567 119 4 3 (q5 181 295 296 297 298 299) 572 119 573)::
 (nat_lit 301,of "put" "Store.put" (inClass (top 35) 2) "whence.stores" 535 300)::
 (nat_lit 307,oc "check_table" 575 "Store.check_table" 576 577 122 2 3 (q5 181 302 303 304 305 306) 580 122 581)::
 (nat_lit 308,of "check_table" "Store.check_table" (inClass (top 35) 3) "whence.stores" 535 307)::
 (nat_lit 314,oc "strike" 583 "Store.strike" 584 585 126 2 3 (q5 181 309 310 311 312 313) 588 126 589)::
 (nat_lit 315,of "strike" "Store.strike" (inClass (top 35) 4) "whence.stores" 535 314)::
 (nat_lit 321,oc "check_name" 591 "Store.check_name" 592 593 129 2 3 (q5 181 316 317 318 319 320) 596 129 597)::
 (nat_lit 322,of "check_name" "Store.check_name" (inClass (top 35) 5) "whence.stores" 535 321)::
 (nat_lit 328,oc "heads" 599 "Store.heads" 600 601 132 1 3 (q5 181 323 324 325 326 327) 603 132 604)::
 (nat_lit 329,of "heads" "Store.heads" (inClass (top 35) 6) "whence.stores" 535 328)::
 (nat_lit 333,oc "names" 606 "Store.names" 607 608 135 2 3 (q3 181 330 331 332) 609 135 610)::
 (nat_lit 334,of "names" "Store.names" (inClass (top 35) 7) "whence.stores" 535 333)::
 (nat_lit 340,oc "all_names" 612 "Store.all_names" 613 614 139 1 3 (q5 181 335 336 337 338 339) 616 139 617)::
 (nat_lit 341,of "all_names" "Store.all_names" (inClass (top 35) 8) "whence.stores" 535 340)::
 (nat_lit 347,oc "row_of" 619 "Store.row_of" 620 621 142 2 3 (q5 181 342 343 344 345 346) 624 142 625)::
 (nat_lit 348,of "row_of" "Store.row_of" (inClass (top 35) 9) "whence.stores" 535 347)::
 (nat_lit 354,oc "twin" 627 "Store.twin" 628 629 145 1 3 (q5 181 349 350 351 352 353) 631 145 632)::
 (nat_lit 355,of "twin" "Store.twin" (inClass (top 35) 10) "whence.stores" 535 354)::
 (nat_lit 361,oc "marked" 634 "Store.marked" 635 636 148 3 3 (q5 181 356 357 358 359 360) 640 148 641)::
 (nat_lit 362,of "marked" "Store.marked" (inClass (top 35) 11) "whence.stores" 535 361)::
 (nat_lit 368,oc "named" 643 "Store.named" 644 645 151 1 3 (q5 181 363 364 365 366 367) 647 151 648)::
 (nat_lit 369,of "named" "Store.named" (inClass (top 35) 12) "whence.stores" 535 368)::
 (nat_lit 371,od 4 [de P "__module__" 544 (vs "whence.stores" 535),
  de P "__firstlineno__" 548 (.int 107 547),
  de P "__init__" 555 (.ref 287),
  de P "make" 564 (.ref 294),
  de P "put" 574 (.ref 301),
  de P "check_table" 582 (.ref 308),
  de P "strike" 590 (.ref 315),
  de P "check_name" 598 (.ref 322),
  de P "heads" 605 (.ref 329),
  de P "names" 611 (.ref 334),
  de P "all_names" 618 (.ref 341),
  de P "row_of" 626 (.ref 348),
  de P "twin" 633 (.ref 355),
  de P "marked" 642 (.ref 362),
  de P "named" 649 (.ref 369),
  de P "__static_attributes__" 652 (.ref 370),
  de P "__dict__" 654 (.ref 373),
  de P "__weakref__" 656 (.ref 374),
  de P "__doc__" 657 .none])::
 (nat_lit 372,okl "Store" 372 371 537 545)::
 (nat_lit 373,gdd 653 372)::
 (nat_lit 374,gwd 655 372)::
 (nat_lit 389,oc "__init__" 674 "Counts.__init__" 675 676 156 1 3 (q5 181 384 385 386 387 388) 678 156 679)::
 (nat_lit 390,of "__init__" "Counts.__init__" (inClass (top 37) 0) "whence.ways" 660 389)::
 (nat_lit 396,oc "plus" 681 "Counts.plus" 682 683 160 3 3 (q5 181 391 392 393 394 395) 687 160 688)::
 (nat_lit 397,of "plus" "Counts.plus" (inClass (top 37) 1) "whence.ways" 660 396)::
 (nat_lit 403,oc "times" 690 "Counts.times" 691 692 163 3 3 (q5 181 398 399 400 401 402) 696 163 697)::
 (nat_lit 404,of "times" "Counts.times" (inClass (top 37) 2) "whence.ways" 660 403)::
 (nat_lit 410,oc "is_mark" 699 "Counts.is_mark" 700 701 166 2 3 (q5 181 405 406 407 408 409) 704 166 705)::
 (nat_lit 411,of "is_mark" "Counts.is_mark" (inClass (top 37) 3) "whence.ways" 660 410)::
 (nat_lit 413,od 4 [de P "__module__" 669 (vs "whence.ways" 660),
  de P "__firstlineno__" 673 (.int 154 672),
  de P "__init__" 680 (.ref 390),
  de P "plus" 689 (.ref 397),
  de P "times" 698 (.ref 404),
  de P "is_mark" 706 (.ref 411),
  de P "__static_attributes__" 709 (.ref 412),
  de P "__dict__" 711 (.ref 415),
  de P "__weakref__" 713 (.ref 416),
  de P "__doc__" 714 .none])::
 (nat_lit 414,okl "Counts" 414 413 662 670)::
 (nat_lit 415,gdd 710 414)::
 (nat_lit 416,gwd 712 414)::
 (nat_lit 431,oc "__init__" 729 "Rounds.__init__" 730 731 170 2 3 (q5 181 426 427 428 429 430) 734 170 735)::
 (nat_lit 432,of "__init__" "Rounds.__init__" (inClass (top 38) 0) "whence.ways" 660 431)::
 (nat_lit 438,oc "plus" 737 "Rounds.plus" 738 739 177 3 3 (q5 181 433 434 435 436 437) 743 177 744)::
 (nat_lit 439,of "plus" "Rounds.plus" (inClass (top 38) 1) "whence.ways" 660 438)::
 (nat_lit 445,oc "times" 746 "Rounds.times" 747 748 180 3 3 (q5 181 440 441 442 443 444) 752 180 753)::
 (nat_lit 446,of "times" "Rounds.times" (inClass (top 38) 2) "whence.ways" 660 445)::
 (nat_lit 452,oc "is_mark" 755 "Rounds.is_mark" 756 757 183 2 3 (q5 181 447 448 449 450 451) 760 183 761)::
 (nat_lit 453,of "is_mark" "Rounds.is_mark" (inClass (top 38) 3) "whence.ways" 660 452)::
 (nat_lit 455,od 4 [de P "__module__" 724 (vs "whence.ways" 660),
  de P "__firstlineno__" 728 (.int 168 727),
  de P "__init__" 736 (.ref 432),
  de P "plus" 745 (.ref 439),
  de P "times" 754 (.ref 446),
  de P "is_mark" 762 (.ref 453),
  de P "__static_attributes__" 766 (.ref 454),
  de P "__dict__" 768 (.ref 457),
  de P "__weakref__" 770 (.ref 458),
  de P "__doc__" 771 .none])::
 (nat_lit 456,okl "Rounds" 456 455 717 725)::
 (nat_lit 457,gdd 767 456)::
 (nat_lit 458,gwd 769 456)::
 (nat_lit 473,oc "__init__" 786 "Lows.__init__" 787 788 187 2 3 (q5 181 468 469 470 471 472) 791 187 792)::
 (nat_lit 474,of "__init__" "Lows.__init__" (inClass (top 39) 0) "whence.ways" 660 473)::
 (nat_lit 480,oc "plus" 794 "Lows.plus" 795 796 194 3 3 (q5 181 475 476 477 478 479) 800 194 801)::
 (nat_lit 481,of "plus" "Lows.plus" (inClass (top 39) 1) "whence.ways" 660 480)::
 (nat_lit 485,oc "times" 803 "Lows.times" 804 805 197 3 3 (q3 181 482 483 484) 806 197 807)::
 (nat_lit 486,of "times" "Lows.times" (inClass (top 39) 2) "whence.ways" 660 485)::
 (nat_lit 490,oc "is_mark" 809 "Lows.is_mark" 810 811 203 2 3 (q3 181 487 488 489) 812 203 813)::
 (nat_lit 491,of "is_mark" "Lows.is_mark" (inClass (top 39) 3) "whence.ways" 660 490)::
 (nat_lit 493,od 4 [de P "__module__" 781 (vs "whence.ways" 660),
  de P "__firstlineno__" 785 (.int 185 784),
  de P "__init__" 793 (.ref 474),
  de P "plus" 802 (.ref 481),
  de P "times" 808 (.ref 486),
  de P "is_mark" 814 (.ref 491),
  de P "__static_attributes__" 818 (.ref 492),
  de P "__dict__" 820 (.ref 495),
  de P "__weakref__" 822 (.ref 496),
  de P "__doc__" 823 .none])::
 (nat_lit 494,okl "Lows" 494 493 774 782)::
 (nat_lit 495,gdd 819 494)::
 (nat_lit 496,gwd 821 494)::
 (nat_lit 504,oc "_law_at" 828 "_law_at" 829 830 208 2 3 (q5 181 499 500 501 502 503) 833 208 834)::
 (nat_lit 505,of "_law_at" "_law_at" (top 41) "law_whence_k26_refusals_apart" 826 504)::
 (nat_lit 511,oc "_law_name" 836 "_law_name" 837 838 212 2 3 (q5 181 506 507 508 509 510) 842 212 843)::
 (nat_lit 512,of "_law_name" "_law_name" (top 42) "law_whence_k26_refusals_apart" 826 511)::
 (nat_lit 518,oc "_law_provoked" 845 "_law_provoked" 846 847 217 3 3 (q5 181 513 514 515 516 517) 852 217 853)::
 (nat_lit 519,of "_law_provoked" "_law_provoked" (top 43) "law_whence_k26_refusals_apart" 826 518)::
 (nat_lit 525,oc "_law_kinds" 855 "_law_kinds" 856 857 238 3 3 (q5 181 520 521 522 523 524) 863 238 864)::
 (nat_lit 526,of "_law_kinds" "_law_kinds" (top 44) "law_whence_k26_refusals_apart" 826 525)::
 (nat_lit 530,oc "law" 866 "law" 867 868 248 1 3 (q3 181 527 528 529) 869 248 870)::
 (nat_lit 531,of "law" "law" (top 45) "law_whence_k26_refusals_apart" 826 530)::[]
def fas:List Addr:=[2,3,20,21,30,31,32,43,44,55,56,67,68,79,80,91,92,103,104,115,116,127,128,139,140,151,152,163,164,175,176,184,185,191,192,198,199,205,206,210,211,215,216,222,223,229,230,234,235,241,242,248,249,255,256,262,263,267,268,272,273,286,287,293,294,300,301,307,308,314,315,321,322,328,329,333,334,340,341,347,348,354,355,361,362,368,369,371,372,373,374,389,390,396,397,403,404,410,411,413,414,415,416,431,432,438,439,445,446,452,453,455,456,457,458,473,474,480,481,485,486,490,491,493,494,495,496,504,505,511,512,518,519,525,526,530,531]
theorem bIt: ∀P,fas=(bJh P).map (·.1):=fun P=>by kernel_rfl
def vw:Qr:=view PySem.Challenge.pw_whence_k26_refusals_apart [0,2,3,4,5,6,7,8,9,10,11,12,13,14,16,17,18,20,21,22,24,25,26,27,28,29,31,32,33,35,37,38,39,41,42,43,44,45]
abbrev hook:Hook:=kHook bJh fas bIt
set_option maxHeartbeats 0 in
theorem left:LeftO PySem.Challenge.pw_whence_k26_refusals_apart vw [] (fun s=>xlAt vw [] s&&recOk (RowW.records PySem.Challenge.rw_whence_k26_refusals_apart.row.toRowW) s) (Hook.obs hook) (Hook.val hook) 10112:=by
 refine bE6 (boot_open (by kernel_rfl) (by decide+kernel) (fun s=>by kernel_rfl)) fun w=> ?_
 rw[Fast.te5923862056798008813,Fast.te4187177175401517315,Fast.te6613529449190102663,Fast.te10156331382660048174,Fast.te11892475500146522536,Fast.te14364793385576792824]
 kernel_rfl
def adr:Adr:={aAv:=372,aAz:=414,aA6:=456,aCj:=494,aA2:=31,aAj:=44,aAg:=56,aAf:=68,aAb:=80,aAn:=92,aAd:=104,aAo:=116,aBm:=128,aB4:=140,aCu:=152,aBn:=164,aAl:=176,aHl:=185,aF7:=192,aD5:=199,aJj:=206,aE1:=211,aYq:=223,aR2:=235,aE2:=242,aJh:=256,aF6:=263,aBl:=287,aC0:=294,aCx:=308,aE3:=334,aDg:=390,aDq:=411,aDf:=432,aDp:=453,aD6:=474,aEk:=491,aOu:=505,aJi:=512,aA7:=519,aHk:=526,aR3:=531}
set_option maxHeartbeats 0 in
theorem txt {P:Params}{h:Heap}{mg:Str->Option Qd}(X:(bJh P).In h)(G:h.Ns Yp mg):Txt (bJh P) mg adr:=by
 refine⟨?_,?_,?_,?_,?_,?_,?_,?_,?_,?_,?_,?_,?_,?_,?_,?_,?_,?_,?_,?_,?_,?_,?_,?_,?_,?_,?_,?_,?_,?_,?_,?_,?_,?_,?_,?_,?_,?_,?_,?_,?_,?_,?_,?_,?_,?_,?_,?_,?_,?_,?_,?_,?_,?_,?_,?_,?_,?_,?_,?_,?_,?_,?_,?_,?_,?_,?_,?_,?_,?_,?_,?_,?_,?_,?_,?_,?_,?_,?_,?_,?_,?_,?_,?_,?_,?_,?_,?_,?_,?_,?_,?_,?_,?_,?_,?_,?_,?_,?_,?_,?_,?_,?_,?_,?_,?_,?_,?_,?_,?_,?_,?_,?_,?_,?_,?_,?_,?_,?_,?_,?_,?_,?_,?_,?_,?_,?_,?_,?_,?_,?_,?_,?_,?_,?_,?_,?_,?_,?_,?_,?_,?_,?_,?_,?_,?_,?_,?_,?_,?_,?_,?_,?_,?_,?_,?_,?_,?_,?_,?_,?_,?_,?_,?_,?_,?_,?_,?_,?_,?_,?_,?_,?_,?_,?_,?_,?_,?_,?_,?_,?_,?_,?_,?_,?_,?_,?_,?_,?_,?_,?_,?_,?_,?_,?_,?_,?_,?_,?_,?_,?_,?_,?_,?_,?_,?_,?_,?_,?_,?_,?_,?_,?_,?_,?_,?_,?_,?_,?_,?_,?_,?_,?_,?_,?_,?_,?_,?_,?_,?_,?_,?_,?_,fo2 "whence.heads" 406 184,?_,fo1 "whence.heads" 406 191,?_,fo2 "whence.heads" 406 198,?_,fo2 "whence.plain" 432 205,?_,fo1 "whence.plain" 432 210,?_,fo1 "whence.sums" 454 222,?_,fo3 "whence.sums" 454 234,?_,fo2 "whence.sums" 454 241,?_,fo1 "whence.sums" 454 255,?_,fo3 "whence.tables" 510 262,?_,fo1 "whence.stores" 535 286,fo3 "whence.stores" 535 293,fo2 "whence.stores" 535 307,fo2 "whence.stores" 535 333,fo1 "whence.ways" 660 389,fo2 "whence.ways" 660 410,fo2 "whence.ways" 660 431,fo2 "whence.ways" 660 452,fo2 "whence.ways" 660 473,fo2 "whence.ways" 660 490,fo2 "law_whence_k26_refusals_apart" 826 504,?_,fo2 "law_whence_k26_refusals_apart" 826 511,?_,fo3 "law_whence_k26_refusals_apart" 826 518,?_,fo3 "law_whence_k26_refusals_apart" 826 525,?_,fo1 "law_whence_k26_refusals_apart" 826 530,?_,?_,?_,?_,?_,?_,?_,?_,?_,?_,?_,?_,?_,?_,?_,?_,?_,?_,?_,?_,?_,?_,?_,?_⟩
 all_goals first | exact mg_of X G (by kernel_rfl) | exact mg_none_of X G (by kernel_rfl) | decide |(refine⟨?_,?_,?_,?_⟩<;>kernel_rfl) |(refine⟨?_,?_,?_⟩<;>kernel_rfl) | kernel_rfl |(refine⟨?_,?_,?_,?_,?_,?_,?_,?_⟩<;>kernel_rfl) |(intro C hC;simp only[cs,Z1,decide_eq_true_eq] at hC;rcases hC with ((rfl | rfl) | rfl) | rfl<;>exact⟨⟨by kernel_rfl,by kernel_rfl,by kernel_rfl,by kernel_rfl⟩,by unfold aD8;kernel_rfl⟩)
end K26
namespace K26
open PySem PySem.Spec PyProof.Rows L2 L2.PU
def bJx (K:Qb):Sp:=fun vs H Q _=> ∃(a:Addr) (ns:List Int),vs=[.ref a]/\SqL K H a (ns.map V.int)/\ns.length<=63/\∀H',Q (.bl true) H'
theorem walk {l:Wf}{q:Qr}{loose:List Str}{XP:(Str->Option Qd)->Heap->Prop}{YP:Q2->Heap->Prop}{d:DefRec}{K:Params->Qb}(hn:l.most=some 63)(hdf:d.params.defaults=[])(hnm:d.name="law")
  (hY: ∀(w:Q2) (h:Heap),YP w h->(K w.params).In h)
  (T: ∀(w:Q2) (mg:Str->Option Qd) (h:Heap),(K w.params).In h->h.Ns Yp mg->∃t,Txt (K w.params) mg t):
  PySem.W.WalkO q loose XP YP l.row.toRowW d [] (fun f vs=>Up f vs):=by
 refine L2.bDl (n:=63) (k:=9) (x:="_law_script") (CX:=fun w=>CXD l.prog w) (sp:=fun w=>bJx (K w.params)) hn (by decide) hdf ⟨rfl,by decide,by decide⟩ hY (fun w mg fa h KX G hmg=> ?_) (fun _ _ a ns hl _ hS=>⟨a,ns,rfl,hS,hl,fun _=>rfl⟩) (fun w H s e s' ⟨_,_,_,_,_,_,_,_,z⟩=>z);obtain⟨t,T⟩:=T w mg h KX G;have e:=hmg.symm.trans ((congrArg mg hnm).trans T.bLb);cases e;obtain⟨fd,Fu,bi⟩:=T.bLn;refine⟨fd,fun s v=> ?_,fun base _ _=> ?_⟩
 ·obtain⟨oc,od,kV,doc,pm,an,cdv,ct,osl,rfl,lk,hcd⟩:=Fu.ex
  exact .of_eq rfl
 ·refine (bH8 (P:=l.prog) (w:=w) (base:=base) T Fu).imp fun vs H Q E ⟨a,ns,e1,hS,hl,q⟩=> ?_
  subst e1;refine⟨[.lst (ns.map D.int)],.cons (.lst hS (aTh ns)) .nil,rfl,?_⟩;rw[bJm (show bDw _ from⟨ns,rfl,hl⟩)];intro v H' s' i';cases i';exact q H'
end K26
open PySem PySem.W PyProof.Rows
set_option maxRecDepth 100000 in
set_option maxHeartbeats 0 in
theorem PySem.Challenge.cw_whence_k26_refusals_apart_holds : PySem.Challenge.rw_whence_k26_refusals_apart.Holds := by
 w_on;o_law
 refine L2.HD.holds_of (l:=PySem.Challenge.rw_whence_k26_refusals_apart) (q:=K26.vw) K26.left (by first | assumption | decide+kernel) (by rfl) (by rfl) (by rfl) (by rfl) (by decide+kernel) ⟨rfl,rfl,rfl,rfl,rfl,by decide+kernel⟩ ?hw ?hc
 (case hw=>w_witness2)
 exact K26.walk (l:=PySem.Challenge.rw_whence_k26_refusals_apart) rfl rfl rfl (fun w h Y=>PySem.W.kIn_of Y) fun w mg h KX G=>⟨_,K26.txt KX G⟩
