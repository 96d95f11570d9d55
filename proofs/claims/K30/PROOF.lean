import PyProof.Rows.All
import Wide.All
import OpenK.AllK
import Wide.FinOn
import Lean
import PyProof.EqAt
import PyProof.EqKinds
import PyProof.TupleCall
import PySem.Challenge.RW_whence_k30_heads_of_one_word
noncomputable section
set_option Elab.async false
set_option linter.all false
set_option bootstrap.genMatcherCode false
set_option maxRecDepth 100000
open PySem.W renaming Frag→Qa,kitOne→Qy,exmOne→Zk,Looks→Yg,hideAll→Yz,excIn→Jg,CodeHd→Jp,hideAll_get→Jt,fnMade→Jz,envX→J0,fnOf→J8,of_hideAll→Ub,keepIn→Uc,tabObj→Us,looks_findIn→Ut,findIn→Uu,callWith_K→U5,methodObj→U9,kitx_dict→Wa,codeIn→Wi,funFrames_hide→Wq,cellsFrom_some→Wr,looks_mroIn→Wy,kit_cls→Va,OpenLaw→Vb
open PySem renaming wpAny_bind→Qb,Value→Qc,Shared→Qe,wpAny_pure→Qf,model→Qp,wpAny→Qs,strKind→Qt,starEach→Qu,Program→Qv,sizeLine→Q0,World→Q8,Around→Zb,foldedSetIterable→Zp,rawInt→Zq,wpAny_setEntries_of→Zv,reprText→Zz,wpAny_call_entry→Z6,FuncData→Z9,wpAny_Call_Name_kw→Yh,compareOp→Yj,SetTable→Yk,wpAny_holding→Yn,wpAny_newObj_type→Yp,wpAny_mono→Yq,swapsWith→Yr,mainGlobals→Y1,mem_of_lookup→Y2,wpAny_setState_of→Y3,wpAny_callSpecial?_slot→Y4,behindInMarks→Y8,codeAny_mono→Jc,bootBuiltins→Jd,wpAny_passesOwn→Jr,codeAny_builtin→Js,call→Wl,strLen_append→W5,Slot→W8
open False renaming elim→Qd
open PySem.Heap renaming get?_push_of_some→Qg,lt_size→Qo,get?_push_size→Qx,SameBut→Yw,get?_update_other→Y5,get?_update_self→Y7
open List renaming getElem?_set_ne→Qh,length_map→Qi,getElem?_eq_getElem→Qj,size_toArray→Qk,length_append→Ql,mem_cons_of_mem→Qm,mem_cons_self→Qq,length_set→Q3,map_cons→Q4,getElem?_set_self→Q6,replicate→Q9,length_take→Za,length_cons→Zc,mem_append_right→Zd,getElem?_append_left→Ze,set_eq_of_length_le→Zg,getElem?_append_right→Zi,range→Zj,getElem?_map→Zm,all_cons→Zo,length_singleton→Zs,getElem_mem→Zu,length_range→Zw,mem_of_getElem?→Zx,map_append→Z0,append_nil→Z3,not_mem_nil→Z4,length_drop→Z5,mem_cons→Yb,getElem?_replicate→Yd,find?_cons→Ym,mem_singleton→Ys,all_eq_true→Yt,map_map→Yu,length_erase_of_mem→Yv,mem_append_left→Yy,reverse_cons→Y0,mem_erase_of_ne→Ja,map_congr_left→Jf,length_pos_of_mem→Jh,any_cons→Jm,getElem?_eq_none→Jo,drop_eq_getElem_cons→Jv,length→J1,length_replicate→J4,lookup_cons→J5,mem_of_mem_take→J7,nodup_cons→J9,foldl_cons→Ua,getElem?_take_of_lt→Um,take_of_length_le→Ur,of_mem_zip→Uw,dropLast_eq_take→Uz,contains_iff_mem→U0,drop_zero→U4,replicate_succ→U6,length_reverse→U7,filterMap_cons→U8,map_take→Wb,append_assoc→We,take_length→Wg,any_eq_true→Wh,lookup→Wj,length_nil→Wk,perm_ext_iff_of_nodup→Wn,length_eraseIdx_of_lt→Wo,getD_eq_getElem?_getD→Wp,filter_cons_of_pos→Wv,filter_cons_of_neg→Ww,map_nil→Wz,drop_eq_nil_of_le→W1,take_append_drop→W3,length_filter_le→W4,mem_of_mem_drop→W6,getElem?_range→W9,contains_cons→Vd
open Nat renaming le_refl→Qr,ne_of_lt→Q1,lt_of_lt_of_le→Q2,le_trans→Z2,zero_le→Ye,lt_irrefl→Jn,le_succ→J2,sub_zero→Ud,ne_of_gt→Ue,lt_succ_of_lt→Ul,le_of_lt→Uv,min_eq_left→Uy,lt_of_le_of_lt→Wd,lt_trans→W2
open Bool renaming and_eq_true→Qw,noConfusion→Q5,false_ne_true→Q7,or_eq_true→Z1,eq_iff_iff→Jl,false_eq_true→Jy,false_and→J3,true_and→J6,not_true→Wc
open Or renaming inl→Qz,inr→Yi
open PySem.AutoSeq1 renaming wpAny_loadPart'→Zf
open Int renaming toNat_natCast→Zh,natCast_add→Jx,eq_ofNat_of_zero_le→Uq
open PySem.Str renaming empty→Zl,ofString→Yx
open PySem.Builtin.Range renaming rangeSize→Zn
open PySem.F renaming excBase_ValueError→Zr,plainAttrs_list→Jb,args_tuple_add_2→Ug,entry_tuple_add→Ui,slot_tuple_add→Uo,slot_dict_get→Up,args_dict_get_3→Wm,entry_dict_get→Ws,type_list_pop→Wt,slot_list_pop→Wu
open Array renaming length_toList→Zt,getElem?_eq_getElem→Ju,getElem?_toList→Ux,getElem?_eq_none→Wx,toList_append→W7,toList_push→Ve,size_append→Vf
open PySem.Builtin.List renaming listExtendWith→Zy
open PySem.Value renaming ref→Z7,isStrOf_shape→Yl,str→Je
open PyProof.Rows renaming callWith_type1→Z8,slot_tuple_getitem→Y6
open PySem.Heap.SameBut renaming update→Yc
open PySem.SetTable renaming sizeAbove→Yo
open Sum renaming inr→Y9,inl→Wf
open PySem.Obj renaming data_mapFields→Ji
open PyProof.Rows.F renaming plain_set_update_loop→Jj,entry_set_update_loop→Uj
open PySem.Builtin.Slice renaming slicePlaces→Jk
open Classical renaming byContradiction→Jq
open PySem.W.Looks renaming ld→Jw
open Option renaming isSome_map→Uh,getD_none→Uk,bind_some→Vc
namespace L2
open PySem PySem.Spec PyProof.Rows
abbrev Key:=Sum Int Str
def aTc:Key->Qc->Bool
 | .inl k,v=>Value.isInt k v
 | .inr x,v=>Value.isStrOf x v
def bSs (w:Q8):Key->Int
 | .inl k=>hashInt k
 | .inr x=>hashStr w x
theorem aCs: ∀{k:Key} {v:Qc},aTc k v=true->(∃i t,k=Wf i/\v=Value.int i t)\/(∃x t,k=Y9 x/\v=Je x t)
 | .inl i,v,h=>by
  obtain⟨t,e⟩:=Value.isInt_shape (k:=i) (v:=v) h;exact .inl ⟨i,t,rfl,e⟩
 | .inr x,v,h=>by
  obtain⟨t,e⟩:=Yl (x:=x) (v:=v) h;exact .inr ⟨x,t,rfl,e⟩
theorem bBf (i:Int)(t:Tok):aTc (.inl i) (.int i t)=true:=by simp[aTc,Value.isInt]
theorem aTb (x:Str)(t:Tok):aTc (.inr x) (.str x t)=true:=by simp[aTc,Value.isStrOf]
theorem bNu (a b:Int):decide ((Wf a:Key)=Wf b)=(a==b):=by
 by_cases e:a=b
 ·subst e;simp
 ·have h:¬(Wf a:Key)=Wf b:=fun q=>e (Sum.inl.inj q)
  rw[decide_eq_false h];exact (beq_eq_false_iff_ne.mpr e).symm
theorem bNr (a b:Str):decide ((Y9 a:Key)=Y9 b)=decide (a=b):=by
 by_cases e:a=b
 ·subst e;simp
 ·have h:¬(Y9 a:Key)=Y9 b:=fun q=>e (Sum.inr.inj q)
  rw[decide_eq_false h,decide_eq_false e]
theorem bNt (a:Int)(b:Str):decide ((Wf a:Key)=Y9 b)=false:=decide_eq_false (fun q=>nomatch q)
theorem bNs (a:Str)(b:Int):decide ((Y9 a:Key)=Wf b)=false:=decide_eq_false (fun q=>nomatch q)
def aC6 (prog:Qv)(w:Q8):PySem.KeyKind prog w Key where
 is:=aTc
 hash:=bSs w
 inj:=fun v a b ha hb=>by
  rcases aCs ha with⟨i,t,rfl,rfl⟩ |⟨x,t,rfl,rfl⟩
  ·rcases aCs hb with⟨j,u,rfl,e⟩ |⟨y,u,rfl,e⟩
   ·injection e with e1 _;rw[e1]
   ·exact nomatch e
  ·rcases aCs hb with⟨j,u,rfl,e⟩ |⟨y,u,rfl,e⟩
   ·exact nomatch e
   ·injection e with e1 _;rw[e1]
 byValue:=fun k v h=>by
  rcases aCs h with⟨i,t,rfl,rfl⟩ |⟨x,t,rfl,rfl⟩<;>rfl
 pyHash:=fun hv h=>by
  rcases aCs hv with⟨i,t,rfl,rfl⟩ |⟨x,t,rfl,rfl⟩
  ·exact wpAny_pyHash_int h
  ·exact wpAny_pyHash_str h
 eqBool:=fun hu hv h=>by
  rcases aCs hu with⟨i,t,rfl,rfl⟩ |⟨x,t,rfl,rfl⟩
  ·rcases aCs hv with⟨j,u,rfl,rfl⟩ |⟨y,u,rfl,rfl⟩
   ·rw[bNu] at h;exact wpAny_eqBool_int h
   ·rw[bNt] at h;exact SeqAt.EqAt.int_str i t y u _ _ _ _ h
  ·rcases aCs hv with⟨j,u,rfl,rfl⟩ |⟨y,u,rfl,rfl⟩
   ·rw[bNs] at h;exact SeqAt.EqAt.str_int x t j u _ _ _ _ h
   ·rw[bNr] at h;exact wpAny_eqBool_str h
 «strs»:=fun k x t v h=>by
  rcases aCs h with⟨i,u,rfl,e⟩ |⟨y,u,rfl,e⟩
  ·exact nomatch e
  ·injection e with e1 _
   subst e1;cases v<;>rfl
theorem aVc (prog:Qv)(w:Q8)(i:Int)(t:Tok):(aC6 prog w).is (.inl i) (.int i t)=true:=bBf i t
theorem aVb (prog:Qv)(w:Q8)(x:Str)(t:Tok):(aC6 prog w).is (.inr x) (.str x t)=true:=aTb x t
inductive V where
 | non | bl (b:Bool) | int (i:Int) | str (x:Str) | byt (b:Array UInt8) | flt (b:UInt64) | ref (a:Addr) | ty (n:String)
 deriving DecidableEq
def RelV:V->Qc->Prop
 | .non,u=>u=Value.none
 | .bl b,u=>u=Value.bool b
 | .int i,u=> ∃t,u=Value.int i t
 | .str x,u=> ∃t,u=Je x t
 | .byt b,u=> ∃t,u=Value.bytes b t
 | .flt b,u=> ∃t,u=Value.float b t
 | .ref a,u=>u=Z7 a
 | .ty n,u=>u=Value.type n
abbrev Vals:List V->List Qc->Prop:=Paired RelV
theorem Vals.length {xs:List V}{us:List Qc}(r:Vals xs us):xs.length=us.length:=Paired.length r
theorem Vals.get: ∀{xs:List V} {us:List Qc} {i:Nat} {x:V},Vals xs us->xs[i]? =some x->∃u,us[i]? =some u/\RelV x u
 | _,_,_,_,.nil,e=>by simp at e
 | _,_,0,_,.cons r _,e=>by simp at e;subst e;exact⟨_,rfl,r⟩
 | _,_,i+1,x,.cons _ t,e=>by
  obtain⟨u,h1,h2⟩:=Vals.get (i:=i) (x:=x) t (by simpa using e);exact⟨u,by simpa using h1,h2⟩
theorem Vals.append: ∀{xs ys:List V} {us ws:List Qc},Vals xs us->Vals ys ws->Vals (xs++ys) (us++ws)
 | _,_,_,_,.nil,s=>s
 | _,_,_,_,.cons r t,s=> .cons r (Vals.append t s)
theorem Vals.take: ∀{xs:List V} {us:List Qc} (n:Nat),Vals xs us->Vals (xs.take n) (us.take n)
 | _,_,0,_=> .nil
 | _,_,_+1,.nil=> .nil
 | _,_,n+1,.cons r t=> .cons r (Vals.take n t)
theorem Vals.drop: ∀{xs:List V} {us:List Qc} (n:Nat),Vals xs us->Vals (xs.drop n) (us.drop n)
 | _,_,0,r=>r
 | _,_,_+1,.nil=> .nil
 | _,_,n+1,.cons _ t=>Vals.drop n t
def aUg:Option V->Option Qc->Prop
 | some v,some u=>RelV v u
 | none,none=>True
 | _,_=>False
def KV {κ:Type}:List (κ×V)->List (κ×Qc)->Prop:=Paired fun (p:κ×V) (q:κ×Qc)=>p.1=q.1/\RelV p.2 q.2
def kV:Key->V
 | .inl i=> .int i
 | .inr x=> .str x
inductive HO where
 | lst (xs:List V)
 | tup (xs:List V)
 | dK (kvs:List (Key×V)) | dT (kvs:List (List Key×V))
 | set (S:Str->Bool) (n:Nat)
 | ins (C dx:Addr) (fs:List (Str×V))
 | own (x:Addr)
 | xd (fs:List (Str×V))
 | met (f x:Addr)
 | rng (lo hi:Int)
 | frz (o:Obj) (u:HO)
 | tbl (ps:Bool×Pos×Str)
 | ext (φ:Heap->Prop)
abbrev Hp:=Addr->Option HO
def upd (H:Hp)(a:Addr)(o:HO):Hp:=fun b=>if b=a then some o else H b
theorem aAy {H:Hp}{a:Addr}{o:HO}:upd H a o a=some o:=by unfold upd;rw[if_pos rfl]
theorem aAv {H:Hp}{a b:Addr}{o:HO}(h:b≠a):upd H a o b=H b:=by unfold upd;rw[if_neg h]
theorem bP5 {H:Hp}{a b:Addr}{o u:HO}(h:H a=some o)(h':H b=some u)(d:o≠u):a≠b:=by
 intro e;subst e;rw[h] at h';exact d (Option.some.inj h')
theorem aA7 {H:Hp}{a b:Addr}{o:HO}(h:H a=some o)(h':H b=none):a≠b:=by
 intro e;subst e;rw[h] at h';cases h'
def bS1 (w:Q8)(o:Obj):Prop:= ∃es ep t,o.data= .set es ep t/\(w.params.followText "set-order"=true\/t.led=true)/\(es.size=0\/t.plain=false)
def aY1 (w:Q8)(h:Heap)(a:Addr):Prop:= ∃o,h.get? a=some o/\bS1 w o
def bDh (h:Heap)(a:Addr)(its:Array Qc):Prop:= ∃o,h.get? a=some o/\o.cls= .type "tuple"/\(∃n,o.data= .seq its n)/\o.dict=none
theorem bDh.tup {h:Heap}{a:Addr}{its:Array Qc}(x:bDh h a its):IsTup h a its:=let ⟨o,e,c,d,_⟩:=x;⟨o,e,c,d⟩
theorem bDh.lt {h:Heap}{a:Addr}{its:Array Qc}(x:bDh h a its):a<h.objs.size:=let ⟨_,e,_⟩:=x;Qo e
theorem bDh.new (h:Heap)(its:Array Qc):bDh (h.push {cls:= .type "tuple",data:= .seq its}) h.objs.size its:=⟨_,Qx _ rfl,rfl,⟨_,rfl⟩,rfl⟩
def bK7 (oc:Obj)(q:Str):Prop:= ∃(vs:Array Qc) (t:Tok),oc.data= .fields vs/\vs[1]? =some (.str q t)
section
variable (P:Qv)(w:Q8)
def aCe (H:Hp)(h:Heap)(a:Addr):HO->Prop
 | .lst xs=>xs.length<=Q0/\∃(its:List Qc) (n:Nat),Vals xs its/\h.get? a=some {cls:= .type "list",data:= .seq its.toArray n}
 | .tup xs=>xs.length<=Q0/\∃its:List Qc,Vals xs its/\bDh h a its.toArray
 | .dK kvs=>kvs.length<=Q0/\(a==sysModules)=false/\∃vs,KV kvs vs/\h.DictOf (aC6 P w) a vs
 | .dT kvs=>kvs.length<=Q0/\(a==sysModules)=false/\∃xs:List (List Key×Addr×Qc),
   Paired (fun (p:List Key×V) (q:List Key×Addr×Qc)=>p.1=q.1/\H q.2.1=some (.tup (p.1.map kV))/\RelV p.2 q.2.2) kvs xs/\
   ∃o es ep,h.get? a=some o/\o.ExactDict/\o.data= .dict es ep/\es.toList=xs.map (entryOfKey (tupleKind (aC6 P w)))/\(xs.map (·.1)).Nodup
 | .set S n=>h.SetOf (Qt P w) a S n/\aY1 w h a
 | .ins C dx fs=>H dx=some (.own a)/\fs.length<=1000/\dx≠a/\h.get? a=some (PySem.W.instObj C dx)/\
   ∃mA,h.Ns1 dx mA/\(∀f,aUg (fs.lookup f) (mA f))/\PySem.Within mA (fs.map (·.1))
 | .own _=> ∃o,h.get? a=some o
 | .xd fs=> ∃mA,h.Ns1 a mA/\∀f,aUg (fs.lookup f) (mA f)
 | .rng lo hi=> ∃t u v,h.get? a=some {cls:= .type "range",data:= .fields #[.int lo t,.int hi u,.int 1 v]}
 | .frz o u=>h.get? a=some o/\aCe H h a u
 | .tbl ps=> ∃tb:Array Qc,h.get? a=some {cls:= .none,data:= .fields tb}/\TriplesOk tb.toList/\(codeAmong ps.2.1 tb.toList=none\/∃c,codeAmong ps.2.1 tb.toList=some (.ref c)/\((ps.1=true/\H c=some (.own a)/\h.CodeRec (.ref c) ps.2.2)\/(ps.1=false/\∃oc,H c=some (.frz oc (.own a))/\bK7 oc ps.2.2)))
 | .met f x=>h.get? a=some (U9 (.ref f) (.ref x))
 | .ext φ=>φ h/\(∃o,h.get? a=some o)/\∀h1 h2:Heap,φ h1->(∀o,h1.get? a=some o->h2.get? a=some o)->φ h2
def HOk (H:Hp)(h:Heap):Prop:= ∀a o,H a=some o->aCe P w H h a o
end
section
variable {P:Qv}{w:Q8}{H H':Hp}{h h':Heap}{a:Addr}{o:HO}
theorem aCe.lt (x:aCe P w H h a o):a<h.objs.size:=by
 cases o with
 | lst xs=>obtain⟨_,_,_,_,e⟩:=x;exact Qo e
 | tup xs=>obtain⟨_,_,_,p⟩:=x;exact p.lt
 | dK kvs=>obtain⟨_,_,_,_,o,_,_,e,_⟩:=x;exact Qo e
 | dT kvs=>obtain⟨_,_,_,_,o,_,_,e,_⟩:=x;exact Qo e
 | set S n=>obtain⟨⟨o,_,_,_,e,_⟩,_⟩:=x;exact Qo e
 | ins C dx fs=>obtain⟨_,_,_,e,_⟩:=x;exact Qo e
 | own y=>obtain⟨_,e⟩:=x;exact Qo e
 | xd fs=>obtain⟨_,⟨_,_,_,e,_⟩,_⟩:=x;exact Qo e
 | rng lo hi=>obtain⟨_,_,_,e⟩:=x;exact Qo e
 | frz ob u=>obtain⟨e,_⟩:=x;exact Qo e
 | tbl ps=>obtain⟨_,e,_⟩:=x;exact Qo e
 | met f y=>exact Qo (show h.get? a=some _ from x)
 | ext φ=>obtain⟨_,⟨_,e⟩,_⟩:=x;exact Qo e
theorem Paired.bOz {α β:Type}{F G:α->β->Prop}: ∀{l₁:List α} {l₂:List β},Paired F l₁ l₂->(∀a b,F a b->G a b)->Paired G l₁ l₂
 | _,_,.nil,_=> .nil
 | _,_,.cons r t,f=> .cons (f _ _ r) (Paired.bOz t f)
theorem aCe.stay (x:aCe P w H h a o)(k: ∀b u,(b=a\/H b=some (.own a))->h.get? b=some u->h'.get? b=some u)
  (ho: ∀b,H b=some (.own a)->H' b=some (.own a)) (ht: ∀b xs,H b=some (.tup xs)->H' b=some (.tup xs)) (hf: ∀b u,H b=some (.frz u (.own a))->H' b=some (.frz u (.own a)):=by exact fun _ _ q=>q):aCe P w H' h' a o:=by
 induction o with
 | lst xs=>obtain⟨z,its,n,r,e⟩:=x;exact⟨z,its,n,r,k _ _ (.inl rfl) e⟩
 | tup xs=>obtain⟨z,its,r,ob,e,c⟩:=x;exact⟨z,its,r,ob,k _ _ (.inl rfl) e,c⟩
 | dK kvs=>obtain⟨z,y,vs,r,ob,es,ep,e,c⟩:=x;exact⟨z,y,vs,r,ob,es,ep,k _ _ (.inl rfl) e,c⟩
 | dT kvs=>
  obtain⟨z,y,xs,r,ob,es,ep,e,c⟩:=x;exact⟨z,y,xs,Paired.bOz r fun p q z=>⟨z.1,ht _ _ z.2.1,z.2.2⟩,ob,es,ep,k _ _ (.inl rfl) e,c⟩
 | set S n=>obtain⟨⟨ob,es,ep,t,e,c⟩,o',e',c'⟩:=x;exact⟨⟨ob,es,ep,t,k _ _ (.inl rfl) e,c⟩,o',k _ _ (.inl rfl) e',c'⟩
 | ins C dx fs=>
  obtain⟨d,z,ne,e,mA,⟨od,es,ep,e2,c⟩,r⟩:=x;exact⟨ho _ d,z,ne,k _ _ (.inl rfl) e,mA,⟨od,es,ep,k _ _ (.inr d) e2,c⟩,r⟩
 | own y=>obtain⟨ob,e⟩:=x;exact⟨ob,k _ _ (.inl rfl) e⟩
 | xd fs=>obtain⟨mA,⟨od,es,ep,e,c⟩,r⟩:=x;exact⟨mA,⟨od,es,ep,k _ _ (.inl rfl) e,c⟩,r⟩
 | rng lo hi=>obtain⟨t,u,v,e⟩:=x;exact⟨t,u,v,k _ _ (.inl rfl) e⟩
 | frz ob u ih=>obtain⟨e,q⟩:=x;exact⟨k _ _ (.inl rfl) e,ih q⟩
 | tbl ps=>
  obtain⟨tb,e,t,c⟩:=x;exact⟨tb,k a _ (.inl rfl) e,t,c.imp id fun⟨c,z1,z2⟩=>⟨c,z1,z2.imp (fun⟨z0,z2,c1,oc,vs,tq,y1,y2,y3⟩=>⟨z0,ho _ z2,c1,oc,vs,tq,y1,k _ _ (.inr (by cases y1;exact z2)) y2,y3⟩) fun⟨z0,oc,z2,z3⟩=>⟨z0,oc,hf _ _ z2,z3⟩⟩⟩
 | met f y=>
  have e:h.get? a=some (U9 (.ref f) (.ref y)):=x;show h'.get? a=some (U9 (.ref f) (.ref y));exact k a _ (.inl rfl) e
 | ext φ=>obtain⟨p,⟨o,e⟩,st⟩:=x;exact⟨st _ _ p fun o q=>k _ _ (.inl rfl) q,⟨o,k _ _ (.inl rfl) e⟩,st⟩
theorem HOk.lt (x:HOk P w H h)(e:H a=some o):a<h.objs.size:=(x a o e).lt
theorem HOk.fresh (x:HOk P w H h)(e:h.objs.size<=a):H a=none:=by
 cases q:H a with
 | none=>rfl
 | some u=>exact absurd (Q2 (x.lt q) e) (Jn _)
theorem HOk.kept (x:HOk P w H h)(k: ∀b u,h.get? b=some u->h'.get? b=some u):HOk P w H h':=fun a o e=>
 (x a o e).stay (fun b u _ q=>k b u q) (fun _ q=>q) fun _ _ q=>q
theorem HOk.laid (x:HOk P w H h)(k: ∀b u,h.get? b=some u->h'.get? b=some u)(hp:h.objs.size<=a)(new:aCe P w (upd H a o) h' a o):HOk P w (upd H a o) h':=fun b u e=>by
 have hn:=x.fresh hp;by_cases hb:b=a
 ·subst hb;rw[aAy] at e;cases e;exact new
 ·rw[aAv hb] at e
  exact (x b u e).stay (fun c v _ q=>k c v q) (fun c q=>by rw[aAv (aA7 q hn)];exact q) (fun c xs q=>by rw[aAv (aA7 q hn)];exact q) fun c xs q=>by rw[aAv (aA7 q hn)];exact q
end
def Rd (H:Hp)(a:Addr)(u:HO):Prop:=H a=some u\/∃o,H a=some (.frz o u)
theorem Rd.ok {P:Qv}{w:Q8}{H:Hp}{h:Heap}{a:Addr}{u:HO}(r:Rd H a u)(x:HOk P w H h):aCe P w H h a u:=by
 rcases r with r |⟨o,r⟩
 ·exact x a u r
 ·obtain⟨_,q⟩:=x a _ r
  exact q
def Mut:Option HO->Prop
 | some (.lst _)=>True
 | some (.dK _)=>True
 | some (.dT _)=>True
 | some (.set _ _)=>True
 | some (.ins _ _ _)=>True
 | some (.ext _)=>True
 | _=>False
section
variable {P:Qv}{w:Q8}{H:Hp}{h h':Heap}{x e:Addr}{o':HO}
theorem HOk.write (ok:HOk P w H h)(mu:Mut (H x))(he:e=x\/H e=some (.own x))(k: ∀b u,b≠e->h.get? b=some u->h'.get? b=some u)(heo: ∃u,h'.get? e=some u)
  (new:aCe P w (upd H x o') h' x o'):HOk P w (upd H x o') h':=fun b u q=>by
 have bRl: ∀c y,H c=some (.own y)->c≠x:=fun c y r z=>by subst z;rw[r] at mu;exact mu
 have bSh: ∀c xs,H c=some (.tup xs)->c≠x:=fun c xs r z=>by subst z;rw[r] at mu;exact mu
 by_cases hb:b=x
 ·subst hb;rw[aAy] at q;cases q;exact new
 ·rw[aAv hb] at q
  by_cases hbe:b=e
  ·have q':H b=some (.own x):=by
    rcases he with z | z
    ·exact absurd (hbe.trans z) hb
    ·rw[hbe];exact z
   rw[q] at q';cases q';obtain⟨v,hv⟩:=heo;exact⟨v,by rw[hbe];exact hv⟩
  ·refine (ok b u q).stay (fun c v hc r=>k c v ?_ r) (fun c r=>by rw[aAv (bRl c b r)];exact r) (fun c xs r=>by rw[aAv (bSh c xs r)];exact r) fun c xs r=>by rw[aAv (fun z=>by subst z;rw[r] at mu;exact mu)];exact r
   rcases hc with rfl | hc
   ·exact hbe
   ·rintro rfl
    rcases he with z | z
    ·exact bRl c b hc z
    ·rw[hc] at z;cases z;exact hb rfl
end
structure Un (fs ex:List Addr)(H H':Hp)(h h':Heap):Prop where
 keep: ∀b o,h.get? b=some o->H b=none->b∉fs->b∉ex->h'.get? b=some o
 slot: ∀b o,h.get? b=some o->H b=none->b∈fs->b∉ex->∃sl,h'.get? b=some {o with slots:=sl}
 free: ∀b o,h.get? b=some o->H b=none->b∉ex->H' b=none
 there: ∀b o,h.get? b=some o->b∉ex->∃o',h'.get? b=some o'
 tups: ∀b xs,H b=some (.tup xs)->H' b=some (.tup xs)
 aOy: ∀b o u,H b=some (.frz o u)->H' b=some (.frz o u)
 aLs: ∀b ps,H b=some (.tbl ps)->H' b=some (.tbl ps)
section
variable {fs fs' ex ex':List Addr}{H H1 H2:Hp}{h h1 h2 h':Heap}{a x e:Addr}{o:HO}
theorem Un.any (u:Un fs ex H H1 h h1){b:Addr}{ob:Obj}(q:h.get? b=some ob)(n:H b=none)(hx:b∉ex): ∃sl,h1.get? b=some {ob with slots:=sl}:=by
 by_cases hb:b∈fs
 ·exact u.slot b ob q n hb hx
 ·exact⟨ob.slots,u.keep b ob q n hb hx⟩
theorem Un.trans (a:Un fs ex H H1 h h1)(b:Un fs ex H1 H2 h1 h2):Un fs ex H H2 h h2 where
 keep:=fun c ob q n hc hx=>b.keep c ob (a.keep c ob q n hc hx) (a.free c ob q n hx) hc hx
 slot:=fun c ob q n hc hx=>by
  obtain⟨sl,e1⟩:=a.slot c ob q n hc hx;obtain⟨sl',e2⟩:=b.slot c _ e1 (a.free c ob q n hx) hc hx;exact⟨sl',e2⟩
 free:=fun c ob q n hx=>by
  obtain⟨o',e1⟩:=a.there c ob q hx;exact b.free c o' e1 (a.free c ob q n hx) hx
 there:=fun c ob q hx=>by
  obtain⟨o',e1⟩:=a.there c ob q hx;exact b.there c o' e1 hx
 tups:=fun c xs q=>b.tups c xs (a.tups c xs q)
 aOy:=fun c ob xs q=>b.aOy c ob xs (a.aOy c ob xs q)
 aLs:=fun c ps q=>b.aLs c ps (a.aLs c ps q)
theorem Un.kept (k: ∀b u,h.get? b=some u->h'.get? b=some u):Un fs ex H H h h':=
 ⟨fun b ob q _ _ _=>k b ob q,fun b ob q _ _ _=>⟨ob.slots,k b ob q⟩,fun _ _ _ n _=>n,fun b ob q _=>⟨ob,k b ob q⟩,fun _ _ q=>q,fun _ _ _ q=>q,fun _ ps q=>q⟩
theorem Un.refl:Un fs ex H H h h:=Un.kept fun _ _ q=>q
theorem Un.laid (k: ∀b u,h.get? b=some u->h'.get? b=some u)(hp:h.objs.size<=a)(hn:H a=none):Un fs ex H (upd H a o) h h' where
 keep:=fun b u q _ _ _=>k b u q
 slot:=fun b u q _ _ _=>⟨u.slots,k b u q⟩
 free:=fun b u q n _=>by rw[aAv (Q1 (Q2 (Qo q) hp))];exact n
 there:=fun b u q _=>⟨u,k b u q⟩
 tups:=fun b xs q=>by rw[aAv (aA7 q hn)];exact q
 aOy:=fun b u xs q=>by rw[aAv (aA7 q hn)];exact q
 aLs:=fun b ps q=>by rw[aAv (aA7 q hn)];exact q
theorem Un.write (mu:Mut (H x))(he:e=x\/H e=some (.own x))(k: ∀b u,b≠e->h.get? b=some u->h'.get? b=some u)(heo: ∃u,h'.get? e=some u):Un fs ex H (upd H x o) h h':=by
 have hx: ∀b,H b=none->b≠x:=fun b n z=>by subst z;rw[n] at mu;exact mu
 have hb: ∀b,H b=none->b≠e:=fun b n z=>by
  subst z;rcases he with r | r
  ·exact hx b n r
  ·rw[n] at r;cases r
 have hm: ∀b u,H b=some u->¬Mut (some u)->b≠x:=fun b u q nm z=>by subst z;rw[q] at mu;exact nm mu
 refine⟨fun b u q n _ _=>k b u (hb b n) q,fun b u q n _ _=>⟨u.slots,k b u (hb b n) q⟩,fun b u q n _=>by rw[aAv (hx b n)];exact n,fun b u q _=> ?_,
  fun b xs q=>by rw[aAv (hm b _ q fun z=>z)];exact q,fun b u xs q=>by rw[aAv (hm b _ q fun z=>z)];exact q,fun b ps q=>by rw[aAv (hm b _ q fun z=>z)];exact q⟩
 by_cases hbe:b=e
 ·subst hbe;exact heo
 ·exact⟨u,k b u hbe q⟩
theorem Un.mono (u:Un fs ex H H1 h h1)(hs: ∀b∈fs,b∈fs')(hx: ∀b∈ex,b∈ex'):Un fs' ex' H H1 h h1:=
 ⟨fun b ob q n hb he=>u.keep b ob q n (fun z=>hb (hs b z)) fun z=>he (hx b z),fun _ _ q n _ he=>u.any q n fun z=>he (hx _ z),fun b ob q n he=>u.free b ob q n fun z=>he (hx b z),fun b ob q he=>u.there b ob q fun z=>he (hx b z),u.tups,u.aOy,u.aLs⟩
end
def trk (h:Heap)(H:Hp):List Addr:=(Zj h.objs.size).filter fun a=>(H a).isSome
def bDg (h:Heap)(H:Hp):Heap:=Yz h (trk h H)
theorem bBv (h:Heap)(H:Hp):(bDg h H).objs.size=h.objs.size:=PySem.W.hideAll_size _ _
theorem bFf {h:Heap}{H:Hp}{b:Addr}{o:Obj}(e:h.get? b=some o)(n:H b=none):(bDg h H).get? b=some o:=
 Jt _ e fun hm=>by
  have q:(H b).isSome=true:=(List.mem_filter.mp hm).2;rw[n] at q;simp at q
theorem bJi {h:Heap}{H:Hp}{b:Addr}{o:Obj}(e:(bDg h H).get? b=some o):h.get? b=some o/\H b=none:=by
 have e':h.get? b=some o:=Ub (trk h H) e;refine⟨e',?_⟩;cases q:H b with
 | none=>rfl
 | some x=>
  have hm:b∈trk h H:=List.mem_filter.mpr ⟨List.mem_range.mpr (Qo e'),by simp[q]⟩;have z:(bDg h H).get? b=none:=PySem.W.hideAll_none (trk h H) hm;rw[z] at e;cases e
def bK1 (g h:Heap)(L:Addr):List (Addr×Obj):=(Zj h.objs.size).filterMap fun a=>if a=L\/(g.get? a).isSome=true then none else (h.get? a).map fun o=>(a,o)
def rest (g h:Heap)(L d:Addr):List (Addr×Obj):=(bK1 g h L).filter fun p=>decide (p.1≠d)
structure Mod (K:Qa)(mg:Str->Option Qc)(base:Heap):Prop where
 kin:K.In base
 glob:base.Ns Y1 mg
 blt: ∃mb,base.Ns builtinsNs mb/\∀x:Str,x≠"__name__"->mb x=Jd x
 nolimit:base.NoLimit
structure Cx where
 prog:Qv
 w:Q8
 K:Qa
 mg:Str->Option Qc
 base:Heap
 A:Zb
 N:List Str
 s₀:Qe
 H₀:Hp
 env:Env
 outer:List Env
 stack:List Env
 ex:List Addr
 fn:Str->Bool
 calm:Bool
 pn:List (Addr×Obj)
 xe:Qc->Qe->Prop
def frs (l:List Env):List Addr:=l.filterMap (·.frame)
abbrev Cx.fs (X:Cx):List Addr:=frs X.outer
def Vis (sc:Scope)(x:Str):Prop:=sc.names.lookup x=some .local\/sc.names.lookup x=some .cell\/sc.names.lookup x=some .free
def Loc (sc:Scope)(x:Str):Prop:=sc.names.lookup x=some .local\/sc.names.lookup x=some .cell
def Look (env:Env)(h:Heap)(m:Str->Option Qc)(x:Str)(u:Qc):Prop:=
 (env.kindOf x=some .local/\m x=some u)\/((env.kindOf x=some .cell\/env.kindOf x=some .free)/\∃c,env.cells.lookup x=some c/\h.IsCell c (some u))
structure Cx.Ok (X:Cx):Prop where
 mod:Mod X.K X.mg X.base
 kind:X.env.scope.kind= .function
 glob:X.env.globals=Y1
 blt:X.env.builtins=builtinsNs
 above:X.s₀.heap.objs.size<=X.env.locals
 inj: ∀x y c,X.env.cells.lookup x=some c->X.env.cells.lookup y=some c->x=y
 has: ∀x,(X.env.kindOf x=some .cell\/X.env.kindOf x=some .free)->∃c,X.env.cells.lookup x=some c
 cab: ∀x c,X.fn x=true->X.env.cells.lookup x=some c->X.s₀.heap.objs.size<=c
 hd:X.calm=true->X.A.handled=none
 frames:X.A.frames=some X.stack
 stk:X.stack=X.outer\/(X.stack=X.env::X.outer/\X.env.frame=some X.env.locals)
 exf: ∀b∈X.ex,b≠X.env.locals/\∀x c,X.env.cells.lookup x=some c->c≠b
 bs: ∀b o,X.base.get? b=some o->X.s₀.heap.get? b=some o/\X.H₀ b=none
 bsz:X.base.objs.size<=X.s₀.heap.objs.size
 bG4: ∀b o,X.base.get? b=some o->b∉X.ex
 bFs: ∀b∈X.ex,b∉X.fs
 aRq:X.s₀.heap.FunFrames X.base X.outer
 frf: ∀b∈X.fs,X.H₀ b=none
structure Inv (X:Cx)(pins:List (Addr×Obj))(σ:List (Option V))(H:Hp)(s:Qe):Prop where
 ok:X.Ok
 os:s.os=X.s₀.os
 bare:AllBare s.gens
 base:Un X.fs X.ex X.H₀ H X.s₀.heap s.heap
 loc: ∃m,s.heap.Ns X.env.locals m/\∀(i:Nat) (x:Str) (v:V),X.N[i]? =some x->σ[i]? =some (some v)->Vis X.env.scope x->∃u,RelV v u/\Look X.env s.heap m x u
 cell: ∀x c,X.env.cells.lookup x=some c->∃v,s.heap.IsCell c v
 free:H X.env.locals=none
 aHz: ∀x c,X.env.cells.lookup x=some c->H c=none
 pin: ∀p∈X.pn++pins,s.heap.get? p.1=some p.2/\H p.1=none/\p.1≠X.env.locals/\p.1∉X.fs/\∀v,p.2.data≠ .cell v
 hok:HOk X.prog X.w H s.heap
 len:σ.length=X.N.length
section
variable {X:Cx}{pins:List (Addr×Obj)}{σ:List (Option V)}{H H':Hp}{s:Qe}{h':Heap}
theorem Cx.Ok.bSj (ok:X.Ok){b:Addr}{o:Obj}(e:X.base.get? b=some o):b∉X.fs:=fun hb=>by
 have:=(ok.aRq.mem hb).1;rw[e] at this;cases this
theorem Inv.bs (I:Inv X pins σ H s): ∀b o,X.base.get? b=some o->s.heap.get? b=some o/\H b=none:=fun b o e=>
 ⟨I.base.keep b o (I.ok.bs b o e).1 (I.ok.bs b o e).2 (I.ok.bSj e) (I.ok.bG4 b o e),I.base.free b o (I.ok.bs b o e).1 (I.ok.bs b o e).2 (I.ok.bG4 b o e)⟩
theorem Inv.bk (I:Inv X pins σ H s): ∀b o,X.base.get? b=some o->s.heap.get? b=some o:=fun b o e=>(I.bs b o e).1
theorem Inv.mod (I:Inv X pins σ H s):Mod X.K X.mg X.base:=I.ok.mod
theorem Inv.kIn (I:Inv X pins σ H s):X.K.In s.heap:=I.ok.mod.kin.keeps I.bk
theorem Inv.lt (I:Inv X pins σ H s):X.env.locals<s.heap.objs.size:=let ⟨_,hn,_⟩:=I.loc;hn.lt
theorem Inv.sz (I:Inv X pins σ H s):X.s₀.heap.objs.size<=s.heap.objs.size:=Z2 I.ok.above (Uv I.lt)
theorem Inv.bSi (I:Inv X pins σ H s){a:Addr}(h:s.heap.objs.size<=a):a∉X.fs:=fun hb=>by
 obtain⟨_,o,ho,_⟩:=I.ok.aRq.mem hb;exact absurd (Q2 (Qo ho) (Z2 I.sz h)) (Jn _)
theorem Inv.cne (I:Inv X pins σ H s): ∀x c,X.env.cells.lookup x=some c->c≠X.env.locals:=fun x c e z=>by
 obtain⟨v,o,ho,hd⟩:=I.cell x c e;obtain⟨m,⟨o',es,ep,ho',hd',_⟩,_⟩:=I.loc;rw[z,ho'] at ho;cases ho;rw[hd'] at hd;cases hd
theorem Inv.aRq (I:Inv X pins σ H s):s.heap.FunFrames X.base X.outer:=by
 have all: ∀(l:List Env),(∀b∈frs l,b∈X.fs)->X.s₀.heap.FunFrames X.base l->s.heap.FunFrames X.base l:=by
  intro l
  induction l with
  | nil=>intro _ _;trivial
  | cons env r ih=>
   intro hs hl;obtain⟨hk,⟨L,o,hf,hn,ho,hd⟩,hr⟩:=hl;have hL:L∈X.fs:=hs L (by unfold frs;rw[U8,hf];exact Qq);obtain⟨sl,e⟩:=I.base.slot L o ho (I.ok.frf L hL) hL fun z=>I.ok.bFs L z hL
   exact⟨hk,⟨L,_,hf,hn,e,hd⟩,ih (fun b hb=>hs b (by unfold frs;rw[U8,hf];exact Qm _ hb)) hr⟩
 exact all X.outer (fun _ hb=>hb) I.ok.aRq
theorem Inv.stack (I:Inv X pins σ H s):s.heap.FunFrames X.base X.stack:=by
 rcases I.ok.stk with e |⟨e,hf⟩
 ·rw[e];exact I.aRq
 ·rw[e]
  obtain⟨m,hn,_⟩:=I.loc;refine .cons (by rw[I.ok.kind];decide) hf hn ?_ I.aRq;exact Heap.get?_none_of_le (Z2 I.ok.bsz I.ok.above)
theorem Inv.aSj (I:Inv X pins σ H s): ∀b∈frs X.stack,b∈X.env.locals::X.fs:=fun b hb=>by
 rcases I.ok.stk with e |⟨e,hf⟩
 ·rw[e] at hb;exact Qm _ hb
 ·rw[e] at hb
  unfold frs at hb;rw[U8,hf] at hb;exact hb
theorem Inv.aKy (I:Inv X pins σ H s): ∀b∈frs X.stack,H b=none:=fun b hb=>by
 rcases List.mem_cons.mp (I.aSj b hb) with e | hb
 ·rw[e];exact I.free
 ·obtain⟨_,o,ho,_⟩:=I.ok.aRq.mem hb
  exact I.base.free b o ho (I.ok.frf b hb) fun z=>I.ok.bFs b z hb
theorem Inv.step {g':Array GenState}{t':Nat}{d':Drawn}{ch:List Addr}(I:Inv X pins σ H s)
  (hch: ∀b∈ch,(b∈X.ex\/X.s₀.heap.objs.size<=b)/\b≠X.env.locals/\(∀x c,X.env.cells.lookup x=some c->c≠b)/\∀p∈X.pn++pins,p.1≠b)
  (keep: ∀b o,b≠X.env.locals->b∉X.fs->b∉ch->s.heap.get? b=some o->H b=none->h'.get? b=some o)
  (slot: ∀b o,b≠X.env.locals->b∈X.fs->b∉ch->s.heap.get? b=some o->H b=none->∃sl,h'.get? b=some {o with slots:=sl}) (free: ∀b o,b∉ch->s.heap.get? b=some o->H b=none->H' b=none)
  (there: ∀b o,b∉ch->s.heap.get? b=some o->∃o',h'.get? b=some o')
  (tups: ∀b xs,H b=some (.tup xs)->H' b=some (.tup xs)) (aOy: ∀b o u,H b=some (.frz o u)->H' b=some (.frz o u)) (aLs: ∀b ps,H b=some (.tbl ps)->H' b=some (.tbl ps))
  (ns: ∀m,s.heap.Ns X.env.locals m->h'.Ns X.env.locals m) (hok:HOk X.prog X.w H' h') (hg:AllBare g'):
  Inv X pins σ H' {s with heap:=h',gens:=g',drawn:=d',toks:=t'}:=by
 have neL: ∀b o,X.s₀.heap.get? b=some o->b≠X.env.locals:=fun b o e=>Q1 (Q2 (Qo e) I.ok.above)
 have neC: ∀b o,X.s₀.heap.get? b=some o->b∉X.ex->b∉ch:=fun b o e hx hb=>by
  rcases (hch b hb).1 with z | z
  ·exact hx z
  ·exact absurd (Q2 (Qo e) z) (Jn _)
 have cellK: ∀x c,X.env.cells.lookup x=some c->∀v,s.heap.IsCell c v->h'.IsCell c v:=fun x c e v ⟨o,ho,hd⟩=>by
  have nch:c∉ch:=fun z=>(hch c z).2.2.1 x c e rfl
  by_cases hc:c∈X.fs
  ·obtain⟨sl,q⟩:=slot c o (I.cne x c e) hc nch ho (I.aHz x c e)
   exact⟨_,q,hd⟩
  ·exact⟨o,keep c o (I.cne x c e) hc nch ho (I.aHz x c e),hd⟩
 refine⟨I.ok,I.os,hg,⟨fun b o e n hb hx=> ?_,fun b o e n hb hx=> ?_,fun b o e n hx=> ?_,fun b o e hx=> ?_,fun b xs e=>tups b xs (I.base.tups b xs e),fun b o xs e=>aOy b o xs (I.base.aOy b o xs e),fun b ps e=> ?_⟩,?_,fun x c e=> ?_,?_,fun x c e=> ?_,fun p hp=> ?_,hok,I.len⟩
 ·exact keep b o (neL b o e) hb (neC b o e hx) (I.base.keep b o e n hb hx) (I.base.free b o e n hx)
 ·obtain⟨sl,e1⟩:=I.base.slot b o e n hb hx
  obtain⟨sl',e2⟩:=slot b _ (neL b o e) hb (neC b o e hx) e1 (I.base.free b o e n hx);exact⟨sl',e2⟩
 ·obtain⟨o',e1⟩:=I.base.there b o e hx
  exact free b o' (neC b o e hx) e1 (I.base.free b o e n hx)
 ·obtain⟨o',e1⟩:=I.base.there b o e hx
  exact there b o' (neC b o e hx) e1
 ·exact aLs b ps (I.base.aLs b ps e)
 ·obtain⟨m,hn,hl⟩:=I.loc
  refine⟨m,ns m hn,fun i x v e1 e2 e3=> ?_⟩;obtain⟨u,r,l⟩:=hl i x v e1 e2 e3;refine⟨u,r,?_⟩;rcases l with l |⟨k,c,e,z⟩
  ·exact .inl l
  ·exact .inr ⟨k,c,e,cellK x c e _ z⟩
 ·obtain⟨v,z⟩:=I.cell x c e
  exact⟨v,cellK x c e v z⟩
 ·obtain⟨m,⟨o,_,_,ho,_⟩,_⟩:=I.loc
  exact free _ o (fun z=>(hch _ z).2.1 rfl) ho I.free
 ·obtain⟨v,o,ho,hd⟩:=I.cell x c e
  exact free c o (fun z=>(hch c z).2.2.1 x c e rfl) ho (I.aHz x c e)
 ·obtain⟨e,n,ne,nf,d⟩:=I.pin p hp
  have nch:p.1∉ch:=fun z=>(hch p.1 z).2.2.2 p hp rfl
  exact⟨keep p.1 p.2 ne nf nch e n,free p.1 p.2 nch e n,ne,nf,d⟩
theorem Inv.un {t':Nat}(I:Inv X pins σ H s)(u:Un X.fs [] H H' s.heap h')(hok:HOk X.prog X.w H' h'):Inv X pins σ H' {s with heap:=h',toks:=t'}:=by
 obtain⟨m,⟨o,es,ep,ho,r⟩,_⟩:=id I.loc;obtain⟨sl,hL⟩:=u.any ho I.free (by simp);exact I.step (g':=s.gens) (d':=s.drawn) (ch:=[]) (fun _ z=>nomatch z) (fun b o _ hb _ e n=>u.keep b o e n hb (by simp)) (fun b o _ hb _ e n=>u.slot b o e n hb (by simp)) (fun b o _ e n=>u.free b o e n (by simp)) (fun b o _ e=>u.there b o e (by simp)) u.tups u.aOy u.aLs (fun m' hm=>by
  obtain⟨o',es',ep',ho',r'⟩:=hm;rw[ho] at ho';cases ho';exact⟨_,es',ep',hL,r'⟩) hok I.bare
theorem Inv.call {g':Array GenState}{t':Nat}{d':Drawn}{ch:List Addr}(I:Inv X pins σ H s)(u:Un (frs X.stack) ch H H' s.heap h')(hok:HOk X.prog X.w H' h')(hg:AllBare g')
  (hch: ∀b∈ch,(b∈X.ex\/X.s₀.heap.objs.size<=b)/\b≠X.env.locals/\(∀x c,X.env.cells.lookup x=some c->c≠b)/\∀p∈X.pn++pins,p.1≠b):
  Inv X pins σ H' {s with heap:=h',gens:=g',drawn:=d',toks:=t'}:=by
 obtain⟨m,⟨o,es,ep,ho,r⟩,_⟩:=id I.loc;obtain⟨sl,hL⟩:=u.any ho I.free fun z=>(hch _ z).2.1 rfl
 exact I.step (ch:=ch) hch (fun b o hL hb hc e n=>u.keep b o e n (fun z=>(List.mem_cons.mp (I.aSj b z)).elim hL hb) hc) (fun b o _ _ hc e n=>u.any e n hc) (fun b o hc e n=>u.free b o e n hc) (fun b o hc e=>u.there b o e hc) u.tups u.aOy u.aLs (fun m' hm=>by
  obtain⟨o',es',ep',ho',r'⟩:=hm;rw[ho] at ho';cases ho';exact⟨_,es',ep',hL,r'⟩) hok hg
theorem Inv.turned {t':Nat}{it:Addr}(I:Inv X pins σ H s)(k: ∀b o,b≠it->s.heap.get? b=some o->h'.get? b=some o)(hn:H it=none)(hL:it≠X.env.locals)
  (h1:it∈X.ex\/X.s₀.heap.objs.size<=it) (h2: ∀x c,X.env.cells.lookup x=some c->c≠it) (h3: ∀p∈X.pn++pins,p.1≠it):Inv X pins σ H {s with heap:=h',toks:=t'}:=by
 have nit: ∀b u,H b=some u->b≠it:=fun b u e z=>by rw[z,hn] at e;cases e
 refine I.step (g':=s.gens) (d':=s.drawn) (ch:=[it]) (fun b hb=> ?_) (fun b o _ _ hc e _=>k b o (fun z=>hc (by simp[z])) e) (fun b o _ _ hc e _=>⟨o.slots,k b o (fun z=>hc (by simp[z])) e⟩) (fun _ _ _ _ n=>n)
  (fun b o hc e=>⟨o,k b o (fun z=>hc (by simp[z])) e⟩) (fun _ _ e=>e) (fun _ _ _ e=>e) (fun _ _ e=>e) (fun m hm=> ?_) (fun b u e=> ?_) I.bare
 ·have e:b=it:=by simpa using hb
  subst e;exact⟨h1,hL,h2,h3⟩
 ·obtain⟨o,es,ep,ho,r⟩:=hm
  exact⟨o,es,ep,k _ o (Ne.symm hL) ho,r⟩
 ·refine (I.hok b u e).stay (fun c v hc q=>k c v ?_ q) (fun _ q=>q) fun _ _ q=>q
  rcases hc with z | z
  ·rw[z];exact nit b u e
  ·exact nit c _ z
theorem Inv.tok (I:Inv X pins σ H s)(t:Nat):Inv X pins σ H {s with toks:=t}:=I.un (h':=s.heap) (t':=t) Un.refl I.hok
theorem Inv.kept {t':Nat}(I:Inv X pins σ H s)(k: ∀b u,s.heap.get? b=some u->h'.get? b=some u):Inv X pins σ H {s with heap:=h',toks:=t'}:=I.un (Un.kept k) (I.hok.kept k)
theorem Inv.laid {a:Addr}{o:HO}{t':Nat}(I:Inv X pins σ H s)(k: ∀b u,s.heap.get? b=some u->h'.get? b=some u)(hp:s.heap.objs.size<=a)(new:aCe X.prog X.w (upd H a o) h' a o):
  Inv X pins σ (upd H a o) {s with heap:=h',toks:=t'}:=I.un (Un.laid k hp (I.hok.fresh hp)) (I.hok.laid k hp new)
theorem Inv.write {x e:Addr}{o:HO}{t':Nat}(I:Inv X pins σ H s)(mu:Mut (H x))(he:e=x\/H e=some (.own x))(k: ∀b u,b≠e->s.heap.get? b=some u->h'.get? b=some u)(heo: ∃u,h'.get? e=some u)
  (new:aCe X.prog X.w (upd H x o) h' x o):Inv X pins σ (upd H x o) {s with heap:=h',toks:=t'}:=I.un (Un.write mu he k heo) (I.hok.write mu he k heo new)
theorem Inv.weak {σ':List (Option V)}(I:Inv X pins σ H s)(hl:σ'.length=σ.length)(w: ∀(i:Nat) v,σ'[i]? =some (some v)->σ[i]? =some (some v)):Inv X pins σ' H s:=
 ⟨I.ok,I.os,I.bare,I.base,let ⟨m,hn,hl'⟩:=I.loc;⟨m,hn,fun i x v e1 e2 e3=>hl' i x v e1 (w i v e2) e3⟩,I.cell,I.free,I.aHz,I.pin,I.hok,hl.trans I.len⟩
theorem Inv.aQw {aX5:List (Addr×Obj)}(I:Inv X pins σ H s)(h: ∀p∈aX5,s.heap.get? p.1=some p.2/\H p.1=none/\p.1≠X.env.locals/\p.1∉X.fs/\∀v,p.2.data≠ .cell v):Inv X aX5 σ H s:=
 ⟨I.ok,I.os,I.bare,I.base,I.loc,I.cell,I.free,I.aHz,fun p hp=>(List.mem_append.mp hp).elim (fun z=>I.pin p (Yy _ z)) (h p),I.hok,I.len⟩
theorem aRc {N:List Str}(hN:N.Nodup){i j:Nat}{x:Str}(a:N[i]? =some x)(b:N[j]? =some x):i=j:=by
 obtain⟨h1,e1⟩:=List.getElem?_eq_some_iff.mp a;obtain⟨h2,e2⟩:=List.getElem?_eq_some_iff.mp b;exact (List.getElem_inj hN).mp (e1.trans e2.symm)
theorem aSi {M:Model}{A:Zb}{E:Qc->Qe->Prop}{i:Nat}{x:Str}{v:V}{u:Qc}{Q:Unit->Qe->Prop}(I:Inv X pins σ H s)(hN:X.N.Nodup)(hi:X.N[i]? =some x)(hx:Loc X.env.scope x)(r:RelV v u)
  (h: ∀s',Inv X pins (σ.set i (some v)) H s'->(∃a,Yw a s.heap s'.heap/\(a=X.env.locals\/X.env.cells.lookup x=some a))->Q () s') (hf:X.fn x=true\/X.env.scope.names.lookup x=some .local):Qs M A (storeName X.env x u) Q E s:=by
 obtain⟨m,hn,hl⟩:=id I.loc;have hcls:(X.env.scope.kind== .class ||(X.env.scope.kind== .module&&X.env.locals !=X.env.globals))=false:=by rw[I.ok.kind];rfl
 have hiσ:i<σ.length:=by rw[I.len];exact (List.getElem?_eq_some_iff.mp hi).1
 have cne:=I.cne;have tracked: ∀{a:Addr} {h':Heap},(∃o,s.heap.get? a=some o/\H a=none)->Yw a s.heap h'->HOk X.prog X.w H h':=fun {a h'} ha hs b ob e=>by
  obtain⟨_,_,hfree⟩:=ha;refine (I.hok b ob e).stay (fun c w' hc q=>(hs.2 c ?_).trans q) (fun _ q=>q) fun _ _ q=>q
  rintro rfl
  rcases hc with rfl | hc
  ·rw[hfree] at e;cases e
  ·rw[hfree] at hc;cases hc
 rcases hx with hk | hk
 ·refine wpAny_storeName_local hk hn (fun h' hn' hs=> ?_) hcls
  obtain⟨oL,_,_,hoL,_⟩:=id hn;refine h _ ⟨I.ok,I.os,I.bare,⟨fun b o e n hb hx=> ?_,fun b o e n hb hx=> ?_,I.base.free,fun b o e hx=> ?_,I.base.tups,I.base.aOy,I.base.aLs⟩,⟨_,hn',fun j y v' e1 e2 e3=> ?_⟩,fun y c e=> ?_,I.free,I.aHz,fun p hp=> ?_,tracked ⟨oL,hoL,I.free⟩ hs,by simpa using I.len⟩ ⟨_,hs,.inl rfl⟩
  ·exact (hs.2 b (Q1 (Q2 (Qo e) I.ok.above))).trans (I.base.keep b o e n hb hx)
  ·obtain⟨sl,e1⟩:=I.base.slot b o e n hb hx
   exact⟨sl,(hs.2 b (Q1 (Q2 (Qo e) I.ok.above))).trans e1⟩
  ·obtain⟨o',e1⟩:=I.base.there b o e hx
   exact⟨o',(hs.2 b (Q1 (Q2 (Qo e) I.ok.above))).trans e1⟩
  ·by_cases hj:j=i
   ·subst hj
    rw[hi] at e1;cases e1;rw[Q6 hiσ] at e2;cases e2;exact⟨u,r,.inl ⟨hk,by simp⟩⟩
   ·rw[Qh (Ne.symm hj)] at e2
    obtain⟨u',r',q⟩:=hl j y v' e1 e2 e3;refine⟨u',r',?_⟩;rcases q with⟨k,e⟩ |⟨k,c,e,z⟩
    ·refine .inl ⟨k,?_⟩
     have:y≠x:=fun e=>hj (aRc hN e1 (e▸hi))
     simp[this,e]
    ·exact .inr ⟨k,c,e,z.sameBut hs (cne y c e)⟩
  ·obtain⟨w',z⟩:=I.cell y c e
   exact⟨w',z.sameBut hs (cne y c e)⟩
  ·obtain⟨e,n,ne,nf,d⟩:=I.pin p hp
   exact⟨(hs.2 p.1 ne).trans e,n,ne,nf,d⟩
 ·have hfn:X.fn x=true:=by
   rcases hf with z | z
   ·exact z
   ·rw[z] at hk;cases hk
  obtain⟨c,hc⟩:=I.ok.has x (.inl hk);obtain⟨w',z⟩:=I.cell x c hc;refine wpAny_storeName_cell I.ok.kind hk hc z (fun h' hc' hs=> ?_);obtain⟨oc,hoc,bSu⟩:=id z;refine h {s with heap:=h'} ⟨I.ok,I.os,I.bare,⟨fun b o e n hb hx=> ?_,fun b o e n hb hx=> ?_,I.base.free,fun b o e hx=> ?_,I.base.tups,I.base.aOy,I.base.aLs⟩,⟨m,hn.sameBut hs (Ne.symm (cne x c hc)),fun j y v' e1 e2 e3=> ?_⟩,fun y c' e=> ?_,I.free,I.aHz,fun p hp=> ?_,tracked ⟨oc,hoc,I.aHz x c hc⟩ hs,by simpa using I.len⟩ ⟨c,hs,.inr hc⟩
  ·exact (hs.2 b (Q1 (Q2 (Qo e) (I.ok.cab x c hfn hc)))).trans (I.base.keep b o e n hb hx)
  ·obtain⟨sl,e1⟩:=I.base.slot b o e n hb hx
   exact⟨sl,(hs.2 b (Q1 (Q2 (Qo e) (I.ok.cab x c hfn hc)))).trans e1⟩
  ·obtain⟨o',e1⟩:=I.base.there b o e hx
   exact⟨o',(hs.2 b (Q1 (Q2 (Qo e) (I.ok.cab x c hfn hc)))).trans e1⟩
  ·by_cases hj:j=i
   ·subst hj
    rw[hi] at e1;cases e1;rw[Q6 hiσ] at e2;cases e2;exact⟨u,r,.inr ⟨.inl hk,c,hc,hc'⟩⟩
   ·rw[Qh (Ne.symm hj)] at e2
    obtain⟨u',r',q⟩:=hl j y v' e1 e2 e3;refine⟨u',r',?_⟩;rcases q with q |⟨k,c',e,z'⟩
    ·exact .inl q
    ·refine .inr ⟨k,c',e,z'.sameBut hs ?_⟩
     rintro rfl
     exact hj (aRc hN e1 (I.ok.inj _ _ _ e hc▸hi))
  ·by_cases hcc:c'=c
   ·subst hcc;exact⟨_,hc'⟩
   ·obtain⟨w2,z2⟩:=I.cell y c' e
    exact⟨w2,z2.sameBut hs hcc⟩
  ·obtain⟨e,n,ne,nf,d⟩:=I.pin p hp
   refine⟨(hs.2 p.1 ?_).trans e,n,ne,nf,d⟩;intro q;rw[q,hoc] at e;have q':oc=p.2:=Option.some.inj e;exact d w' (by rw[<-q'];exact bSu)
theorem aJ5 {M:Model}{A:Zb}{E:Qc->Qe->Prop}{i:Nat}{x:Str}{v:V}{u:Qc}{Q:Unit->Qe->Prop}(I:Inv X pins σ H s)(hN:X.N.Nodup)(hi:X.N[i]? =some x)(hx:Loc X.env.scope x)(r:RelV v u)
  (h: ∀s',Inv X pins (σ.set i (some v)) H s'->Q () s') (hf:X.fn x=true\/X.env.scope.names.lookup x=some .local:=by first | exact .inl rfl | exact .inr rfl | assumption):Qs M A (storeName X.env x u) Q E s:=
 aSi I hN hi hx r (fun s' I' _=>h s' I') hf
theorem Inv.call' {s':Qe}{ch:List Addr}(I:Inv X pins σ H s)(ho:s'.os=s.os)(u:Un (frs X.stack) ch H H' s.heap s'.heap)(hok:HOk X.prog X.w H' s'.heap)(hg:AllBare s'.gens)
  (hch: ∀b∈ch,(b∈X.ex\/X.s₀.heap.objs.size<=b)/\b≠X.env.locals/\(∀x c,X.env.cells.lookup x=some c->c≠b)/\∀p∈X.pn++pins,p.1≠b):Inv X pins σ H' s':=by
 obtain⟨h',g',d',t',o'⟩:=s';have e:o'=s.os:=ho;subst e;exact I.call (g':=g') (t':=t') (d':=d') u hok hg hch
end
abbrev XK:=Qc->Option Addr->Hp->Prop
abbrev St:=List (Option V)
abbrev VK:=V->Hp->Prop
abbrev TE:=St->Hp->VK->Prop
abbrev TT:=St->Hp->(Bool->Hp->Prop)->Prop
abbrev TA:=St->Hp->(List V->Hp->Prop)->Prop
structure Ends where
 nx:St->Hp->Prop
 rt:VK
 bk:St->Hp->Prop:=fun _ _=>False
 ct:St->Hp->Prop:=fun _ _=>False
abbrev TS:=Ends->St->Hp->Prop
def EP (X:Cx)(pins:List (Addr×Obj))(σ:St)(Q:VK)(u:Qc)(s':Qe):Prop:= ∃v H',Inv X pins σ H' s'/\RelV v u/\Q v H'
def TP (X:Cx)(pins:List (Addr×Obj))(σ:St)(Q:Bool->Hp->Prop)(b:Bool)(s':Qe):Prop:= ∃H',Inv X pins σ H' s'/\Q b H'
def AP (X:Cx)(pins:List (Addr×Obj))(σ:St)(Q:List V->Hp->Prop)(us:List Qc)(s':Qe):Prop:= ∃vs H',Inv X pins σ H' s'/\Vals vs us/\Q vs H'
def SP (X:Cx)(pins:List (Addr×Obj))(D:Ends)(f:Flow)(s':Qe):Prop:=
 match f with
 | .next=> ∃σ' H',Inv X pins σ' H' s'/\D.nx σ' H'
 | .brk=> ∃σ' H',Inv X pins σ' H' s'/\D.bk σ' H'
 | .cont=> ∃σ' H',Inv X pins σ' H' s'/\D.ct σ' H'
 | .ret u=> ∃v σ' H',Inv X pins σ' H' s'/\RelV v u/\D.rt v H'
def PE (X:Cx)(e:Expr)(t:TE):Prop:=
 ∀(pins:List (Addr×Obj)) (s:Qe) (σ:St) (H:Hp) (Q:VK),Inv X pins σ H s->t σ H Q->Qs (Qp X.prog X.w) X.A (eval e X.env) (EP X pins σ Q) X.xe s
def PT (X:Cx)(e:Expr)(t:TT):Prop:=
 ∀(pins:List (Addr×Obj)) (s:Qe) (σ:St) (H:Hp) (Q:Bool->Hp->Prop),Inv X pins σ H s->t σ H Q->Qs (Qp X.prog X.w) X.A (isTrue e X.env (eval e X.env)) (TP X pins σ Q) X.xe s
def PW (X:Cx)(e:Expr)(t:TT):Prop:=
 ∀(whole:Sem Qc) (pins:List (Addr×Obj)) (s:Qe) (σ:St) (H:Hp) (Q:Bool->Hp->Prop),Inv X pins σ H s->t σ H Q->Qs (Qp X.prog X.w) X.A (isTrue e X.env whole) (TP X pins σ Q) X.xe s
theorem PW.pt {X:Cx}{e:Expr}{t:TT}(h:PW X e t):PT X e t:=h _
def PA (X:Cx)(es:List Expr)(t:TA):Prop:=
 ∀(pos:Pos) (pins:List (Addr×Obj)) (s:Qe) (σ:St) (H:Hp) (Q:List V->Hp->Prop),Inv X pins σ H s->t σ H Q->Qs (Qp X.prog X.w) X.A (spliced (backTo pos (Qu es X.env))) (AP X pins σ Q) X.xe s
def PS (X:Cx)(st:Stmt)(t:TS):Prop:=
 ∀(pins:List (Addr×Obj)) (s:Qe) (σ:St) (H:Hp) (D:Ends),Inv X pins σ H s->t D σ H->Qs (Qp X.prog X.w) X.A (exec st X.env) (SP X pins D) X.xe s
def PSs (X:Cx)(st:List Stmt)(t:TS):Prop:=
 ∀(pins:List (Addr×Obj)) (s:Qe) (σ:St) (H:Hp) (D:Ends),Inv X pins σ H s->t D σ H->Qs (Qp X.prog X.w) X.A (execs st X.env) (SP X pins D) X.xe s
theorem thn {α:Type}{t:Sem α}{Q Q':α->Qe->Prop}{M:Model}{A:Zb}{E:Qc->Qe->Prop}{s:Qe}(h:Qs M A t Q E s)(hQ: ∀a s,Q a s->Q' a s):Qs M A t Q' E s:=Yq h hQ fun _ _ x=>x
section
variable {X:Cx}
def bQ9 (i:Nat):TE:=fun σ H Q=> ∃v,σ[i]? =some (some v)/\Q v H
def tC (v:V):TE:=fun _ H Q=>Q v H
theorem aHo {i:Nat}{x:Str}{pos:Pos}(hN:X.N[i]? =some x)(hv:Vis X.env.scope x)(hd:(x==("__debug__":Str))=false:=by decide)(hcd:(x==("__classdict__":Str))=false:=by decide):PE X (.Name x pos) (bQ9 i):=by
 intro pins s σ H Q I h;obtain⟨v,e,h⟩:=h;obtain⟨m,hn,hl⟩:=I.loc;obtain⟨u,r,l⟩:=hl i x v hN e hv;have fin:EP X pins σ Q u s:=⟨v,H,I,r,h⟩;rcases l with⟨hk,hm⟩ |⟨hk,c,hc,hcell⟩
 ·exact wpAny_Name (wpAny_loadName_local I.ok.kind hk hn hm fin) hd
 ·rcases hk with hk | hk
  ·exact wpAny_Name (wpAny_loadName_cell I.ok.kind hk hc hcell fin) hd
  ·exact wpAny_Name (wpAny_loadName_free I.ok.kind hk hc hcell fin hcd) hd
theorem bMo {i j pos}:PE X (.Constant (.int i) j pos) (tC (.int i)):=fun _ _ _ H _ I h=>wpAny_Constant_int ⟨.int i,H,I.tok _,⟨_,rfl⟩,h⟩
theorem bPz {b j pos}:PE X (.Constant (.bool b) j pos) (tC (.bl b)):=fun _ _ _ H _ I h=>Constant_bool ⟨.bl b,H,I,rfl,h⟩
theorem bMn {j pos}:PE X (.Constant .none j pos) (tC .non):=fun _ _ _ H _ I h=>Constant_none ⟨.non,H,I,rfl,h⟩
theorem bGv {x j pos}:PE X (.Constant (.str x) j pos) (tC (.str x)):=fun _ _ _ H _ I h=>Calls.Constant_str ⟨.str x,H,I.tok _,⟨_,rfl⟩,h⟩
def Gl (X:Cx)(x:Str):Prop:=X.env.kindOf x=some .globalImplicit
theorem aK3 {E:Qc->Qe->Prop}{pins:List (Addr×Obj)}{s:Qe}{σ:St}{H:Hp}{x:Str}{u:Qc}{pos:Pos}{Q:Qc->Qe->Prop}(I:Inv X pins σ H s)(hg:Gl X x)(hm:X.mg x=some u)(h:Q u s)
  (hd:(x==("__debug__":Str))=false:=by decide):Qs (Qp X.prog X.w) X.A (eval (.Name x pos) X.env) Q E s:=
 Calls.Name_function_global I.ok.kind hg (Calls.loadGlobal_global (by rw[I.ok.glob];exact I.mod.glob.keeps I.bk) hm h) hd
theorem aL2 {E:Qc->Qe->Prop}{pins:List (Addr×Obj)}{s:Qe}{σ:St}{H:Hp}{x:Str}{u:Qc}{pos:Pos}{Q:Qc->Qe->Prop}(I:Inv X pins σ H s)(hg:Gl X x)(hm:X.mg x=none)(hv:Jd x=some u)(h:Q u s)
  (hn:x≠"__name__":=by decide) (hd:(x==("__debug__":Str))=false:=by decide):Qs (Qp X.prog X.w) X.A (eval (.Name x pos) X.env) Q E s:=by
 obtain⟨mb,h1,h2⟩:=I.mod.blt;exact Calls.Name_function_global I.ok.kind hg (Calls.loadGlobal_builtin (by rw[I.ok.glob];exact I.mod.glob.keeps I.bk) hm (by rw[I.ok.blt];exact h1.keeps I.bk) ((h2 x hn).trans hv) h) hd
theorem aUx {x:Str}{v:V}{u:Qc}{pos:Pos}(hg:Gl X x)(hm:X.mg x=some u)(r:RelV v u)(hd:(x==("__debug__":Str))=false:=by decide):PE X (.Name x pos) (tC v):=
 fun _ _ _ H _ I h=>aK3 I hg hm ⟨v,H,I,r,h⟩ hd
theorem bAm {x:Str}{v:V}{u:Qc}{pos:Pos}(hg:Gl X x)(hm:X.mg x=none)(hv:Jd x=some u)(r:RelV v u)(hn:x≠"__name__":=by decide)(hd:(x==("__debug__":Str))=false:=by decide):PE X (.Name x pos) (tC v):=
 fun _ _ _ H _ I h=>aL2 I hg hm hv ⟨v,H,I,r,h⟩ hn hd
variable {a b:Expr}{ta tb:TE}{pos:Pos}
variable {tA tB':TT}{rest:List Expr}
def bR0 (t u:TT):TT:=fun σ H Q=>t σ H fun c H1=>if c=true then u σ H1 Q else Q false H1
def tOr (t u:TT):TT:=fun σ H Q=>t σ H fun c H1=>if c=true then Q true H1 else u σ H1 Q
def bRt (t:TT):TT:=fun σ H Q=>t σ H fun c H1=>Q (!c) H1
theorem bIj (ha:PT X a tA):PW X (.BoolOp .And [a] pos) tA:=by
 intro wh pins s σ H Q I h;refine isTrue_and (thn (ha pins s σ H Q I h) fun c s1 e=> ?_);cases c with
 | true=>exact isTrue_and_nil e
 | false=>exact e
theorem bMa (ha:PT X a tA):PW X (.BoolOp .Or [a] pos) tA:=by
 intro wh pins s σ H Q I h;refine isTrue_or (thn (ha pins s σ H Q I h) fun c s1 e=> ?_);cases c with
 | false=>exact isTrue_or_nil e
 | true=>exact e
theorem bMb (ha:PT X a tA)(hb:PW X (.BoolOp .And (b::rest) pos) tB'):PW X (.BoolOp .And (a::b::rest) pos) (bR0 tA tB'):=by
 intro wh pins s σ H Q I h;refine isTrue_and (thn (ha pins s σ H _ I h) fun c s1 ⟨H1,I1,q1⟩=> ?_);cases c with
 | true=>exact hb wh pins s1 σ H1 Q I1 q1
 | false=>exact⟨H1,I1,q1⟩
theorem bPs (ha:PT X a tA)(hb:PW X (.BoolOp .Or (b::rest) pos) tB'):PW X (.BoolOp .Or (a::b::rest) pos) (tOr tA tB'):=by
 intro wh pins s σ H Q I h;refine isTrue_or (thn (ha pins s σ H _ I h) fun c s1 ⟨H1,I1,q1⟩=> ?_);cases c with
 | true=>exact⟨H1,I1,q1⟩
 | false=>exact hb wh pins s1 σ H1 Q I1 q1
theorem bMe (ha:PT X a tA):PT X (.UnaryOp .Not a pos) (bRt tA):=by
 intro pins s σ H Q I h;exact isTrue_not (ha pins s σ H (fun c H1=>Q (!c) H1) I h)
def bPh (ta tb:TE):TE:=fun σ H Q=>ta σ H fun x H1=> ∃c,x= .bl c/\if c=true then tb σ H1 Q else Q (.bl false) H1
theorem bMm {op}{t:TE}(h:PE X a t):PE X (.BoolOp op [a] pos) t:=fun pins s σ H Q I hw=>BoolOp_one (h pins s σ H Q I hw)
theorem bMq (ha:PE X a ta)(hb:PE X (.BoolOp .And (b::rest) pos) tb):PE X (.BoolOp .And (a::b::rest) pos) (bPh ta tb):=by
 intro pins s σ H Q I h;refine BoolOp_and (thn (ha pins s σ H _ I h) fun v s1 ⟨x,H1,I1,r1,q1⟩=> ?_);obtain⟨c,rfl,q1⟩:=q1;cases r1;refine wpAny_truthy_bool ?_;cases c with
 | true=>exact hb pins s1 σ H1 Q I1 q1
 | false=>exact⟨.bl false,H1,I1,rfl,q1⟩
def tIf (t:TT)(ta tb:TE):TE:=fun σ H Q=>t σ H fun c H1=>if c=true then ta σ H1 Q else tb σ H1 Q
theorem bEg {c:Expr}(hc:PT X c tA)(ha:PE X a ta)(hb:PE X b tb):PE X (.IfExp c a b pos) (tIf tA ta tb):=by
 intro pins s σ H Q I h;refine wpAny_IfExp (thn (hc pins s σ H _ I h) fun d s1 ⟨H1,I1,q1⟩=> ?_);cases d with
 | true=>exact ha pins s1 σ H1 Q I1 q1
 | false=>exact hb pins s1 σ H1 Q I1 q1
end
def SqL (K:Qa)(H:Hp)(a:Addr)(xs:List V):Prop:=
 Rd H a (.lst xs)\/
  ∃(o:Obj) (its:Array Qc) (n:Nat),K.lookup a=some o/\o.cls= .type "list"/\o.dict=none/\o.data= .seq its n/\its.size<=Q0/\Vals xs its.toList
def SqT (K:Qa)(H:Hp)(a:Addr)(xs:List V):Prop:=
 Rd H a (.tup xs)\/
  ∃(o:Obj) (its:Array Qc) (n:Nat),K.lookup a=some o/\o.cls= .type "tuple"/\o.dict=none/\o.data= .seq its n/\its.size<=Q0/\Vals xs its.toList
def bS0:Qc->Option V
 | .none=>some .non
 | .bool b=>some (.bl b)
 | .int i _=>some (.int i)
 | .str x _=>some (.str x)
 | .bytes b _=>some (.byt b)
 | .float b _=>some (.flt b)
 | .ref a=>some (.ref a)
 | .type n=>some (.ty n)
 | _=>none
theorem RelV.abs {x:V}{u:Qc}(r:RelV x u):bS0 u=some x:=by
 cases x with
 | non=>cases r;rfl
 | bl _=>cases r;rfl
 | int _=>obtain⟨t,rfl⟩:=r;rfl
 | str _=>obtain⟨t,rfl⟩:=r;rfl
 | byt _=>obtain⟨t,rfl⟩:=r;rfl
 | flt _=>obtain⟨t,rfl⟩:=r;rfl
 | ref _=>cases r;rfl
 | ty _=>cases r;rfl
theorem RelV.inj {x y:V}{u:Qc}(r:RelV x u)(q:RelV y u):x=y:=Option.some.inj (r.abs.symm.trans q.abs)
theorem Vals.inj: ∀{xs ys:List V} {us:List Qc},Vals xs us->Vals ys us->xs=ys
 | _,_,_,.nil,.nil=>rfl
 | _,_,_,.cons r t,.cons r' t'=>by rw[r.inj r',Vals.inj t t']
section
variable {X:Cx}{pins:List (Addr×Obj)}{σ:St}{H:Hp}{s:Qe}{a:Addr}{xs ys:List V}
theorem SqL.of {K:Qa}(h:H a=some (.lst xs)):SqL K H a xs:= .inl (.inl h)
theorem SqT.of {K:Qa}(h:H a=some (.tup xs)):SqT K H a xs:= .inl (.inl h)
theorem Inv.list (I:Inv X pins σ H s)(h:SqL X.K H a xs): ∃its:List Qc,Vals xs its/\PlainL s.heap a its.toArray/\xs.length<=Q0:=by
 rcases h with h |⟨o,its,n,hk,hc,hd,hs,hz,r⟩
 ·obtain⟨z,its,n,r,e⟩:=h.ok I.hok
  exact⟨its,r,⟨_,n,e,rfl,rfl,rfl⟩,z⟩
 ·refine⟨its.toList,r,⟨o,n,I.kIn a o hk,hc,hd,by simpa using hs⟩,?_⟩
  have e:=r.length;simp only[Zt] at e;omega
theorem Inv.tuple (I:Inv X pins σ H s)(h:SqT X.K H a xs): ∃its:List Qc,Vals xs its/\IsTup s.heap a its.toArray/\xs.length<=Q0:=by
 rcases h with h |⟨o,its,n,hk,hc,_,hs,hz,r⟩
 ·obtain⟨z,its,r,p⟩:=h.ok I.hok
  exact⟨its,r,p.tup,z⟩
 ·refine⟨its.toList,r,⟨o,I.kIn a o hk,hc,n,by simpa using hs⟩,?_⟩
  have e:=r.length;simp only[Zt] at e;omega
theorem Inv.bE0 (I:Inv X pins σ H s)(h:SqL X.K H a xs)(h':SqL X.K H a ys):xs=ys:=by
 obtain⟨its,r,⟨o,n,e,_,_,d⟩,_⟩:=I.list h;obtain⟨its',r',⟨o',n',e',_,_,d'⟩,_⟩:=I.list h';rw[e] at e';cases e';rw[d] at d'
 injection d' with d1 _
 have:its=its':=by simpa using congrArg Array.toList d1
 subst this;exact r.inj r'
theorem Inv.aZk (I:Inv X pins σ H s)(h:SqT X.K H a xs)(h':SqT X.K H a ys):xs=ys:=by
 obtain⟨its,r,⟨o,e,_,n,d⟩,_⟩:=I.tuple h;obtain⟨its',r',⟨o',e',_,n',d'⟩,_⟩:=I.tuple h';rw[e] at e';cases e';rw[d] at d'
 injection d' with d1 _
 have:its=its':=by simpa using congrArg Array.toList d1
 subst this;exact r.inj r'
end
abbrev Cx.wish (X:Cx)(E:Qc->Qe->Prop):Cx:={X with xe:=E}
abbrev Cx.nox (X:Cx):Cx:=X.wish fun _ _=>False
theorem Cx.Ok.wish {X:Cx}(ok:X.Ok)(E:Qc->Qe->Prop):(X.wish E).Ok:=
 ⟨ok.mod,ok.kind,ok.glob,ok.blt,ok.above,ok.inj,ok.has,ok.cab,ok.hd,ok.frames,ok.stk,ok.exf,ok.bs,ok.bsz,ok.bG4,ok.bFs,ok.aRq,ok.frf⟩
theorem Cx.Ok.aLr {X:Cx}{E:Qc->Qe->Prop}(ok:(X.wish E).Ok):X.Ok:=
 ⟨ok.mod,ok.kind,ok.glob,ok.blt,ok.above,ok.inj,ok.has,ok.cab,ok.hd,ok.frames,ok.stk,ok.exf,ok.bs,ok.bsz,ok.bG4,ok.bFs,ok.aRq,ok.frf⟩
section
variable {X:Cx}{pins:List (Addr×Obj)}{σ:St}{H:Hp}{s:Qe}{E:Qc->Qe->Prop}
theorem Inv.wish (I:Inv X pins σ H s)(E:Qc->Qe->Prop):Inv (X.wish E) pins σ H s:=⟨I.ok.wish E,I.os,I.bare,I.base,I.loc,I.cell,I.free,I.aHz,I.pin,I.hok,I.len⟩
theorem Inv.aLr (I:Inv (X.wish E) pins σ H s):Inv X pins σ H s:=⟨I.ok.aLr,I.os,I.bare,I.base,I.loc,I.cell,I.free,I.aHz,I.pin,I.hok,I.len⟩
theorem SP.aLr {D:Ends}{f:Flow}{s':Qe}(h:SP (X.wish E) pins D f s'):SP X pins D f s':=by
 cases f with
 | next=>obtain⟨σ',H',I,q⟩:=h;exact⟨σ',H',I.aLr,q⟩
 | brk=>obtain⟨σ',H',I,q⟩:=h;exact⟨σ',H',I.aLr,q⟩
 | cont=>obtain⟨σ',H',I,q⟩:=h;exact⟨σ',H',I.aLr,q⟩
 | ret u=>obtain⟨v,σ',H',I,r,q⟩:=h;exact⟨v,σ',H',I.aLr,r,q⟩
theorem PSs.nox {st:List Stmt}{t:TS}(h:PSs X.nox st t):PSs X st t:=fun pins s σ H D I hw=>
 Yq (h pins s σ H D (I.wish _) hw) (fun _ _ q=>q.aLr) fun _ _ z=>Qd z
end
section
variable {X:Cx}{st:Stmt}{rest:List Stmt}{t u:TS}{e:Expr}{te:TE}{pos:Pos}
def bPd:TS:=fun D σ H=>D.nx σ H
def bRr (t u:TS):TS:=fun D σ H=>t {D with nx:=u D} σ H
theorem bAh:PSs X [] bPd:=fun _ _ σ H _ I h=>wpAny_execs_nil ⟨σ,H,I,h⟩
theorem aQu (h1:PS X st t)(h2:PSs X rest u):PSs X (st::rest) (bRr t u):=by
 intro pins s σ H D I h;refine wpAny_execs_cons (thn (h1 pins s σ H {D with nx:=u D} I h) fun f s1 q=> ?_);cases f with
 | next=>
  obtain⟨σ',H',I',q⟩:=q;exact h2 pins s1 σ' H' D I' q
 | ret v=>exact q
 | brk=>exact q
 | cont=>exact q
theorem Inv.quiet {pins:List (Addr×Obj)}{σ:St}{H:Hp}{s:Qe}(I:Inv X pins σ H s):interactive X.env=false:=by simp[interactive,I.ok.kind]
def bPe (te:TE):TS:=fun D σ H=>te σ H fun _ H1=>D.nx σ H1
theorem aQv (he:PE X e te)(hs:Yr e none pos.line X.env=pure false:=by rfl):PS X (.Expr e pos) (bPe te):=by
 intro pins s σ H D I h;exact wpAny_Expr_any (thn (he pins s σ H _ I h) fun v s1 ⟨x,H1,I1,r1,q1⟩=>⟨σ,H1,I1,q1⟩) I.quiet hs
def bRs (te:TE):TS:=fun D σ H=>te σ H D.rt
theorem bGu (he:PE X e te):PS X (.Return (some e) pos) (bRs te):=by
 intro pins s σ H D I h;exact wpAny_Return_some (thn (he pins s σ H _ I h) fun v s1 ⟨x,H1,I1,r1,q1⟩=>⟨x,σ,H1,I1,r1,q1⟩)
def bRw (c:TT)(t u:TS):TS:=fun D σ H=>c σ H fun b H1=>if b=true then t D σ H1 else u D σ H1
theorem bPv {c:Expr}{a b:List Stmt}{tc:TT}(hc:PT X c tc)(ha:PSs X a t)(hb:PSs X b u):PS X (.If c a b pos) (bRw tc t u):=by
 intro pins s σ H D I h;refine wpAny_If (thn (hc pins s σ H _ I h) fun d s1 ⟨H1,I1,q1⟩=> ?_);cases d with
 | true=>exact ha pins s1 σ H1 D I1 q1
 | false=>exact hb pins s1 σ H1 D I1 q1
end
abbrev TG:=V->St->Hp->(St->Hp->Prop)->Prop
abbrev TGs:=List V->St->Hp->(St->Hp->Prop)->Prop
def PG (X:Cx)(target:Expr)(t:TG):Prop:=
 ∀(pins:List (Addr×Obj)) (s:Qe) (σ:St) (H:Hp) (v:V) (u:Qc) (Q:St->Hp->Prop),Inv X pins σ H s->RelV v u->t v σ H Q->
  Qs (Qp X.prog X.w) X.A (assign target X.env u) (fun _ s'=> ∃σ' H',Inv X pins σ' H' s'/\Q σ' H') X.xe s
def PGs (X:Cx)(ts:List Expr)(t:TGs):Prop:=
 ∀(pins:List (Addr×Obj)) (s:Qe) (σ:St) (H:Hp) (vs:List V) (us:List Qc) (Q:St->Hp->Prop),Inv X pins σ H s->Vals vs us->t vs σ H Q->
  Qs (Qp X.prog X.w) X.A (assignInOrder ((assignEach ts X.env).map (·.2)) us) (fun _ s'=> ∃σ' H',Inv X pins σ' H' s'/\Q σ' H') X.xe s
abbrev bS3:=V->V->V->Hp->(Hp->Prop)->Prop
section
variable {X:Cx}{pos:Pos}
def bN6 (i:Nat):TG:=fun v σ H Q=>Q (σ.set i (some v)) H
theorem aQx {i:Nat}{x:Str}(hN:X.N.Nodup)(hi:X.N[i]? =some x)(hx:Loc X.env.scope x)(hf:X.fn x=true\/X.env.scope.names.lookup x=some .local:=by first | exact .inl rfl | exact .inr rfl | assumption):PG X (.Name x pos) (bN6 i):=by
 intro pins s σ H v u Q I r h;exact wpAny_assign_Name (aJ5 I hN hi hx r (fun s' I'=>⟨_,H,I',h⟩) hf)
def bSx:TGs:=fun vs σ H Q=>vs=[]/\Q σ H
def bQl (t:TG)(u:TGs):TGs:=fun vs σ H Q=> ∃v r,vs=v::r/\t v σ H fun σ' H'=>u r σ' H' Q
theorem bIq:PGs X [] bSx:=by
 intro pins s σ H vs us Q I r h;obtain⟨e,h⟩:=h;subst e;cases r;exact assignInOrder_nil ⟨σ,H,I,h⟩
theorem aWq {e:Expr}{es:List Expr}{t:TG}{u:TGs}(h1:PG X e t)(h2:PGs X es u)
  (hs:(assignEach (e::es) X.env).map (·.2)=assign e X.env::(assignEach es X.env).map (·.2):=by rfl):PGs X (e::es) (bQl t u):=by
 intro pins s σ H vs us Q I r h;obtain⟨v,vr,e1,h⟩:=h;subst e1;cases r with
 | cons r rr=>
  rw[hs];refine assignInOrder_cons (thn (h1 pins s σ H _ _ _ I r h) fun _ s1 ⟨σ1,H1,I1,q1⟩=> ?_);exact h2 pins s1 σ1 H1 _ _ Q I1 rr q1
def bSw (K:Qa)(n:Nat)(t:TGs):TG:=fun v σ H Q=> ∃a xs,v= .ref a/\SqT K H a xs/\xs.length=n/\t xs σ H Q
theorem bMk {es:List Expr}{k:Nat}{t:TGs}{n:Nat}(hc:X.calm=true)(h:PGs X es t)
  (hn:(assignEach es X.env).length=n:=by rfl) (hst:(assignEach es X.env).findIdx? (·.1)=none:=by rfl):PG X (.Tuple es k pos) (bSw X.K n t):=by
 intro pins s σ H v u Q I r hw;obtain⟨a,xs,e1,hq,hl,hw⟩:=hw;subst e1;cases r;obtain⟨its,rv,ht,hz⟩:=I.tuple hq;refine assign_Tuple_tuple (I.ok.hd hc) ht (by simp[hn,<-hl,rv.length]) hst fun h' hx=> ?_
 have I1:Inv X pins σ H {s with heap:=h'}:=I.kept (t':=s.toks) fun b o e=>hx b o (Q1 (Qo e)) e
 exact h pins _ σ H xs _ Q I1 (by simpa using rv) hw
def bKa (to ti:TE)(t:bS3):TG:=fun v σ H Q=>to σ H fun o H1=>ti σ H1 fun i H2=>t o i v H2 fun H3=>Q σ H3
def bRz (te:TE)(g:TG):TS:=fun D σ H=>te σ H fun x H1=>g x σ H1 D.nx
theorem aM7 {i:Nat}{x:Str}{e:Expr}{te:TE}{pos':Pos}(hN:X.N.Nodup)(hi:X.N[i]? =some x)(hx:Loc X.env.scope x)(he:PE X e te)(hs:Yr e (some (.Name x pos')) pos.line X.env=pure false:=by rfl)(hf:X.fn x=true\/X.env.scope.names.lookup x=some .local:=by first | exact .inl rfl | exact .inr rfl | assumption):
  PS X (.Assign [.Name x pos'] e pos) (bRz te (bN6 i)):=by
 intro pins s σ H D I h;refine wpAny_Assign_Name (thn (he pins s σ H _ I h) fun v s1 ⟨y,H1,I1,r1,q1⟩=> ?_) hs;exact aJ5 I1 hN hi hx r1 (fun s2 I2=>⟨_,H1,I2,q1⟩) hf
end
section
variable {X:Cx}{pos:Pos}
def bLm (c:TT)(tb:TS):TS:=fun D σ H=> ∃W:Nat->St->Hp->Prop,(∃m,W m σ H)/\∀m σ H,W m σ H->
 c σ H fun b H1=>if b=true then∃N:St->Hp->Prop,(∀σ' H',N σ' H'->∃m',m'<m/\W m' σ' H')/\tb {D with nx:=N,ct:=N,bk:=D.nx} σ H1 else D.nx σ H1
theorem bEa {c:Expr}{body:List Stmt}{tc:TT}{tb:TS}(hp:PassesOwn (Qp X.prog X.w) X.A X.env X.xe)(hc:PT X c tc)(hb:PSs X body tb):PS X (.While c body [] pos) (bLm tc tb):=by
 intro pins s σ H D I h;obtain⟨W,⟨m0,w0⟩,turn⟩:=h;refine wpAny_While (codeAny_whileLoop (fun n s'=> ∃σ' H',Inv X pins σ' H' s'/\W n σ' H') ?_ m0 ⟨σ,H,I,w0⟩)
 rintro n s1 ⟨σ1,H1,I1,w1⟩
 refine Jr hp (thn (hc pins s1 σ1 H1 _ I1 (turn n σ1 H1 w1)) fun b s2 ⟨H2,I2,q2⟩=> ?_);cases b with
 | true=>
  obtain⟨N,hN,q2⟩:=q2;rw[if_pos rfl];refine Jr hp (thn (hb pins s2 σ1 H2 _ I2 q2) fun f s3 q3=> ?_);cases f with
  | next=>
   obtain⟨σ3,H3,I3,n3⟩:=q3;obtain⟨m',hm,w3⟩:=hN σ3 H3 n3;exact⟨m',hm,σ3,H3,I3,w3⟩
  | cont=>
   obtain⟨σ3,H3,I3,n3⟩:=q3;obtain⟨m',hm,w3⟩:=hN σ3 H3 n3;exact⟨m',hm,σ3,H3,I3,w3⟩
  | brk=>exact q3
  | ret v=>exact q3
 | false=>
  rw[if_neg Q7];exact wpAny_execs_nil ⟨σ1,H2,I2,q2⟩
end
structure It where
 go:Nat->Hp->Prop
 yld:Nat->Hp->V->Hp->Prop
 stop:Nat->Hp->Prop
def bC6 (X:Cx)(pins:List (Addr×Obj))(H:Hp)(b:Addr):Prop:=
 H b=none/\b≠X.env.locals/\b∉X.fs/\(b∈X.ex\/X.s₀.heap.objs.size<=b)/\(∀x c,X.env.cells.lookup x=some c->c≠b)/\∀p∈X.pn++pins,p.1≠b
theorem Inv.bHl {X:Cx}{pins:List (Addr×Obj)}{σ:St}{H H':Hp}{s:Qe}{b:Addr}(I:Inv X pins σ H s)(hb:s.heap.objs.size<=b)(hn:H' b=none):bC6 X pins H' b:=by
 refine⟨hn,Ue (Q2 I.lt hb),I.bSi hb,.inr (Z2 I.sz hb),fun x c e z=> ?_,fun p hp z=> ?_⟩
 ·obtain⟨v,q⟩:=I.cell x c e
  exact absurd (Q2 q.lt (by rw[z];exact hb)) (Jn _)
 ·exact absurd (Q2 (Qo (I.pin p hp).1) (by rw[z];exact hb)) (Jn _)
structure Turn (P:Qv)(w:Q8)(K:Qa)(tg:Expr)(J:It)(fp:List Addr)(it:Addr)(tn:Nat->Heap->Prop):Prop where
 mem:it∈fp
 obj: ∀i h,tn i h->∀b∈fp,∃o,h.get? b=some o/\∀v,o.data≠ .cell v
 keep: ∀i h h',tn i h->(∀b∈fp,∀o,h.get? b=some o->h'.get? b=some o)->tn i h'
 item: ∀(X:Cx),X.prog=P->X.w=w->X.K=K->X.calm=true->∀(i:Nat) (pins:List (Addr×Obj)) (s:Qe) (σ:St) (H:Hp) (E:Qc->Qe->Prop),Inv X pins σ H s->(∀b∈fp,bC6 X pins H b)->tn i s.heap->J.go i H->
  Qs (Qp P w) X.A (pyNext (.ref it)) (fun r s1=> ∃u,r=some u/\
   Qs (Qp P w) X.A (letOwnedTupleGo tg (.ref it) u) (fun _ s2=> ∃x H',Inv X pins σ H' s2/\RelV x u/\J.yld i H x H'/\tn (i+1) s2.heap/\∀b∈fp,H' b=none) E s1) E s
 done: ∀(X:Cx),X.prog=P->X.w=w->X.K=K->X.calm=true->∀(i:Nat) (pins:List (Addr×Obj)) (s:Qe) (σ:St) (H:Hp) (E:Qc->Qe->Prop),Inv X pins σ H s->(∀b∈fp,bC6 X pins H b)->tn i s.heap->J.stop i H->
  Qs (Qp P w) X.A (pyNext (.ref it)) (fun r s1=>r=none/\Inv X pins σ H s1) E s
 self: ∀(A:Zb) (i:Nat) (s:Qe) (Q:Qc->Qe->Prop) (E:Qc->Qe->Prop),tn i s.heap->Q (.ref it) s->Qs (Qp P w) A (pyIter (.ref it)) Q E s
abbrev TI:=St->Hp->(It->Hp->Prop)->Prop
def PIE (X:Cx)(pins:List (Addr×Obj))(σ:St)(tg:Expr)(R:It->Hp->Prop)(itv:Qc)(s2:Qe):Prop:=
 ∃(it:Addr) (fp:List Addr) (tn:Nat->Heap->Prop) (J:It) (H':Hp),itv= .ref it/\Inv X pins σ H' s2/\Turn X.prog X.w X.K tg J fp it tn/\tn 0 s2.heap/\(∀b∈fp,bC6 X pins H' b)/\R J H'
def PI (X:Cx)(tg iter:Expr)(wi:TI):Prop:=
 ∀(pins:List (Addr×Obj)) (s:Qe) (σ:St) (H:Hp) (R:It->Hp->Prop),Inv X pins σ H s->wi σ H R->
  Qs (Qp X.prog X.w) X.A (eval iter X.env) (fun v s1=>Qs (Qp X.prog X.w) X.A (pyIter v) (PIE X pins σ tg R) X.xe s1) X.xe s
theorem bFk {M:Model}{A:Zb}{E:Qc->Qe->Prop}{s:Qe}{tg:Expr}{it:Addr}{u:Qc}{o:Obj}{n:String}{vs:Array Qc}{Q:Unit->Qe->Prop}(ho:s.heap.get? it=some o)(hc:o.cls= .type n)(hd:o.data= .fields vs)
  (hn:["enumerate","zip","dict_itemiterator","dict_reverseitemiterator","odict_iterator","itertools.zip_longest","itertools.pairwise"].contains n=false) (hQ:Q () s):Qs M A (letOwnedTupleGo tg (.ref it) u) Q E s:=by
 unfold letOwnedTupleGo;cases tg<;>first
  | exact Qf hQ
  |(cases u<;>first
    | exact Qf hQ
    |(refine Qb (wpAny_load ho ?_)
      rw[hc,hd];show Qs M A (if (["enumerate","zip","dict_itemiterator","dict_reverseitemiterator","odict_iterator","itertools.zip_longest","itertools.pairwise"].contains n&&vs[0]? ==some (Zq _))=true then _ else _) Q E s;rw[if_neg (by intro h;rw[hn,J3] at h;cases h)];exact Qf hQ))
def Itl (K:Qa)(a:Addr):It:=
 ⟨fun i H=> ∃xs x,SqL K H a xs/\xs[i]? =some x,fun i H x H'=>H'=H/\∀xs,SqL K H a xs->xs[i]? =some x,fun i H=> ∃xs,SqL K H a xs/\xs.length<=i⟩
def Itt (K:Qa)(a:Addr):It:=
 ⟨fun i H=> ∃xs x,SqT K H a xs/\xs[i]? =some x,fun i H x H'=>H'=H/\∀xs,SqT K H a xs->xs[i]? =some x,fun i H=> ∃xs,SqT K H a xs/\xs.length<=i⟩
def Itr (lo:Int)(n:Nat):It:=⟨fun i _=>i<n,fun i H x H'=>H'=H/\x= .int (lo+i),fun i _=>n<=i⟩
theorem aZj {P:Qv}{w:Q8}{K:Qa}{tg:Expr}(a it:Addr):Turn P w K tg (Itl K a) [it] it (fun i h=>h.IsListIter it a i) where
 mem:=by simp
 obj:=fun i h st b hb=>by
  have e:b=it:=by simpa using hb
  subst e;obtain⟨o,e,c,d⟩:=st;exact⟨o,e,fun v z=>by rw[d] at z;cases z⟩
 keep:=fun i h h' st k=>st.at fun o e=>k it (by simp) o e
 item:=by
  intro X hP hw hK hc i pins s σ H E I hf st hg;subst hP hw hK;obtain⟨xs,x,hq,hx⟩:=hg;obtain⟨its,rv,p,hz⟩:=I.list hq;obtain⟨u,hu,ru⟩:=rv.get hx;obtain⟨f0,f1,f2,f3,f4,f5⟩:=hf it (by simp);refine wpAny_pyNext_list_item st p.isList (x:=u) (by simpa using hu) fun h' st' sb=> ?_
  have I1:Inv X pins σ H {s with heap:=h'}:=I.turned (t':=s.toks) (fun b o hb e=>(sb.2 b hb).trans e) f0 f1 f3 f4 f5;obtain⟨o,e,c,d⟩:=id st';exact⟨u,rfl,bFk (s:={s with heap:=h'}) e c d (by decide) ⟨x,H,I1,ru,⟨rfl,fun ys hy=>by rw[I.bE0 hy hq];exact hx⟩,st',fun b hb=>(hf b hb).1⟩⟩
 done:=by
  intro X hP hw hK hc i pins s σ H E I hf st hg;subst hP hw hK;obtain⟨xs,hq,hx⟩:=hg;obtain⟨its,rv,p,hz⟩:=I.list hq;obtain⟨f0,f1,f2,f3,f4,f5⟩:=hf it (by simp);have hl:=rv.length;exact wpAny_pyNext_list_end (I.ok.hd hc) st p.isList (by simp;omega) fun h' eb=>⟨rfl,I.turned (t':=s.toks) (fun b o hb e=>eb b o hb e) f0 f1 f3 f4 f5⟩
 self:=fun _ _ _ _ _ st h=>wpAny_pyIter_listiter st h
theorem aXv {P:Qv}{w:Q8}{K:Qa}{tg:Expr}(a it:Addr):Turn P w K tg (Itt K a) [it] it (fun i h=>h.IsTupleIter it a i) where
 mem:=by simp
 obj:=fun i h st b hb=>by
  have e:b=it:=by simpa using hb
  subst e;obtain⟨o,e,c,d⟩:=st;exact⟨o,e,fun v z=>by rw[d] at z;cases z⟩
 keep:=fun i h h' st k=>st.at fun o e=>k it (by simp) o e
 item:=by
  intro X hP hw hK hc i pins s σ H E I hf st hg;subst hP hw hK;obtain⟨xs,x,hq,hx⟩:=hg;obtain⟨its,rv,p,hz⟩:=I.tuple hq;obtain⟨u,hu,ru⟩:=rv.get hx;obtain⟨f0,f1,f2,f3,f4,f5⟩:=hf it (by simp);refine wpAny_pyNext_tuple_item st (show s.heap.IsTuple a its.toArray from p) (x:=u) (by simpa using hu) fun h' st' sb=> ?_
  have I1:Inv X pins σ H {s with heap:=h'}:=I.turned (t':=s.toks) (fun b o hb e=>(sb.2 b hb).trans e) f0 f1 f3 f4 f5;obtain⟨o,e,c,d⟩:=id st';exact⟨u,rfl,bFk (s:={s with heap:=h'}) e c d (by decide) ⟨x,H,I1,ru,⟨rfl,fun ys hy=>by rw[I.aZk hy hq];exact hx⟩,st',fun b hb=>(hf b hb).1⟩⟩
 done:=by
  intro X hP hw hK hc i pins s σ H E I hf st hg;subst hP hw hK;obtain⟨xs,hq,hx⟩:=hg;obtain⟨its,rv,p,hz⟩:=I.tuple hq;obtain⟨f0,f1,f2,f3,f4,f5⟩:=hf it (by simp);have hl:=rv.length;exact wpAny_pyNext_tuple_end (I.ok.hd hc) st (show s.heap.IsTuple a its.toArray from p) (by simp;omega) fun h' eb=>⟨rfl,I.turned (t':=s.toks) (fun b o hb e=>eb b o hb e) f0 f1 f3 f4 f5⟩
 self:=fun _ _ _ _ _ st h=>wpAny_pyIter_tupleiter st h
theorem aXw {P:Qv}{w:Q8}{K:Qa}{tg:Expr}(it:Addr)(lo:Int)(n:Nat):Turn P w K tg (Itr lo n) [it] it (fun i h=>IsRangeIter h it (lo+(i:Nat)*1) ((n:Int)-(i:Nat)) 1) where
 mem:=by simp
 obj:=fun i h st b hb=>by
  have e:b=it:=by simpa using hb
  subst e;exact⟨_,st,fun v z=>by
   have z':Data.fields _=Data.cell v:=z;cases z'⟩
 keep:=fun i h h' st k=>k it (by simp) _ st
 item:=by
  intro X hP hw hK hc i pins s σ H E I hf st hg;subst hP hw hK;obtain⟨f0,f1,f2,f3,f4,f5⟩:=hf it (by simp);have W:=Walks.range (prog:=X.prog) (w:=X.w) (I.ok.hd hc) it lo 1 n;refine W.item i s _ _ hg st fun v h' tk hv st' kk=> ?_
  obtain⟨t,rfl⟩:=hv;have I1:Inv X pins σ H {s with heap:=h',toks:=tk}:=I.turned (fun b o hb e=>kk b o (by simpa using hb) e) f0 f1 f3 f4 f5;refine⟨_,rfl,bFk (s:={s with heap:=h',toks:=tk}) (n:="range_iterator") st' rfl rfl (by decide) ⟨.int (lo+i),H,I1,⟨t,?_⟩,⟨rfl,rfl⟩,st',fun b hb=>(hf b hb).1⟩⟩;rw[Int.mul_one]
 done:=by
  intro X hP hw hK hc i pins s σ H E I hf st hg;subst hP hw hK;obtain⟨f0,f1,f2,f3,f4,f5⟩:=hf it (by simp);exact wpAny_pyNext_range_end (I.ok.hd hc) st (by have:n<=i:=hg;omega) fun h' eb=>⟨rfl,I.turned (t':=s.toks) (fun b o hb e=>eb b o hb e) f0 f1 f3 f4 f5⟩
 self:=fun _ _ _ _ _ st h=>wpAny_pyIter_rangeiter st h
section
variable {X:Cx}{tg:Expr}
theorem aWn {pins:List (Addr×Obj)}{σ:St}{H:Hp}{s:Qe}{R:It->Hp->Prop}{E:Qc->Qe->Prop}{lo hi:Int}{t u v:Tok}{tk:Nat}(I:Inv X pins σ H s)(h1: -(2^62)<=lo)(h2:lo<2^62)(h3: -(2^62)<=hi)(h4:hi<2^62)
  (q:R (Itr lo (hi-lo).toNat) H):Qs (Qp X.prog X.w) X.A (pyIter (.ref s.heap.objs.size)) (PIE X pins σ tg R) E {s with heap:=s.heap.push {cls:= .type "range",data:= .fields #[.int lo t,.int hi u,.int 1 v]},toks:=tk}:=by
 refine wpAny_pyIter_range (IsRange.new ..) (small_one h1 h2 h3 h4) ?_;have I1:Inv X pins σ H {s with heap:=s.heap.push {cls:= .type "range",data:= .fields #[.int lo t,.int hi u,.int 1 v]},toks:=tk}:=I.kept fun b o e=>Qg _ e
 refine⟨(s.heap.push {cls:= .type "range",data:= .fields #[.int lo t,.int hi u,.int 1 v]}).objs.size,[(s.heap.push {cls:= .type "range",data:= .fields #[.int lo t,.int hi u,.int 1 v]}).objs.size],_,_,H,rfl,
  I1.kept (t':=tk) fun b o e=>Qg _ e,aXw _ lo (hi-lo).toNat,?_,fun b hb=> ?_,q⟩
 ·have e1:lo+((0:Nat):Int)*1=lo:=by simp
  have e2:(((hi-lo).toNat:Nat):Int)-((0:Nat):Int)=Zn lo hi 1:=by rw[rangeSize_one];split<;>omega
  show IsRangeIter _ _ (lo+((0:Nat):Int)*1) ((((hi-lo).toNat:Nat):Int)-((0:Nat):Int)) 1;rw[e1,e2];exact Qx _ rfl
 ·have e:b=(s.heap.push {cls:= .type "range",data:= .fields #[.int lo t,.int hi u,.int 1 v]}).objs.size:=by simpa using hb
  subst e;exact I1.bHl (Qr _) (I1.hok.fresh (Qr _))
def bQd (ta:TA):TI:=fun σ H R=>ta σ H fun vs H1=> ∃j:Int,vs=[.int j]/\ -(2^62)<=j/\j<2^62/\R (Itr 0 j.toNat) H1
def bQc (ta:TA):TI:=fun σ H R=>ta σ H fun vs H1=> ∃i j:Int,vs=[.int i,.int j]/\(-(2^62)<=i/\i<2^62/\ -(2^62)<=j/\j<2^62)/\R (Itr i (j-i).toNat) H1
theorem aM8 {a:Expr}{ta:TA}{p pos:Pos}(hg:Gl X "range")(hm:X.mg "range"=none)(ha:PA X [a] ta)(hs:Qu [a] X.env=[(false,eval a X.env)]:=by rfl):PI X tg (.Call (.Name "range" p) [a] [] pos) (bQd ta):=by
 intro pins s σ H R I h;refine Call_ (aL2 I hg hm boot_range (Z8 (thn (ha pos pins s σ H _ I h) fun us s1 ⟨vs,H1,I1,r1,q1⟩=> ?_) hs rfl));obtain⟨j,e,q1,q2,q⟩:=q1;subst e;cases r1 with
 | cons r rr=>
  cases rr;obtain⟨t,rfl⟩:=r;exact call_range_1 (aWn I1 (by omega) (by omega) q1 q2 (by simpa using q))
theorem bAk {a b:Expr}{ta:TA}{p pos:Pos}(hg:Gl X "range")(hm:X.mg "range"=none)(ha:PA X [a,b] ta)(hs:Qu [a,b] X.env=[(false,eval a X.env),(false,eval b X.env)]:=by rfl)(hs2:Qu [b] X.env=[(false,eval b X.env)]:=by rfl):
  PI X tg (.Call (.Name "range" p) [a,b] [] pos) (bQc ta):=by
 intro pins s σ H R I h;refine Call_ (aL2 I hg hm boot_range (Z8 (thn (ha pos pins s σ H _ I h) fun us s1 ⟨vs,H1,I1,r1,q1⟩=> ?_) (by rw[hs,hs2]) (by rw[hs2];rfl)));obtain⟨i,j,e,⟨q1,q2,q3,q4⟩,q⟩:=q1;subst e;cases r1 with
 | cons r rr=>
  cases rr with
  | cons r' rr=>
   cases rr;obtain⟨t,rfl⟩:=r;obtain⟨t',rfl⟩:=r';exact call_range_2 (aWn I1 q1 q2 q3 q4 q)
def bRx (wi:TI)(g:TG)(tb:TS):TS:=fun D σ H=>wi σ H fun J H1=> ∃W:Nat->Nat->St->Hp->Prop,(∃m,W 0 m σ H1)/\∀i m σ H,W i m σ H->
 (J.stop i H/\D.nx σ H)\/(J.go i H/\∃N:St->Hp->Prop,(∀σ' H',N σ' H'->∃m',m'<m/\W (i+1) m' σ' H')/\∀x H',J.yld i H x H'->g x σ H' fun σ2 H2=>tb {D with nx:=N,ct:=N,bk:=D.nx} σ2 H2)
def aPt (fp:List Addr)(h:Heap):List (Addr×Obj):=fp.filterMap fun b=>(h.get? b).map fun o=>(b,o)
theorem aIq {fp:List Addr}{h:Heap}{b:Addr}{o:Obj}(hb:b∈fp)(e:h.get? b=some o):(b,o)∈aPt fp h:=List.mem_filterMap.mpr ⟨b,hb,by rw[e];rfl⟩
theorem bA2 {fp:List Addr}{h:Heap}{p:Addr×Obj}(hp:p∈aPt fp h):p.1∈fp/\h.get? p.1=some p.2:=by
 obtain⟨b,hb,e⟩:=List.mem_filterMap.mp hp;cases q:h.get? b with
 | none=>rw[q] at e;cases e
 | some o=>
  rw[q] at e;have e':(b,o)=p:=Option.some.inj e;subst e';exact⟨hb,q⟩
theorem Inv.pinned {pins:List (Addr×Obj)}{σ:St}{H:Hp}{s:Qe}{fp:List Addr}(I:Inv X pins σ H s)(hf: ∀b∈fp,bC6 X pins H b)(ho: ∀b∈fp,∃o,s.heap.get? b=some o/\∀v,o.data≠ .cell v):Inv X (pins++aPt fp s.heap) σ H s:=
 I.aQw fun p hp=>(List.mem_append.mp hp).elim (fun z=>I.pin p (Zd _ z)) fun z=>by
  obtain⟨hb,e⟩:=bA2 z;obtain⟨f0,f1,f2,_⟩:=hf p.1 hb;obtain⟨o,e',d⟩:=ho p.1 hb;rw[e] at e';cases e';exact⟨e,f0,f1,f2,d⟩
theorem Inv.aQf {pins pl:List (Addr×Obj)}{σ:St}{H:Hp}{s:Qe}(I:Inv X (pins++pl) σ H s):Inv X pins σ H s:=I.aQw fun p hp=>I.pin p (Zd _ (Yy _ hp))
theorem bMf {iter:Expr}{body:List Stmt}{wi:TI}{g:TG}{tb:TS}{pos:Pos}(hp:PassesOwn (Qp X.prog X.w) X.A X.env X.xe)(hc:X.calm=true)(hi:PI X tg iter wi)(hg:PG X tg g)(hb:PSs X body tb)
  (hs: ∀x,Zp iter X.env x=pure x:=by intro _;rfl):PS X (.For tg iter body [] pos) (bRx wi g tb):=by
 intro pins s σ H D I h;refine wpAny_For (thn (hi pins s σ H _ I h) fun v s1 h1=>thn h1 fun itv s2 h2=> ?_) hs;obtain⟨it,fp,tn,J,H2,e,I2,T,st2,f2,W,⟨m0,w0⟩,turn⟩:=h2;subst e;have stat: ∀{H':Hp},(∀b∈fp,H' b=none)->∀b∈fp,bC6 X pins H' b:=fun hn b hb=>⟨hn b hb,(f2 b hb).2⟩
 refine codeAny_forLoop_any (fun n s'=> ∃i σ' H',Inv X pins σ' H' s'/\tn i s'.heap/\(∀b∈fp,H' b=none)/\W i n σ' H') ?_ m0 ⟨0,σ,H2,I2,st2,fun b hb=>(f2 b hb).1,w0⟩
 rintro n s3 ⟨i,σ3,H3,I3,st3,fr3,w3⟩
 rcases turn i n σ3 H3 w3 with⟨stop,qn⟩ |⟨go,N,hN,step⟩
 ·refine Jr hp (thn (T.done X rfl rfl rfl hc i pins s3 σ3 H3 X.xe I3 (stat fr3) st3 stop) fun r s4 ⟨hr,I4⟩=> ?_)
  subst hr;exact wpAny_execs_nil ⟨σ3,H3,I4,qn⟩
 ·refine Jr hp (thn (T.item X rfl rfl rfl hc i pins s3 σ3 H3 X.xe I3 (stat fr3) st3 go) fun r s4 ⟨u,hr,h4⟩=> ?_)
  subst hr;refine Jr hp (thn h4 fun _ s5 ⟨x,H5,I5,r5,y5,st5,fr5⟩=> ?_);have I5':=I5.pinned (stat fr5) (T.obj _ _ st5);refine Jr hp (thn (hg _ s5 σ3 H5 x u _ I5' r5 (step x H5 y5)) fun _ s6 ⟨σ6,H6,I6,q6⟩=> ?_);refine Jr hp (thn (hb _ s6 σ6 H6 _ I6 q6) fun f s7 q7=> ?_);have again: ∀{σ7:St} {H7:Hp},Inv X (pins++aPt fp s5.heap) σ7 H7 s7->N σ7 H7->∃m,m<n/\∃i σ' H',Inv X pins σ' H' s7/\tn i s7.heap/\(∀b∈fp,H' b=none)/\W i m σ' H':=fun {σ7 H7} I7 n7=>by
   obtain⟨m',hm,w7⟩:=hN σ7 H7 n7;refine⟨m',hm,i+1,σ7,H7,I7.aQf,T.keep _ _ _ st5 fun b hb o e=>(I7.pin (b,o) (Zd _ (Zd _ (aIq hb e)))).1,fun b hb=> ?_,w7⟩;obtain⟨o,e,d⟩:=T.obj _ _ st5 b hb;exact (I7.pin (b,o) (Zd _ (Zd _ (aIq hb e)))).2.1
  cases f with
  | next=>obtain⟨σ7,H7,I7,n7⟩:=q7;exact again I7 n7
  | cont=>obtain⟨σ7,H7,I7,n7⟩:=q7;exact again I7 n7
  | brk=>obtain⟨σ7,H7,I7,q7⟩:=q7;exact⟨σ7,H7,I7.aQf,q7⟩
  | ret v=>obtain⟨x7,σ7,H7,I7,r7,q7⟩:=q7;exact⟨x7,σ7,H7,I7.aQf,r7,q7⟩
end
abbrev R2:=V->V->Hp->VK->Prop
def OpR (X:Cx)(f:Qc->Qc->Sem Qc)(r:R2):Prop:=
 ∀(pins:List (Addr×Obj)) (s:Qe) (σ:St) (H:Hp) (x y:V) (v u:Qc) (Q:VK),Inv X pins σ H s->RelV x v->RelV y u->r x y H Q->
  Qs (Qp X.prog X.w) X.A (f v u) (EP X pins σ Q) X.xe s
def UnR (X:Cx)(f:Qc->Sem Qc)(r:V->Hp->VK->Prop):Prop:=
 ∀(pins:List (Addr×Obj)) (s:Qe) (σ:St) (H:Hp) (x:V) (v:Qc) (Q:VK),Inv X pins σ H s->RelV x v->r x H Q->
  Qs (Qp X.prog X.w) X.A (f v) (EP X pins σ Q) X.xe s
def aHk (X:Cx)(f:Qc)(r:List V->Hp->VK->Prop):Prop:=
 ∀(pins:List (Addr×Obj)) (s:Qe) (σ:St) (H:Hp) (xs:List V) (us:List Qc) (Q:VK),Inv X pins σ H s->Vals xs us->r xs H Q->
  Qs (Qp X.prog X.w) X.A (call f us) (EP X pins σ Q) X.xe s
def bS2 (X:Cx)(r:V->Hp->(Bool->Hp->Prop)->Prop):Prop:=
 ∀(pins:List (Addr×Obj)) (s:Qe) (σ:St) (H:Hp) (x:V) (v:Qc) (Q:Bool->Hp->Prop),Inv X pins σ H s->RelV x v->r x H Q->
  Qs (Qp X.prog X.w) X.A (truthy v) (TP X pins σ Q) X.xe s
def tOp (r:R2)(ta tb:TE):TE:=fun σ H Q=>ta σ H fun x H1=>tb σ H1 fun y H2=>r x y H2 Q
def tUn (r:V->Hp->VK->Prop)(ta:TE):TE:=fun σ H Q=>ta σ H fun x H1=>r x H1 Q
def rI (C:Int->Int->Prop)(g:Int->Int->V):R2:=fun x y H Q=> ∃i j,x= .int i/\y= .int j/\C i j/\Q (g i j) H
def rI0 (g:Int->Int->V):R2:=fun x y H Q=> ∃i j,x= .int i/\y= .int j/\Q (g i j) H
def rU (g:Int->V):V->Hp->VK->Prop:=fun x H Q=> ∃i,x= .int i/\Q (g i) H
section
variable {X:Cx}{a b c:Expr}{ta tb tc:TE}{pos:Pos}
theorem bQv (ha:PE X a ta)(hb:PE X b tb){pins:List (Addr×Obj)}{s:Qe}{σ:St}{H:Hp}{R:V->V->Hp->Prop}(I:Inv X pins σ H s)
  (h:ta σ H fun x H1=>tb σ H1 fun y H2=>R x y H2) {Q:Qc->Qe->Prop} {f:Qc->Qc->Sem Qc}
  (hf: ∀v u s2 x y H2,Inv X pins σ H2 s2->RelV x v->RelV y u->R x y H2->Qs (Qp X.prog X.w) X.A (f v u) Q X.xe s2):
  Qs (Qp X.prog X.w) X.A (eval a X.env) (fun v s₁=>Qs (Qp X.prog X.w) X.A (eval b X.env) (fun u s₂=>Qs (Qp X.prog X.w) X.A (f v u) Q X.xe s₂) X.xe s₁) X.xe s:=by
 refine thn (ha pins s σ H _ I h) fun v s1 ⟨x,H1,I1,r1,q1⟩=> ?_
 refine thn (hb pins s1 σ H1 _ I1 q1) fun u s2 ⟨y,H2,I2,r2,q2⟩=> ?_
 exact hf v u s2 x y H2 I2 r1 r2 q2
theorem bPx {op:Operator}{r:R2}(ho:OpR X (binaryOp op) r)(ha:PE X a ta)(hb:PE X b tb):PE X (.BinOp a op b pos) (tOp r ta tb):=by
 intro pins s σ H Q I h;exact wpAny_BinOp (bQv ha hb I h fun v u s2 x y H2 I2 rx ry q=>ho pins s2 σ H2 x y v u Q I2 rx ry q)
theorem bPw {op:UnaryOp}{r:V->Hp->VK->Prop}(ho:UnR X (unaryOp op) r)(ha:PE X a ta):PE X (.UnaryOp op a pos) (tUn r ta):=by
 intro pins s σ H Q I h;exact UnaryOp_ (thn (ha pins s σ H _ I h) fun v s1 ⟨x,H1,I1,r1,q1⟩=>ho pins s1 σ H1 x v Q I1 r1 q1)
theorem opI {f:Qc->Qc->Sem Qc}{C:Int->Int->Prop}{g:Int->Int->Int}
  (rule: ∀(i j:Int) (t u:Tok) (s:Qe) (Q:Qc->Qe->Prop) (E:Qc->Qe->Prop),C i j->Q (.int (g i j) s.toks) {s with toks:=s.toks+1}->Qs (Qp X.prog X.w) X.A (f (.int i t) (.int j u)) Q E s):
  OpR X f (rI C fun i j=> .int (g i j)):=by
 intro pins s σ H x y v u Q I rx ry h;obtain⟨i,j,rfl,rfl,hc,q⟩:=h;obtain⟨t,rfl⟩:=rx;obtain⟨t',rfl⟩:=ry;exact rule i j t t' s _ _ hc ⟨.int (g i j),H,I.tok _,⟨_,rfl⟩,q⟩
theorem bRi {f:Qc->Qc->Sem Qc}{g:Int->Int->Int}
  (rule: ∀(i j:Int) (t u:Tok) (s:Qe) (Q:Qc->Qe->Prop) (E:Qc->Qe->Prop),Q (.int (g i j) s.toks) {s with toks:=s.toks+1}->Qs (Qp X.prog X.w) X.A (f (.int i t) (.int j u)) Q E s):
  OpR X f (rI0 fun i j=> .int (g i j)):=by
 intro pins s σ H x y v u Q I rx ry h;obtain⟨i,j,rfl,rfl,q⟩:=h;obtain⟨t,rfl⟩:=rx;obtain⟨t',rfl⟩:=ry;exact rule i j t t' s _ _ ⟨.int (g i j),H,I.tok _,⟨_,rfl⟩,q⟩
theorem bRj {f:Qc->Qc->Sem Qc}{g:Int->Int->Bool}
  (rule: ∀(i j:Int) (t u:Tok) (s:Qe) (Q:Qc->Qe->Prop) (E:Qc->Qe->Prop),Q (.bool (g i j)) s->Qs (Qp X.prog X.w) X.A (f (.int i t) (.int j u)) Q E s):
  OpR X f (rI0 fun i j=> .bl (g i j)):=by
 intro pins s σ H x y v u Q I rx ry h;obtain⟨i,j,rfl,rfl,q⟩:=h;obtain⟨t,rfl⟩:=rx;obtain⟨t',rfl⟩:=ry;exact rule i j t t' s _ _ ⟨.bl (g i j),H,I,rfl,q⟩
def bS4 (i j:Int):Prop:=0<=j/\j<=1000000/\i.natAbs<2^64
def bO8 (i j:Int):Prop:=(-(2^64)<i/\i<2^64)\/(-(2^64)<j/\j<2^64)
theorem bO8.ok {i j:Int}(h:bO8 i j):IntMulOk i j:=by
 rcases h with⟨h1,h2⟩ |⟨h1,h2⟩
 ·exact .of_left (intBits_le_64 h1 h2)
 ·exact .of_right (intBits_le_64 h1 h2)
theorem bNa:OpR X (binaryOp .Add) (rI0 fun i j=> .int (i+j)):=bRi fun _ _ _ _ _ _ _ q=>add_int q
theorem bM2:OpR X (binaryOp .Sub) (rI0 fun i j=> .int (i-j)):=bRi fun _ _ _ _ _ _ _ q=>sub_int q
theorem bM5:OpR X (binaryOp .Mult) (rI bO8 fun i j=> .int (i*j)):=opI fun _ _ _ _ _ _ _ hc q=>mul_int q hc.ok
theorem bM6:OpR X (binaryOp .Mod) (rI (fun _ j=>0<j) fun i j=> .int (i%j)):=opI fun i j _ _ _ _ _ hc q=>by
 have h1:(0:Int)<j:=hc;exact mod_int' (by omega) (by rw[Int.fmod_eq_emod_of_nonneg i (by omega)];exact q)
theorem bM4:OpR X (binaryOp .Pow) (rI bS4 fun i j=> .int (i^j.toNat)):=opI fun _ _ _ _ _ _ _ hc q=>pow_int_small hc.1 hc.2.1 hc.2.2 q
theorem unI {f:Qc->Sem Qc}{g:Int->Int}
  (rule: ∀(i:Int) (t:Tok) (s:Qe) (Q:Qc->Qe->Prop) (E:Qc->Qe->Prop),Q (.int (g i) s.toks) {s with toks:=s.toks+1}->Qs (Qp X.prog X.w) X.A (f (.int i t)) Q E s):
  UnR X f (rU fun i=> .int (g i)):=by
 intro pins s σ H x v Q I rx h;obtain⟨i,rfl,q⟩:=h;obtain⟨t,rfl⟩:=rx;exact rule i t s _ _ ⟨.int (g i),H,I.tok _,⟨_,rfl⟩,q⟩
theorem bLk:UnR X (unaryOp .USub) (rU fun i=> .int (-i)):=unI fun _ _ _ _ _ q=>neg_int q
end
def bPl:V->V->Bool
 | .non,.non=>true | .non,.int _=>true | .int _,.non=>true | .non,.bl _=>true | .bl _,.non=>true | .non,.str _=>true | .str _,.non=>true
 | .int _,.int _=>true | .bl _,.bl _=>true | .str _,.str _=>true | .byt _,.byt _=>true
 | .int _,.str _=>true | .str _,.int _=>true | .bl _,.str _=>true | .str _,.bl _=>true
 | _,_=>false
def rEq:R2:=fun x y H Q=>bPl x y=true/\Q (.bl (decide (x=y))) H
def rNe:R2:=fun x y H Q=>bPl x y=true/\Q (.bl (!decide (x=y))) H
theorem bCe {i j:Int}:decide (V.int i=V.int j)=(i==j):=by
 rw[Jl];simp
theorem bHr {i j:Bool}:decide (V.bl i=V.bl j)=(i==j):=by
 rw[Jl];simp
theorem bCd {i j:Str}:decide (V.str i=V.str j)=(i==j):=by
 rw[Jl];simp
theorem bCf {i j:Array UInt8}:decide (V.byt i=V.byt j)=(i.toList==j.toList):=by
 rw[Jl];cases i;cases j;simp
section
variable {X:Cx}{a b c:Expr}{ta tb tc:TE}{pos:Pos}
theorem aB3 {pins:List (Addr×Obj)}{σ:St}{H:Hp}{s:Qe}{Q:VK}{k k':Bool}(I:Inv X pins σ H s)(q:Q (.bl k) H)(e:k=k'):EP X pins σ Q (.bool k') s:=by
 subst e;exact⟨.bl k,H,I,rfl,q⟩
theorem bM8:OpR X (Yj .Eq) rEq:=by
 intro pins s σ H x y v u Q I rx ry h;obtain⟨hs,q⟩:=h;cases x with
 | non=>
  cases rx;cases y with
  | non=>cases ry;exact PySem.EqNone.eq_none_none (aB3 I q (by simp))
  | bl j=>cases ry;exact PySem.EqNone.eq_none_bool (aB3 I q (by simp))
  | int j=>obtain⟨t',rfl⟩:=ry;exact PySem.EqNone.eq_none_int (aB3 I q (by simp))
  | str j=>obtain⟨t',rfl⟩:=ry;exact PySem.EqNone.eq_none_str (aB3 I q (by simp))
  | _=>exact absurd (show false=true from hs) Q7
 | bl i=>
  cases rx;cases y with
  | non=>cases ry;exact PySem.EqNone.eq_bool_none (aB3 I q (by simp))
  | bl j=>cases ry;exact eq_bool (aB3 I q bHr)
  | str j=>obtain⟨t',rfl⟩:=ry;exact PySem.EqMixed.eq_bool_str (aB3 I q (by simp))
  | _=>exact absurd (show false=true from hs) Q7
 | int i=>
  obtain⟨t,rfl⟩:=rx;cases y with
  | non=>cases ry;exact PySem.EqNone.eq_int_none (aB3 I q (by simp))
  | int j=>obtain⟨t',rfl⟩:=ry;exact eq_int (aB3 I q bCe)
  | str j=>obtain⟨t',rfl⟩:=ry;exact PySem.EqMixed.eq_int_str (aB3 I q (by simp))
  | _=>exact absurd (show false=true from hs) Q7
 | str i=>
  obtain⟨t,rfl⟩:=rx;cases y with
  | non=>cases ry;exact PySem.EqNone.eq_str_none (aB3 I q (by simp))
  | bl j=>cases ry;exact PySem.EqMixed.eq_str_bool (aB3 I q (by simp))
  | int j=>obtain⟨t',rfl⟩:=ry;exact PySem.EqMixed.eq_str_int (aB3 I q (by simp))
  | str j=>obtain⟨t',rfl⟩:=ry;exact eq_str (aB3 I q bCd)
  | _=>exact absurd (show false=true from hs) Q7
 | byt i=>
  obtain⟨t,rfl⟩:=rx;cases y with
  | byt j=>obtain⟨t',rfl⟩:=ry;exact PySem.W.eq_bytes (aB3 I q bCf)
  | _=>exact absurd (show false=true from hs) Q7
 | _=>cases y<;>exact absurd (show false=true from hs) Q7
theorem bP0:OpR X (Yj .NotEq) rNe:=by
 intro pins s σ H x y v u Q I rx ry h;obtain⟨hs,q⟩:=h;cases x with
 | non=>
  cases rx;cases y with
  | non=>cases ry;exact PySem.EqNone.ne_none_none (aB3 I q (by simp))
  | bl j=>cases ry;exact PySem.EqNone.ne_none_bool (aB3 I q (by simp))
  | int j=>obtain⟨t',rfl⟩:=ry;exact PySem.EqNone.ne_none_int (aB3 I q (by simp))
  | str j=>obtain⟨t',rfl⟩:=ry;exact PySem.EqNone.ne_none_str (aB3 I q (by simp))
  | _=>exact absurd (show false=true from hs) Q7
 | bl i=>
  cases rx;cases y with
  | non=>cases ry;exact PySem.EqNone.ne_bool_none (aB3 I q (by simp))
  | bl j=>cases ry;exact ne_bool (aB3 I q (congrArg not bHr))
  | str j=>obtain⟨t',rfl⟩:=ry;exact PySem.EqMixed.ne_bool_str (aB3 I q (by simp))
  | _=>exact absurd (show false=true from hs) Q7
 | int i=>
  obtain⟨t,rfl⟩:=rx;cases y with
  | non=>cases ry;exact PySem.EqNone.ne_int_none (aB3 I q (by simp))
  | int j=>obtain⟨t',rfl⟩:=ry;exact ne_int (aB3 I q (congrArg not bCe))
  | str j=>obtain⟨t',rfl⟩:=ry;exact PySem.EqMixed.ne_int_str (aB3 I q (by simp))
  | _=>exact absurd (show false=true from hs) Q7
 | str i=>
  obtain⟨t,rfl⟩:=rx;cases y with
  | non=>cases ry;exact PySem.EqNone.ne_str_none (aB3 I q (by simp))
  | bl j=>cases ry;exact PySem.EqMixed.ne_str_bool (aB3 I q (by simp))
  | int j=>obtain⟨t',rfl⟩:=ry;exact PySem.EqMixed.ne_str_int (aB3 I q (by simp))
  | str j=>obtain⟨t',rfl⟩:=ry;exact ne_str (aB3 I q (congrArg not bCd))
  | _=>exact absurd (show false=true from hs) Q7
 | byt i=>
  obtain⟨t,rfl⟩:=rx;cases y with
  | byt j=>obtain⟨t',rfl⟩:=ry;exact PySem.W.ne_bytes (aB3 I q (congrArg not bCf))
  | _=>exact absurd (show false=true from hs) Q7
 | _=>cases y<;>exact absurd (show false=true from hs) Q7
theorem bP1:OpR X (Yj .Lt) (rI0 fun i j=> .bl (decide (i<j))):=bRj fun _ _ _ _ _ _ _ q=>lt_int q
theorem bP2:OpR X (Yj .Gt) (rI0 fun i j=> .bl (decide (j<i))):=bRj fun _ _ _ _ _ _ _ q=>gt_int q
theorem bM7:OpR X (Yj .Is) (fun x y H Q=>y= .non/\Q (.bl (decide (x= .non))) H):=by
 intro pins s σ H x y v u Q I rx ry h;obtain⟨rfl,q⟩:=h;cases ry;refine is_none_gen (aB3 I q ?_);cases x<;>first
  |(cases rx;rfl)
  |(obtain⟨t,rfl⟩:=rx;rfl)
theorem bJa:OpR X (Yj .IsNot) (fun x y H Q=>y= .non/\Q (.bl (!decide (x= .non))) H):=by
 intro pins s σ H x y v u Q I rx ry h;obtain⟨rfl,q⟩:=h;cases ry;refine isnot_none_gen (aB3 I q ?_);cases x<;>first
  |(cases rx;rfl)
  |(obtain⟨t,rfl⟩:=rx;rfl)
theorem OpR.or {f:Qc->Qc->Sem Qc}{r r':R2}(h:OpR X f r)(h':OpR X f r'):OpR X f (fun x y H Q=>r x y H Q\/r' x y H Q):=by
 intro pins s σ H x y v u Q I rx ry q;rcases q with q | q
 ·exact h pins s σ H x y v u Q I rx ry q
 ·exact h' pins s σ H x y v u Q I rx ry q
theorem aIe (b:Expr){op:CmpOp}(h:op≠ .In:=by decide)(h2:op≠ .NotIn:=by decide):Y8 op b=false:=by
 have e1:(op==CmpOp.In)=false:=by cases op<;>first | rfl | exact absurd rfl h
 have e2:(op==CmpOp.NotIn)=false:=by cases op<;>first | rfl | exact absurd rfl h2
 cases b<;>simp[Y8,e1,e2]
theorem bIs {op:CmpOp}{r:R2}(ho:OpR X (Yj op) r)(ha:PE X a ta)(hb:PE X b tb)(hm:Y8 op b=false):PE X (.Compare a [op] [b] pos) (tOp r ta tb):=by
 intro pins s σ H Q I h;exact wpAny_Compare1 (bQv ha hb I h fun v u s2 x y H2 I2 rx ry q=>ho pins s2 σ H2 x y v u Q I2 rx ry q) hm
def bPb (t:TE):TT:=fun σ H Q=>t σ H fun x H'=> ∃k,x= .bl k/\Q k H'
theorem bIl {op:CmpOp}{r:R2}(ho:OpR X (Yj op) r)(ha:PE X a ta)(hb:PE X b tb)(hm:Y8 op b=false):PT X (.Compare a [op] [b] pos) (bPb (tOp r ta tb)):=by
 intro pins s σ H Q I h;refine wpAny_isTrue_Compare1 (thn (ha pins s σ H _ I h) fun v s1 ⟨x,H1,I1,r1,q1⟩=>thn (hb pins s1 σ H1 _ I1 q1) fun u s2 ⟨y,H2,I2,r2,q2⟩=>
  thn (ho pins s2 σ H2 x y v u _ I2 r1 r2 q2) fun c s3 ⟨z,H3,I3,r3,k,e,q3⟩=> ?_) hm
 subst e;cases r3;exact wpAny_truthy_bool ⟨H3,I3,q3⟩
def bQ0 (K:Qa)(x:V)(H:Hp)(k:Bool):Prop:=
 match x with
 | .non=>k=false
 | .bl b=>k=b
 | .int i=>k=(i !=0)
 | .str y=>y.length<=Q0/\k=((y.length:Int) !=0)
 | .byt y=>y.size<=Q0/\k=((y.size:Int) !=0)
 | .ref p=>(∃xs,SqL K H p xs/\k= !xs.isEmpty)\/(∃xs,SqT K H p xs/\k= !xs.isEmpty)\/∃kvs,H p=some (.dK kvs)/\k= !kvs.isEmpty
 | _=>False
theorem aYh {κ:Type}{kvs:List (κ×V)}{vs:List (κ×Qc)}(r:KV kvs vs):(!vs.isEmpty)= !kvs.isEmpty:=by
 cases r<;>rfl
theorem aP1 {xs:List V}{its:List Qc}(r:Vals xs its):(!its.toArray.isEmpty)= !xs.isEmpty:=by
 cases r<;>simp
theorem aS6:(Q0:Nat)<2^63:=by rw[sizeLine_eq];decide
theorem bLl:bS2 X (fun x H Q=> ∃k,bQ0 X.K x H k/\Q k H):=by
 intro pins s σ H x v Q I rx h;obtain⟨k,e,q⟩:=h;have hl:=aS6;have hs:Q0=16777216:=sizeLine_eq;cases x with
 | non=>
  cases rx;have e':k=false:=e;subst e';exact truthy_none ⟨H,I,q⟩
 | bl b=>
  cases rx;have e':k=b:=e;subst e';exact wpAny_truthy_bool ⟨H,I,q⟩
 | int i=>
  obtain⟨t,rfl⟩:=rx;have e':k=(i !=0):=e;subst e';exact PySem.P.truthy_int ⟨H,I,q⟩
 | str y=>
  obtain⟨t,rfl⟩:=rx;obtain⟨hy,e'⟩:y.length<=Q0/\k=((y.length:Int) !=0):=e;subst e';exact PySem.P.truthy_str (by omega) ⟨H,I.tok _,q⟩
 | byt y=>
  obtain⟨t,rfl⟩:=rx;obtain⟨hy,e'⟩:y.size<=Q0/\k=((y.size:Int) !=0):=e;subst e';exact PySem.W.truthy_bytes (by omega) ⟨H,I.tok _,q⟩
 | ref p=>
  cases rx;have e':(∃xs,SqL X.K H p xs/\k= !xs.isEmpty)\/(∃xs,SqT X.K H p xs/\k= !xs.isEmpty)\/∃kvs,H p=some (.dK kvs)/\k= !kvs.isEmpty:=e;rcases e' with⟨xs,hx,e'⟩ |⟨xs,hx,e'⟩ |⟨kvs,hx,e'⟩
  ·subst e'
   obtain⟨its,r,pl,hz⟩:=I.list hx;have hlen:=r.length;exact wpAny_truthy_list pl.isList (by simp only[Qk];omega) ⟨H,I.tok _,by rw[aP1 r];exact q⟩
  ·subst e'
   obtain⟨its,r,pl,hz⟩:=I.tuple hx;have hlen:=r.length;exact truthy_tuple pl (by simp only[Qk];omega) ⟨H,I.tok _,by rw[aP1 r];exact q⟩
  ·subst e'
   obtain⟨hz,hS,vs,r,m⟩:kvs.length<=Q0/\(p==sysModules)=false/\∃vs,KV kvs vs/\s.heap.DictOf (aC6 X.prog X.w) p vs:=I.hok p _ hx;have hlen:kvs.length=vs.length:=Paired.length r;exact wpAny_truthy_dict hS m (by omega) ⟨H,I.tok _,by rw[aYh r];exact q⟩
 | _=>exact (show False from e).elim
theorem bD9 (ha:PE X a ta)(he: ∀whole,isTrue a X.env whole=(do let v<-whole;standAt a.pos;holding [v] (truthy v))):
  PT X a (fun σ H Q=>ta σ H fun x H'=> ∃k,bQ0 X.K x H' k/\Q k H'):=by
 intro pins s σ H Q I h;exact isTrue_plain (thn (ha pins s σ H _ I h) fun v s1 ⟨x,H1,I1,r1,q1⟩=>bLl pins s1 σ H1 x v Q I1 r1 q1) (he _)
theorem aYa:OpR X (binaryOp .Add) (fun x y H Q=> ∃i j,x= .str i/\y= .str j/\i.length+j.length<=Q0/\Q (.str (i++j)) H):=by
 intro pins s σ H x y v u Q I rx ry h;obtain⟨i,j,rfl,rfl,hz,q⟩:=h;obtain⟨t,rfl⟩:=rx;obtain⟨t',rfl⟩:=ry;exact add_str (fun t' tk=>⟨.str (i++j),H,I.tok _,⟨_,rfl⟩,q⟩) hz
theorem vals1 {x:V}{us:List Qc}(r:Vals [x] us): ∃u,us=[u]/\RelV x u:=by
 cases r with
 | cons r1 r2=>cases r2;exact⟨_,rfl,r1⟩
theorem vals2 {x y:V}{us:List Qc}(r:Vals [x,y] us): ∃u w',us=[u,w']/\RelV x u/\RelV y w':=by
 cases r with
 | cons r1 r2=>
  cases r2 with
  | cons r3 r4=>cases r4;exact⟨_,_,rfl,r1,r3⟩
theorem bCs (hc:X.calm=true):aHk X (.builtin "max") (fun xs H Q=> ∃i j,xs=[.int i,.int j]/\Q (.int (if j>i then j else i)) H):=by
 intro pins s σ H xs us Q I r h;obtain⟨i,j,rfl,q⟩:=h;obtain⟨u,w',rfl,⟨t,rfl⟩,⟨t',rfl⟩⟩:=vals2 r;refine max_two_ints (I.ok.hd hc) fun h' tk k=>⟨_,H,I.kept k,?_,q⟩
 by_cases hj:j>i
 ·rw[if_pos hj,if_pos hj];exact⟨_,rfl⟩
 ·rw[if_neg hj,if_neg hj];exact⟨_,rfl⟩
theorem bCr (hc:X.calm=true):aHk X (.builtin "min") (fun xs H Q=> ∃i j,xs=[.int i,.int j]/\Q (.int (if j<i then j else i)) H):=by
 intro pins s σ H xs us Q I r h;obtain⟨i,j,rfl,q⟩:=h;obtain⟨u,w',rfl,⟨t,rfl⟩,⟨t',rfl⟩⟩:=vals2 r;refine min_two_ints (I.ok.hd hc) fun h' tk k=>⟨_,H,I.kept k,?_,q⟩
 by_cases hj:j<i
 ·rw[if_pos hj,if_pos hj];exact⟨_,rfl⟩
 ·rw[if_neg hj,if_neg hj];exact⟨_,rfl⟩
end
theorem aUg.some_of {v:V}{o:Option Qc}(r:aUg (some v) o): ∃u,o=some u/\RelV v u:=by
 cases o with
 | none=>exact (show False from r).elim
 | some u=>exact⟨u,rfl,r⟩
theorem aUg.none_of {o:Option Qc}(r:aUg none o):o=none:=by
 cases o with
 | none=>rfl
 | some u=>exact (show False from r).elim
def bOp (K:Qa)(C:Addr)(f:Str):Prop:=Uu K (.ref C) f=some none
structure aFz (k:Nat)(A:Zb):Prop where
 hd:A.handled=none
 dp:A.depth+3*k+5<recursionLimit
 un:A.units+16*k+200<cLine
theorem aFz.mono {j k:Nat}{A:Zb}(r:aFz k A)(h:j<=k):aFz j A:=⟨r.hd,by have:=r.dp;omega,by have:=r.un;omega⟩
theorem aFz.deeper {k:Nat}{A:Zb}(r:aFz (k+1) A)(env:Env):aFz k (A.deeper env):=
 ⟨r.hd,by have:=r.dp;show A.depth+1+3*k+5<_;omega,by have:=r.un;show A.units+3+16*k+200<_;omega⟩
theorem aFz.depth {k:Nat}{A:Zb}(r:aFz k A):A.depth<recursionLimit:=by have:=r.dp;omega
theorem aFz.units {k:Nat}{A:Zb}(r:aFz k A):A.units+64<cLine:=by have:=r.un;omega
theorem aFz.bLi {k:Nat}{A:Zb}(r:aFz k A):A.units<cLine:=by have:=r.un;omega
def bRu:TA:=fun _ H Q=>Q [] H
def bPg (ta:TE)(tr:TA):TA:=fun σ H Q=>ta σ H fun x H1=>tr σ H1 fun xs H2=>Q (x::xs) H2
section
variable {X:Cx}{e:Expr}{es:List Expr}{te:TE}{t:TA}{pos:Pos}
theorem aD4:PA X [] bRu:=fun _ _ _ _ H Q I h=>Calls.spliced_nil ⟨[],H,I,.nil,h⟩
theorem aBx (ha:PE X e te)(hr:PA X es t)(hs:Qu (e::es) X.env=(false,eval e X.env)::Qu es X.env:=by rfl):PA X (e::es) (bPg te t):=by
 intro pos pins s σ H Q I h;rw[hs];show Qs _ _ (spliced ((false,eval e X.env)::backTo pos (Qu es X.env))) _ _ s;refine Calls.spliced_cons (thn (ha pins s σ H _ I h) fun u s1 ⟨x,H1,I1,r1,q1⟩=> ?_);exact thn (hr pos pins s1 σ H1 _ I1 q1) fun us s2 ⟨xs,H2,I2,r2,q2⟩=>⟨x::xs,H2,I2,.cons r1 r2,q2⟩
def bRq (t:TA):TE:=fun σ H Q=>t σ H fun xs H1=>xs.length<=Q0/\∀p,H1 p=none->Q (.ref p) (upd H1 p (.tup xs))
def bRv (t:TA):TE:=fun σ H Q=>t σ H fun xs H1=>xs.length<=Q0/\∀p,H1 p=none->Q (.ref p) (upd H1 p (.lst xs))
theorem bMl {x1}(h:PA X es t):PE X (.Tuple es x1 pos) (bRq t):=by
 intro pins s σ H Q I hq;refine wpAny_Tuple_spliced (thn (h pos pins s σ H _ I hq) fun us s1 ⟨xs,H1,I1,r,z,q⟩=>⟨by rw[<-r.length];exact z,?_⟩);have hf:H1 s1.heap.objs.size=none:=I1.hok.fresh (Qr _);refine⟨.ref s1.heap.objs.size,upd H1 s1.heap.objs.size (.tup xs),I1.laid (t':=s1.toks) (fun b u e=>Qg _ e) (Qr _) ?_,rfl,q _ hf⟩;exact⟨z,us,r,⟨_,Qx _ rfl,rfl,⟨_,rfl⟩,rfl⟩⟩
theorem bGw (h:PA X es t):PE X (.List es pos) (bRv t):=by
 intro pins s σ H Q I hq;refine wpAny_List_spliced (thn (h pos pins s σ H _ I hq) fun us s1 ⟨xs,H1,I1,r,z,q⟩=>⟨by rw[<-r.length];exact z,?_⟩);have hf:H1 s1.heap.objs.size=none:=I1.hok.fresh (Qr _);refine⟨.ref s1.heap.objs.size,upd H1 s1.heap.objs.size (.lst xs),I1.laid (t':=s1.toks) (fun b u e=>Qg _ e) (Qr _) ?_,rfl,q _ hf⟩;exact⟨z,us,0,r,Qx _ rfl⟩
end
abbrev Sp:=List V->Hp->VK->XK->Prop
abbrev CXT:=List Env->Hp->Qe->XK->Qc->Qe->Prop
structure bDi (P:Qv)(w:Q8)(K:Qa)(mg:Str->Option Qc)(base:Heap)(A:Zb)(outer:List Env)(s:Qe)(H:Hp):Prop where
 frames:A.frames=some outer
 mod:Mod K mg base
 bs: ∀b o,base.get? b=some o->s.heap.get? b=some o/\H b=none
 bsz:base.objs.size<=s.heap.objs.size
 aRq:s.heap.FunFrames base outer
 frf: ∀b∈frs outer,H b=none
 hok:HOk P w H s.heap
 bare:AllBare s.gens
def CE (outer:List Env)(P:Qv)(w:Q8)(H:Hp)(s:Qe)(Q:VK)(u:Qc)(s':Qe):Prop:=
 ∃v H',s'.os=s.os/\AllBare s'.gens/\Un (frs outer) [] H H' s.heap s'.heap/\HOk P w H' s'.heap/\RelV v u/\Q v H'
def CR (CX:CXT)(outer:List Env)(P:Qv)(w:Q8)(H:Hp)(s:Qe)(Q:VK)(E:XK)(r:Result)(s':Qe):Prop:=
 match r with
 | .ok (.ret u)=>CE outer P w H s Q u s'
 | .ok _=>False
 | .error e=>CX outer H s E e s'
structure aZf (P:Qv)(w:Q8)(K:Qa)(mg:Str->Option Qc)(base:Heap)(CX:CXT)(k:Nat)(f:Addr)(fd:Z9)(ps:List Str)(sp:Sp):Prop where
 len: ∀vs H Q E,sp vs H Q E->vs.length=ps.length
 run: ∀(A:Zb) (outer:List Env) (s:Qe) (H:Hp) (args:Args) (us:List Qc) (vs:List V) (Q:VK) (E:XK),aFz k A->bDi P w K mg base A outer s H->BindsTo s fd args (ps.zip us)->Vals vs us->sp vs H Q E->
  codeAny (Qp P w) A (.call (.ref f) args) (CR CX outer P w H s Q E) s
theorem aZf.mono {P:Qv}{w:Q8}{K:Qa}{mg:Str->Option Qc}{base:Heap}{CX:CXT}{j k:Nat}{f:Addr}{fd:Z9}{ps:List Str}{sp:Sp}(F:aZf P w K mg base CX j f fd ps sp)(h:j<=k):
  aZf P w K mg base CX k f fd ps sp:=⟨F.len,fun A outer s H args us vs Q E hr=>F.run A outer s H args us vs Q E (hr.mono h)⟩
theorem aZf.imp {P:Qv}{w:Q8}{K:Qa}{mg:Str->Option Qc}{base:Heap}{CX:CXT}{k:Nat}{f:Addr}{fd:Z9}{ps:List Str}{sp sp':Sp}(F:aZf P w K mg base CX k f fd ps sp)
  (h: ∀vs H Q E,sp' vs H Q E->sp vs H Q E):aZf P w K mg base CX k f fd ps sp':=
 ⟨fun vs H Q E q=>F.len vs H Q E (h _ _ _ _ q),fun A outer s H args us vs Q E hr he hb hv hs=>F.run A outer s H args us vs Q E hr he hb hv (h _ _ _ _ hs)⟩
section
variable {X:Cx}{pins:List (Addr×Obj)}{σ:St}{H:Hp}{s s':Qe}
theorem Inv.env0 (I:Inv X pins σ H s):bDi X.prog X.w X.K X.mg X.base X.A X.stack s H:=
 ⟨I.ok.frames,I.ok.mod,I.bs,Z2 I.ok.bsz I.sz,I.stack,I.aKy,I.hok,I.bare⟩
theorem Inv.after {Q:VK}{u:Qc}(I:Inv X pins σ H s)(h:CE X.stack X.prog X.w H s Q u s'):EP X pins σ Q u s':=by
 obtain⟨v,H',os,bare,un,hok,r,q⟩:=h;obtain⟨hh,g,d,t,os'⟩:=s';obtain rfl:os'=s.os:=os;exact⟨v,H',I.call (h':=hh) (g':=g) (d':=d) (t':=t) (ch:=[]) un hok bare (fun b z=>absurd z (by simp)),r,q⟩
end
def Binds (K:Qa)(fd:Z9)(ps:List Str)(ds:List Qc):Prop:=
 ∀(s:Qe) (us:List Qc),K.In s.heap->(us++ds).length=ps.length->BindsTo s fd ⟨us,[]⟩ (ps.zip (us++ds))
theorem Binds.all {K:Qa}{fd:Z9}{ps:List Str}(h: ∀us:List Qc,us.length=ps.length->bindArgs fd ⟨us,[]⟩=pure (ps.zip us)):Binds K fd ps []:=fun s us _ hl=>by
 rw[Z3] at hl⊢;exact .of_eq (h us hl)
structure aBg (N P:List Str)(sc:Scope):Prop where
 kind:sc.kind= .function
 co:sc.isCoroutine=false
 gen:sc.isGenerator=false
 nd:N.Nodup
 pre:N.take P.length=P
 par: ∀x∈P,sc.names.lookup x=some .local\/sc.names.lookup x=some .cell
 bNc: ∀y∈sc.names,y.2≠ .free
theorem aT1 {kindOf:Str->Option NameKind}{x:Str}: ∀{binds:List (Str×Qc)} {m:Str->Option Qc},(∀v,(x,v)∉binds)->bindL kindOf binds m x=m x
 | [],_,_=>rfl
 |(n,v)::r,m,h=>by
  unfold bindL;rw[aT1 fun w hw=>h w (Qm _ hw)];split
  ·have:x≠n:=by rintro rfl;exact h v Qq
   simp[this]
  ·rfl
theorem aT3 {kindOf:Str->Option NameKind}{x:Str}: ∀{binds:List (Str×Qc)} {m:Str->Option Qc},(∀v,(x,v)∉binds)->bindC kindOf binds m x=m x
 | [],_,_=>rfl
 |(n,v)::r,m,h=>by
  unfold bindC;rw[aT3 fun w hw=>h w (Qm _ hw)];split
  ·rfl
  ·have:x≠n:=by rintro rfl;exact h v Qq
   simp[this]
theorem aT2 {kindOf:Str->Option NameKind}{x:Str}{v:Qc}: ∀{P:List Str} {vs:List Qc} {i:Nat} {m:Str->Option Qc},P.Nodup->P[i]? =some x->vs[i]? =some v->kindOf x=some .local->
  bindL kindOf (P.zip vs) m x=some v
 | [],_,_,_,_,h,_,_=>by simp at h
 | _::_,[],_,_,_,_,h,_=>by simp at h
 | p::P,w::vs,0,m,nd,h1,h2,hk=>by
  simp at h1 h2;subst h1;subst h2;show bindL kindOf ((p,w)::P.zip vs) m p=_;unfold bindL;rw[aT1 fun v hv=>(List.nodup_cons.mp nd).1 (Uw hv).1,if_pos hk];simp
 | p::P,w::vs,i+1,m,nd,h1,h2,hk=>by
  show bindL kindOf ((p,w)::P.zip vs) m x=_;unfold bindL;exact aT2 (i:=i) (List.nodup_cons.mp nd).2 (by simpa using h1) (by simpa using h2) hk
theorem aT4 {kindOf:Str->Option NameKind}{x:Str}{v:Qc}: ∀{P:List Str} {vs:List Qc} {i:Nat} {m:Str->Option Qc},P.Nodup->P[i]? =some x->vs[i]? =some v->kindOf x≠some .local->
  bindC kindOf (P.zip vs) m x=some v
 | [],_,_,_,_,h,_,_=>by simp at h
 | _::_,[],_,_,_,_,h,_=>by simp at h
 | p::P,w::vs,0,m,nd,h1,h2,hk=>by
  simp at h1 h2;subst h1;subst h2;show bindC kindOf ((p,w)::P.zip vs) m p=_;unfold bindC;rw[aT3 fun v hv=>(List.nodup_cons.mp nd).1 (Uw hv).1,if_neg hk];simp
 | p::P,w::vs,i+1,m,nd,h1,h2,hk=>by
  show bindC kindOf ((p,w)::P.zip vs) m x=_;unfold bindC;exact aT4 (i:=i) (List.nodup_cons.mp nd).2 (by simpa using h1) (by simpa using h2) hk
def start (N:List Str)(vs:List V):St:=vs.map some++Q9 (N.length-vs.length) none
def bKq (CX:CXT)(P:Qv)(w:Q8)(K:Qa)(mg:Str->Option Qc)(base:Heap)(N:List Str)(qual:Str)(scope:Scope)(f:Addr)(cd:Qc)(A:Zb)(outer:List Env)(s:Qe)(H:Hp)(E:XK):Cx where
 prog:=P
 w:=w
 K:=K
 mg:=mg
 base:=base
 A:=A.deeper (envOfC qual scope s.heap.objs.size f cd)
 N:=N
 s₀:=s
 H₀:=H
 env:=envOfC qual scope s.heap.objs.size f cd
 outer:=outer
 stack:=envOfC qual scope s.heap.objs.size f cd::outer
 ex:=[]
 calm:=true
 fn:=fun _=>true
 pn:=[]
 xe:=fun e s'=>Qs (Qp P w) (A.deeper (envOfC qual scope s.heap.objs.size f cd)) (leaving (envOfC qual scope s.heap.objs.size f cd) e) (fun _ s''=>CX outer H s E e s'') (fun e' s''=>CX outer H s E e' s'') s'
theorem aXi {sc:Scope}{n:Nat}{x:Str}(h:sc.names.lookup x=some .cell): ∃c,(cellsFrom n sc.names []).lookup x=some c:=by
 have q:=Wr sc.names n [] (.inl h);exact Option.isSome_iff_exists.mp q
theorem bBr {CX:CXT}{P:Qv}{w:Q8}{K:Qa}{mg:Str->Option Qc}{base:Heap}{N ps:List Str}{qual:Str}{scope:Scope}{f:Addr}{cd:Qc}{A:Zb}{outer:List Env}{s s1:Qe}{H:Hp}{E:XK}{us:List Qc}{vs:List V}
  (S:aBg N ps scope) (hd:A.handled=none) (e0:bDi P w K mg base A outer s H) (hl:vs.length=ps.length) (r:Vals vs us)
  (x:InCallC s s.heap.objs.size (bindL (envOfC qual scope s.heap.objs.size f cd).kindOf (ps.zip us) fun _=>none) (cellsFrom (s.heap.objs.size+1) scope.names []) (bindC (envOfC qual scope s.heap.objs.size f cd).kindOf (ps.zip us) fun _=>none) s1):
  Inv (bKq CX P w K mg base N qual scope f cd A outer s H E) [] (start N vs) H s1:=by
 have hpl:ps.length<=N.length:=by have:=congrArg J1 S.pre;rw[Za] at this;omega
 obtain⟨h1,tk,rfl,hk⟩:=x.done;have noA: ∀b:Addr,b∉(bKq CX P w K mg base N qual scope f cd A outer s H E).ex:=fun b z=>absurd (show b∈([]:List Addr) from z) (by simp)
 refine⟨⟨e0.mod,S.kind,rfl,rfl,Qr _,fun y z c h1 h2=> ?_,fun y hy=> ?_,fun y c _ h=> ?_,fun _=>hd,Around.frames_deeper e0.frames,.inr ⟨rfl,rfl⟩,fun b z=>absurd z (noA b),e0.bs,e0.bsz,fun b _ _=>noA b,fun b z=>absurd z (noA b),e0.aRq,e0.frf⟩,
  rfl,e0.bare,Un.kept hk,⟨_,x.toInCall.ns,fun i y v h1 h2 h3=> ?_⟩,fun y c h=>⟨_,x.cell y c h⟩,e0.hok.fresh (Qr _),fun y c h=> ?_,fun p hp=>absurd (show p∈([]:List (Addr×Obj)) from hp) (by simp),e0.hok.kept hk,?_⟩
 ·exact name_of_addr x.apart (Y2 h1) (Y2 h2)
 ·have hy:scope.names.lookup y=some .cell\/scope.names.lookup y=some .free:=hy
  rcases hy with hy | hy
  ·exact aXi hy
  ·exact absurd rfl (S.bNc _ (Y2 hy))
 ·exact Uv (x.above y c (Y2 h))
 ·have hi:i<vs.length:=by
   unfold start at h2;by_cases hi:i<vs.length
   ·exact hi
   ·rw[Zi (by simpa using hi)] at h2
    rw[Yd] at h2;split at h2<;>cases h2
  have ha:vs[i]? =some v:=by
   unfold start at h2;rw[Ze (by simpa using hi),Zm] at h2;cases e:vs[i]? with
   | none=>rw[e] at h2;cases h2
   | some a=>rw[e] at h2;cases h2;rfl
  obtain⟨u,hu,rv⟩:=r.get ha;have hp:ps[i]? =some y:=by
   rw[<-S.pre,Um (by omega)];exact h1
  have ndP:ps.Nodup:=by rw[<-S.pre];exact S.nd.sublist (List.take_sublist _ _)
  refine⟨u,rv,?_⟩;rcases S.par y (Zx hp) with k | k
  ·exact .inl ⟨k,aT2 ndP hp hu k⟩
  ·obtain⟨c,e⟩:=aXi (n:=s.heap.objs.size+1) k
   refine .inr ⟨.inl k,c,e,?_⟩;have q:=x.cell y c e;rw[aT4 ndP hp hu (by show scope.names.lookup y≠_;rw[k];decide)] at q;exact q
 ·exact e0.hok.fresh (Uv (x.above y c (Y2 h)))
 ·unfold start
  show _=N.length;rw[Ql,Qi,J4];omega
theorem bFo {CX:CXT}{P:Qv}{w:Q8}{K:Qa}{mg:Str->Option Qc}{base:Heap}{k:Nat}{f:Addr}{name qual:Str}{params:Arguments}{body:List Stmt}{scope:Scope}{dV kV doc pm cdv ct oc:Qc}{an od:Option Addr}
  {osl:Array (Option Qc)} {N ps:List Str} {sp:Sp} (lk:K.lookup f=some ⟨oc,od,.func (J8 name qual params body scope dV kV doc pm an cdv ct),osl⟩) (hcd:Wi K cdv qual=true) (S:aBg N ps scope)
  (len: ∀vs H Q E,sp vs H Q E->vs.length=ps.length)
  (hbody: ∀(A:Zb) (outer:List Env) (s:Qe) (H:Hp) (vs:List V) (Q:VK) (E:XK),aFz k (A.deeper (envOfC qual scope s.heap.objs.size f cdv))->sp vs H Q E->
   ∃t,PSs (bKq CX P w K mg base N qual scope f cdv A outer s H E) body t/\t {nx:=fun _ H'=>Q .non H',rt:=Q} (start N vs) H):
  aZf P w K mg base CX (k+1) f (J8 name qual params body scope dV kV doc pm an cdv ct) ps sp:=by
 refine⟨len,fun A outer s H args us vs Q E hr e0 hb r hsp=> ?_⟩;have hl:=len _ _ _ _ hsp;have KX:K.In s.heap:=e0.mod.kin.keeps fun b o e=>(e0.bs b o e).1
 have lim:s.heap.NoLimit:=e0.mod.nolimit.keeps fun b o e=>(e0.bs b o e).1
 have hkind: ∀y∈ps.zip us,scope.names.lookup y.1=some .local\/(scope.names.lookup y.1=some .cell/\((cellsFrom (s.heap.objs.size+1) scope.names []).lookup y.1).isSome=true):=fun⟨n,v⟩ hy=>by
  rcases S.par n (Uw hy).1 with q | q
  ·exact .inl q
  ·exact .inr ⟨q,Wr _ _ _ (.inl q)⟩
 refine codeAny_call_function hr.depth (KX _ _ lk) rfl S.co S.gen rfl (PySem.W.codeRec_of KX hcd) (hb _ _ _ _ ?_);refine wpAny_newFunctionEnv_cells S.kind hkind fun env he s1 x=> ?_
 subst he;refine⟨lim.keeps x.toInCall.keep,codeAny_func ?_⟩;obtain⟨t,ht,hq⟩:=hbody A outer s H vs Q E (hr.deeper _) hsp;have I:Inv (bKq CX P w K mg base N qual scope f cdv A outer s H E) [] (start N vs) H s1:=bBr S hr.hd e0 hl r x;refine Yq (ht [] s1 (start N vs) H _ I hq) (fun fl s' hs=> ?_) fun e s' hs=>hs
 have fin: ∀{σ':St} {H':Hp} {v:V} {u:Qc},Inv (bKq CX P w K mg base N qual scope f cdv A outer s H E) [] σ' H' s'->RelV v u->Q v H'->CE outer P w H s Q u s':=
  fun {σ' H' v u} J rv q=>⟨v,H',J.os,J.bare,J.base,J.hok,rv,q⟩
 cases fl with
 | ret u=>
  obtain⟨v,σ',H',J,rv,q⟩:=hs;exact fin J rv q
 | next=>
  obtain⟨σ',H',J,q⟩:=hs;exact fin (v:=V.non) (u:=Value.none) J rfl q
 | brk=>
  obtain⟨_,_,_,q⟩:=hs;exact Qd q
 | cont=>
  obtain⟨_,_,_,q⟩:=hs;exact Qd q
section
variable {X:Cx}{x:Str}{p pos:Pos}{e:Expr}{es:List Expr}{t:TA}{id T:String}{r:List V->Hp->VK->Prop}
def tCB (r:List V->Hp->VK->Prop)(t:TA):TE:=fun σ H Q=>t σ H fun vs H1=>r vs H1 Q
theorem aF2 (hc:aHk X (.builtin id) r)(hg:Gl X x)(hm:X.mg x=none)(hv:Jd x=some (.builtin id))(ha:PA X (e::es) t)(hn:x≠"__name__":=by decide)(hdb:(x==("__debug__":Str))=false:=by decide)
  (he:Qu (e::es) X.env=(false,eval e X.env)::Qu es X.env:=by rfl) (hpl:(backTo pos (Qu es X.env)).any (·.1)=false:=by rfl):PE X (.Call (.Name x p) (e::es) [] pos) (tCB r t):=by
 intro pins s σ H Q I h;refine Yh (aL2 I hg hm hv ?_ hn hdb);exact PyProof.Rows.callWith_builtin1 (thn (ha pos pins s σ H _ I h) fun us s1 ⟨vs,H1,I1,r1,q1⟩=>hc pins s1 σ H1 vs us Q I1 r1 q1) he hpl
theorem aIa (hc:aHk X (.type T) r)(hg:Gl X x)(hm:X.mg x=none)(hv:Jd x=some (.type T))(ha:PA X (e::es) t)(hn:x≠"__name__":=by decide)(hdb:(x==("__debug__":Str))=false:=by decide)
  (he:Qu (e::es) X.env=(false,eval e X.env)::Qu es X.env:=by rfl) (hpl:(backTo pos (Qu es X.env)).any (·.1)=false:=by rfl):PE X (.Call (.Name x p) (e::es) [] pos) (tCB r t):=by
 intro pins s σ H Q I h;refine Yh (aL2 I hg hm hv ?_ hn hdb);exact Z8 (thn (ha pos pins s σ H _ I h) fun us s1 ⟨vs,H1,I1,r1,q1⟩=>hc pins s1 σ H1 vs us Q I1 r1 q1) he hpl
end
end L2
namespace HT
open PySem PyProof.Rows
section
variable {prog:Qv}{w:Q8}{A:Zb}{E:Qc->Qe->Prop}{s:Qe}
theorem bKx {t b:Addr}{vs ws:List Qc}{Q:Qc->Qe->Prop}(ht:IsTup s.heap t vs.toArray)(hb:IsTup s.heap b ws.toArray)(hv:vs≠[])
  (h1:ws=[]->Q (.ref t) s) (h2:ws≠[]->Q (.ref s.heap.objs.size) {s with heap:=s.heap.push {cls:= .type "tuple",data:= .seq (vs++ws).toArray}})
  (hsz:vs.length+ws.length<=Q0):Qs (Qp prog w) A (binaryOp .Add (.ref t) (.ref b)) Q E s:=by
 obtain⟨⟨cls,dd,data,sl⟩,ho,hc,n,hd⟩:=id ht;obtain⟨⟨cls2,dd2,data2,sl2⟩,ho2,hc2,n2,hd2⟩:=id hb;simp only at hc hd hc2 hd2;subst hc hd hc2 hd2;have e:vs.toArray++ws.toArray=(vs++ws).toArray:=by simp
 by_cases hw:ws=[]
 ·exact concat_meets ⟨_,ho,rfl⟩ ⟨_,ho2,rfl⟩ noFill_tuple_add seq_tuple_add Uo Ui (Ug _ _)
   (tuple_addW1 t b vs.toArray ws.toArray n n2 dd dd2 sl sl2 (by simpa using hv) (by simp[hw])) ⟨ho,ho2,h1 hw⟩
 ·refine concat_meets ⟨_,ho,rfl⟩ ⟨_,ho2,rfl⟩ noFill_tuple_add seq_tuple_add Uo Ui (Ug _ _)
   (tuple_addW2 t b vs.toArray ws.toArray n n2 dd dd2 sl sl2 (by simpa using hv) (by simpa using hw) (by rw[Qk,Qk];exact hsz)) ⟨ho,ho2,?_⟩
  rw[e];exact h2 hw
def sIx (n d:Nat):Option Int->Nat
 | none=>d
 | some v=>if v<0 then (v+(n:Int)).toNat else min v.toNat n
theorem aKd (n d:Nat):sIx n d none=d:=rfl
theorem aM3 (n d k:Nat):sIx n d (some (k:Int))=min k n:=by
 show (if (k:Int)<0 then ((k:Int)+(n:Int)).toNat else min (k:Int).toNat n)=min k n;rw[if_neg (by omega),Zh]
theorem aZ2 (n d:Nat)(hd:d<=n)(o:Option Int):sIx n d o<=n:=by
 cases o with
 | none=>exact hd
 | some v=>
  show (if v<0 then (v+(n:Int)).toNat else min v.toNat n)<=n;by_cases hv:v<0
  ·rw[if_pos hv];omega
  ·rw[if_neg hv];exact Nat.min_le_right _ _
theorem bCo (v:Int)(n d:Nat):(if v<0 then max (v+(n:Int)) 0 else min v (n:Int))=((sIx n d (some v):Nat):Int):=by
 show (if v<0 then max (v+(n:Int)) 0 else min v (n:Int))=(((if v<0 then (v+(n:Int)).toNat else min v.toNat n):Nat):Int);by_cases hv:v<0
 ·simp only[if_pos hv];omega
 ·simp only[if_neg hv];omega
theorem aYz (lo hi:Option Int)(n:Nat):Builtin.Slice.sliceAdjust lo hi 1 (n:Int)=(((sIx n 0 lo:Nat):Int),((sIx n n hi:Nat):Int)):=by
 have h1:¬((1:Int)<0):=by omega
 unfold Builtin.Slice.sliceAdjust;simp only[h1,if_false];refine Prod.ext ?_ ?_
 ·cases lo with
  | none=>rfl
  | some v=>exact bCo v n 0
 ·cases hi with
  | none=>rfl
  | some v=>exact bCo v n n
theorem aX4 (i j:Nat):Jk (i:Int) (j:Int) 1=j-i:=by
 unfold Jk;have h1:(1:Int)>0:=by omega
 simp only[h1,if_true,Int.ediv_one];split<;>omega
theorem aPb {v:Qc}{o:Option Int}{Q:Option Int->Qe->Prop}(p:IsPart v o)(h:Q o s):Qs (Qp prog w) A (Builtin.Slice.slicePartIndex v) Q E s:=by
 cases p with
 | none=>exact slicePart_none h
 | int i t=>exact slicePart_int h
theorem aHl {sl:Addr}{vl vu:Qc}{lo hi:Option Int}{n:Nat}{Q:Int×Int×Nat->Qe->Prop}(hs:s.heap.IsSliceOf sl vl vu .none)(pl:IsPart vl lo)(pu:IsPart vu hi)
  (h:Q (((sIx n 0 lo:Nat):Int),1,sIx n n hi-sIx n 0 lo) s):Qs (Qp prog w) A (Builtin.Slice.sliceApplied (.ref sl) (pure (n:Int))) Q E s:=by
 obtain⟨os,hos,hcs,hds⟩:=id hs;unfold Builtin.Slice.sliceApplied Builtin.Slice.sliceFields;refine Qb (Qb (wpAny_field hos hds (x:=vl) rfl (Qb (wpAny_field hos hds (x:=vu) rfl (Qb (wpAny_field hos hds (x:= .none) rfl (Qf ?_)))))));refine Qb (slicePart_none ?_);show Qs _ _ (if ((1:Int)==0)=true then _ else _) _ _ s;rw[if_neg (by decide)];refine Qb (aPb pl (Qb (aPb pu (Qb (Qf ?_)))));show Qs _ _ (match Builtin.Slice.sliceAdjust lo hi 1 (n:Int) with |(lo,hi)=>pure (lo,(1:Int),Jk lo hi 1)) _ _ s;rw[aYz lo hi n];show Qs _ _ (pure (((sIx n 0 lo:Nat):Int),(1:Int),Jk ((sIx n 0 lo:Nat):Int) ((sIx n n hi:Nat):Int) 1)) _ _ s;rw[aX4];exact Qf h
theorem bEd (xs:Array Qc)(i k:Nat):((Zj k).filterMap fun (m:Nat)=>xs[((i:Int)+(m:Int)*1).toNat]?).toArray=((xs.toList.drop i).take k).toArray:=by
 have e:(fun (m:Nat)=>xs[((i:Int)+(m:Int)*1).toNat]?)=fun m=>xs[i+m]? :=by
  funext m
  have:((i:Int)+(m:Int)*1).toNat=i+m:=by omega
  rw[this]
 rw[e];have:=pick_run xs i k;rw[List.filterMap_map] at this;have e2:((fun x=>xs[x]?)∘fun x=>i+x)=fun m=>xs[i+m]? :=rfl
 rw[e2] at this;rw[this]
theorem aK7 {t sl:Addr}{items:Array Qc}{vl vu:Qc}{lo hi:Option Int}{Q:Qc->Qe->Prop}(ht:IsTup s.heap t items)(hs:s.heap.IsSliceOf sl vl vu .none)(pl:IsPart vl lo)(pu:IsPart vu hi)
  (hw:¬(sIx items.size 0 lo=0/\sIx items.size items.size hi=items.size))
  (h:Q (.ref s.heap.objs.size) {s with heap:=s.heap.push {cls:= .type "tuple",data:= .seq ((items.toList.drop (sIx items.size 0 lo)).take (sIx items.size items.size hi-sIx items.size 0 lo)).toArray}})
  (hsz:items.size<=Q0):Qs (Qp prog w) A (getItem (.ref t) (.ref sl)) Q E s:=by
 have bFb:sizeOk (.seq ((items.toList.drop (sIx items.size 0 lo)).take (sIx items.size items.size hi-sIx items.size 0 lo)).toArray):=by
  show ((items.toList.drop (sIx items.size 0 lo)).take (sIx items.size items.size hi-sIx items.size 0 lo)).toArray.size<=Q0;rw[Qk,Za,Z5,Zt];omega
 have hj:sIx items.size items.size hi<=items.size:=aZ2 _ _ (Qr _) hi;obtain⟨os,hos,hcs,hds⟩:=id hs;have hTs:s.TypeIs (.ref sl) "slice":=⟨os,hos,hcs⟩;unfold getItem
 try with_reducible refine Yn ?_
 first | refine Qb (Qf ?_) | skip
 refine Qb (wpAny_sequenceKey ht.typeIs (by decide) ?_);refine Qb (Y4 (name:=Yx "__getitem__") ht.typeIs Y6
  (Z6 Y6 ht.typeIs entry_tuple_getitem ?_ (args_tuple_getitem _ _)))
 show Qs _ _ (Builtin.Tuple.tupleItemsOf (.ref t)>>=_) _ _ s;refine Qb (tupleItemsOf_ ht ?_);refine Qb (wpAny_typeOf hTs ?_);rw[if_pos (by decide)];refine Qb (aHl hs pl pu ?_);have hno:¬((((sIx items.size 0 lo:Nat):Int)==0&&(1:Int)==1&&(sIx items.size items.size hi-sIx items.size 0 lo)==items.size)=true):=by
  intro q;rw[Qw,Qw] at q;have q1:((sIx items.size 0 lo:Nat):Int)=0:=eq_of_beq q.1.1;have q2:sIx items.size items.size hi-sIx items.size 0 lo=items.size:=eq_of_beq q.2;exact hw ⟨by omega,by omega⟩
 show Qs _ _ (if (((sIx items.size 0 lo:Nat):Int)==0&&(1:Int)==1&&(sIx items.size items.size hi-sIx items.size 0 lo)==items.size)=true then _ else _) _ _ s;rw[if_neg hno,bEd]
 first
  | exact Qb (m:=Builtin.Tuple.tupleExact _) (Yp (Qf ⟨_,rfl,Qf h⟩) bFb)
  | exact Qb (m:=Builtin.Tuple.tupleExact _) (Yp (Qb (Qf (Qf ⟨_,rfl,Qf h⟩))) bFb)
  | exact Qb (Qb (m:=Builtin.Tuple.tupleExact _) (Yp (Qf (Qf ⟨_,rfl,Qf h⟩)) bFb))
  | exact Qb (Qb (m:=Builtin.Tuple.tupleExact _) (Yp (Qf ⟨_,rfl,Qf h⟩) bFb))
end
end HT
namespace L2
open PySem PySem.Spec PyProof.Rows
abbrev TO:=St->Hp->(Option Int->Hp->Prop)->Prop
def PO (X:Cx)(e:Option Expr)(t:TO):Prop:=
 ∀(pins:List (Addr×Obj)) (s:Qe) (σ:St) (H:Hp) (Q:Option Int->Hp->Prop),Inv X pins σ H s->t σ H Q->
  Qs (Qp X.prog X.w) X.A (evalPart e X.env) (fun u s'=> ∃o H',Inv X pins σ H' s'/\IsPart u o/\Q o H') X.xe s
def bH6:TO:=fun _ H Q=>Q none H
def bPc (t:TE):TO:=fun σ H Q=>t σ H fun x H1=> ∃i,x= .int i/\Q (some i) H1
section
variable {X:Cx}{e:Expr}{te:TE}{lo hi:Option Expr}{tl th:TO}{pos p2:Pos}
theorem bIp:PO X none bH6:=by
 intro pins s σ H Q I h;rw[evalPart_none];exact Qf ⟨none,H,I,.none,h⟩
theorem bIo (h:PE X e te):PO X (some e) (bPc te):=by
 intro pins s σ H Q I hw;rw[evalPart_some];refine thn (h pins s σ H _ I hw) fun u s1 ⟨x,H1,I1,r1,q1⟩=> ?_
 obtain⟨i,rfl,q⟩:=q1;obtain⟨t,rfl⟩:=r1;exact⟨some i,H1,I1,.int i t,q⟩
def SlR (X:Cx)(r:V->Option Int->Option Int->Hp->VK->Prop):Prop:=
 ∀(pins:List (Addr×Obj)) (s:Qe) (σ:St) (H:Hp) (x:V) (v vl vu:Qc) (lo hi:Option Int) (sl:Addr) (Q:VK),Inv X pins σ H s->RelV x v->s.heap.IsSliceOf sl vl vu .none->IsPart vl lo->IsPart vu hi->r x lo hi H Q->
  ∃T id,typeLookup (.type T) "__getitem__"=pure (some (.builtin id))/\s.TypeIs v T/\Qs (Qp X.prog X.w) X.A (getItem v (.ref sl)) (EP X pins σ Q) X.xe s
theorem SlR.or {r r':V->Option Int->Option Int->Hp->VK->Prop}(h:SlR X r)(h':SlR X r'):SlR X (fun x lo hi H Q=>r x lo hi H Q\/r' x lo hi H Q):=by
 intro pins s σ H x v vl vu lo hi sl Q I rx hs pl pu q;rcases q with q | q
 ·exact h pins s σ H x v vl vu lo hi sl Q I rx hs pl pu q
 ·exact h' pins s σ H x v vl vu lo hi sl Q I rx hs pl pu q
def tSl (r:V->Option Int->Option Int->Hp->VK->Prop)(te:TE)(tl th:TO):TE:=fun σ H Q=>te σ H fun x H1=>tl σ H1 fun l H2=>th σ H2 fun u H3=>r x l u H3 Q
theorem bEe {r:V->Option Int->Option Int->Hp->VK->Prop}(hr:SlR X r)(he:PE X e te)(hl:PO X lo tl)(hu:PO X hi th):PE X (.Subscript e (.Slice lo hi none p2) pos) (tSl r te tl th):=by
 intro pins s σ H Q I h;refine Subscript_ (thn (he pins s σ H _ I h) fun v s1 ⟨x,H1,I1,r1,q1⟩=> ?_);refine wpAny_Slice (thn (hl pins s1 σ H1 _ I1 q1) fun vl s2 ⟨l,H2,I2,pl,q2⟩=>thn (hu pins s2 σ H2 _ I2 q2) fun vu s3 ⟨u,H3,I3,pu,q3⟩=> ?_);rw[evalPart_none];refine Qf ?_;have I4:Inv X pins σ H3 {s3 with heap:=s3.heap.push {cls:= .type "slice",data:= .fields #[vl,vu,.none]}}:=I3.kept (t':=s3.toks) fun b ob q=>Qg _ q
 obtain⟨T,id,hT,ht,hg⟩:=hr pins {s3 with heap:=s3.heap.push {cls:= .type "slice",data:= .fields #[vl,vu,.none]}} σ H3 x v vl vu l u s3.heap.objs.size Q I4 r1 (Heap.IsSliceOf.new ..) pl pu q3;show Qs (Qp X.prog X.w) X.A (subscriptTail e (.Slice lo hi none p2) v (.ref s3.heap.objs.size)) (EP X pins σ Q) X.xe {s3 with heap:=s3.heap.push {cls:= .type "slice",data:= .fields #[vl,vu,.none]}};exact tail_any (ops:=[.ref s3.heap.objs.size,v]) ht hT hg (by with_unfolding_all rfl)
def bHs (xs:List V)(lo hi:Option Int):List V:=(xs.drop (HT.sIx xs.length 0 lo)).take (HT.sIx xs.length xs.length hi-HT.sIx xs.length 0 lo)
theorem aNz (xs:List V)(lo hi:Option Int):(bHs xs lo hi).length<=xs.length:=by
 unfold bHs;rw[Za,Z5];omega
def bSb (K:Qa):V->Option Int->Option Int->Hp->VK->Prop:=fun x lo hi H Q=> ∃a xs,x= .ref a/\SqT K H a xs/\
 ¬(HT.sIx xs.length 0 lo=0/\HT.sIx xs.length xs.length hi=xs.length)/\∀p,H p=none->Q (.ref p) (upd H p (.tup (bHs xs lo hi)))
theorem bLr:SlR X (bSb X.K):=by
 intro pins s σ H x v vl vu lo hi sl Q I rx hs pl pu h;obtain⟨a,xs,rfl,hx,hw,q⟩:=h;cases rx;obtain⟨its,r,ht,hz⟩:=I.tuple hx;have hlen:its.toArray.size=xs.length:=by rw[Qk];exact r.length.symm
 refine⟨"tuple",_,PyProof.Rows.slot_tuple_getitem.lookup,ht.typeIs,?_⟩;refine HT.aK7 ht hs pl pu (by rw[hlen];exact hw) ?_ (by rw[hlen];exact hz);rw[hlen];refine⟨.ref s.heap.objs.size,_,I.laid (t':=s.toks) (o:= .tup (bHs xs lo hi)) (fun b ob q=>Qg _ q) (Qr _) ?_,rfl,q _ (I.hok.fresh (Qr _))⟩;exact⟨Z2 (aNz xs lo hi) hz,_,(r.drop (HT.sIx xs.length 0 lo)).take (HT.sIx xs.length xs.length hi-HT.sIx xs.length 0 lo),bDh.new _ _⟩
def bL7 (K:Qa):R2:=fun x y H Q=> ∃a b xs ys,x= .ref a/\y= .ref b/\SqT K H a xs/\SqT K H b ys/\xs≠[]/\xs.length+ys.length<=Q0/\
 (ys=[]->Q (.ref a) H)/\(ys≠[]->∀p,H p=none->Q (.ref p) (upd H p (.tup (xs++ys))))
theorem Vals.aRe {xs:List V}{us:List Qc}(r:Vals xs us):us=[]↔xs=[]:=by
 cases r with
 | nil=>simp
 | cons _ _=>simp
theorem bJe:OpR X (binaryOp .Add) (bL7 X.K):=by
 intro pins s σ H x y v u Q I rx ry h;obtain⟨a,b,xs,ys,rfl,rfl,ha,hb,hx,hz,q1,q2⟩:=h;cases rx;cases ry;obtain⟨its,r1,p1,_⟩:=I.tuple ha;obtain⟨its2,r2,p2,_⟩:=I.tuple hb;refine HT.bKx p1 p2 (fun z=>hx (r1.aRe.mp z)) (fun z=>⟨.ref a,H,I,rfl,q1 (r2.aRe.mp z)⟩) (fun z=> ?_) (by rw[<-r1.length,<-r2.length];exact hz);refine⟨.ref s.heap.objs.size,_,I.laid (t':=s.toks) (o:= .tup (xs++ys)) (fun b ob q=>Qg _ q) (Qr _) ?_,rfl,q2 (fun w=>z (r2.aRe.mpr w)) _ (I.hok.fresh (Qr _))⟩;exact⟨by rw[Ql];exact hz,_,r1.append r2,bDh.new _ _⟩
end
def ixN (n:Nat)(i:Int):Option Nat:=if 0<=i then (if i<n then some i.toNat else none) else if-(n:Int)<=i then some (i+n).toNat else none
def atI {α:Type}(xs:List α)(i:Int):Option α:=(ixN xs.length i).bind fun j=>xs[j]?
theorem bJ2 {n:Nat}{i:Int}{j:Nat}(h:ixN n i=some j):seqIndex? i n=some j/\j<n/\ -(n:Int)<=i/\i<n:=by
 unfold ixN at h;by_cases h0:0<=i
 ·rw[if_pos h0] at h
  by_cases h1:i<n
  ·rw[if_pos h1] at h
   have e:i.toNat=j:=Option.some.inj h;exact⟨by rw[seqIndex_of h0 h1,e],by omega,by omega,h1⟩
  ·rw[if_neg h1] at h;cases h
 ·rw[if_neg h0] at h
  by_cases h1: -(n:Int)<=i
  ·rw[if_pos h1] at h
   have e:(i+n).toNat=j:=Option.some.inj h;exact⟨by rw[seqIndex_neg (by omega) h1,e],by omega,h1,by omega⟩
  ·rw[if_neg h1] at h;cases h
theorem aV6 {α:Type}{xs:List α}{i:Int}{v:α}(h:atI xs i=some v): ∃j,seqIndex? i xs.length=some j/\xs[j]? =some v/\j<xs.length/\ -(xs.length:Int)<=i/\i<xs.length:=by
 unfold atI at h;cases e:ixN xs.length i with
 | none=>rw[e] at h;cases h
 | some j=>
  rw[e] at h;obtain⟨h1,h2,h3,h4⟩:=bJ2 e;exact⟨j,h1,h,h2,h3,h4⟩
theorem aN0 {α:Type}{xs:List α}{j:Nat}{v:α}(h:xs[j]? =some v):atI xs (j:Int)=some v:=by
 have hj:j<xs.length:=(List.getElem?_eq_some_iff.mp h).1;have e:ixN xs.length (j:Int)=some j:=by
  unfold ixN;rw[if_pos (by omega),if_pos (by omega)];simp
 unfold atI;rw[e];exact h
def bC3 (b:Expr):Prop:= ∀o i,subscripted b false o i=operate [o,i] (getItem o i)
def IxR (X:Cx)(r:R2):Prop:=
 ∀(value slice:Expr) (pins:List (Addr×Obj)) (s:Qe) (σ:St) (H:Hp) (x y:V) (v u:Qc) (Q:VK),Inv X pins σ H s->RelV x v->RelV y u->r x y H Q->
  subscripted slice false v u=operate [v,u] (getItem v u)->Qs (Qp X.prog X.w) X.A (subscriptTail value slice v u) (EP X pins σ Q) X.xe s
def MtR (X:Cx)(id:String)(r:V->List V->Hp->VK->Prop):Prop:=
 ∀(pins:List (Addr×Obj)) (s:Qe) (σ:St) (H:Hp) (x:V) (xs:List V) (v:Qc) (us:List Qc) (Q:VK),Inv X pins σ H s->RelV x v->Vals xs us->r x xs H Q->
  Qs (Qp X.prog X.w) X.A (call (.builtin id) (v::us)) (EP X pins σ Q) X.xe s
section
variable {X:Cx}{a b:Expr}{ta tb:TE}{pos:Pos}
theorem IxR.or {r r':R2}(h:IxR X r)(h':IxR X r'):IxR X (fun x y H Q=>r x y H Q\/r' x y H Q):=by
 intro value slice pins s σ H x y v u Q I rx ry q hs;rcases q with q | q
 ·exact h value slice pins s σ H x y v u Q I rx ry q hs
 ·exact h' value slice pins s σ H x y v u Q I rx ry q hs
theorem bPy {r:R2}(hr:IxR X r)(ha:PE X a ta)(hb:PE X b tb)(hs:bC3 b):PE X (.Subscript a b pos) (tOp r ta tb):=by
 intro pins s σ H Q I h;exact Subscript_ (bQv ha hb I h fun v u s2 x y H2 I2 rx ry q=>hr a b pins s2 σ H2 x y v u Q I2 rx ry q (hs _ _))
def bRg (K:Qa):R2:=fun x y H Q=> ∃p xs i v,x= .ref p/\y= .int i/\SqL K H p xs/\atI xs i=some v/\Q v H
def bRe (K:Qa):R2:=fun x y H Q=> ∃p xs i v,x= .ref p/\y= .int i/\SqT K H p xs/\atI xs i=some v/\Q v H
def bRf:R2:=fun x y H Q=> ∃z i c,x= .str z/\y= .int i/\z.length<=Q0/\atI z.cps.toList i=some c/\Q (.str ⟨#[c]⟩) H
theorem bJ1:IxR X (bRg X.K):=by
 intro value slice pins s σ H x y v u Q I rx ry h hs;obtain⟨p,xs,i,z,rfl,rfl,hq,he,q⟩:=h;cases rx;obtain⟨t,rfl⟩:=ry;obtain⟨its,r,pl,hz⟩:=I.list hq;obtain⟨j,h1,h2,h3,h4,h5⟩:=aV6 he;obtain⟨w,ew,rw'⟩:=r.get h2;have hl:=r.length;have hn:=aS6;have fin:EP X pins σ Q w s:=⟨z,H,I,rw',q⟩;by_cases h0:0<=i
 ·have hj:i.toNat=j:=by
   rw[seqIndex_of h0 h5] at h1;exact Option.some.inj h1
  exact item_listR pl.isList h0 (by omega) (by rw[hj];simpa using ew) fin hs
 ·have hj:(i+(its.toArray.size:Int)).toNat=j:=by
   rw[seqIndex_neg (by omega) h4] at h1;rw[Qk,<-hl];exact Option.some.inj h1
  exact subscriptTail_builtinR (x:=w) pl.isList.typeIs slot_list_getitem.lookup
   (wpAny_getItem_list_neg (Q:=fun r s'=>r=w/\EP X pins σ Q r s') pl.isList (by omega) (by rw[Qk]<;>omega) (by omega) (by rw[hj];simpa using ew) ⟨rfl,fin⟩) hs
theorem aAw:IxR X (bRe X.K):=by
 intro value slice pins s σ H x y v u Q I rx ry h hs;obtain⟨p,xs,i,z,rfl,rfl,hq,he,q⟩:=h;cases rx;obtain⟨t,rfl⟩:=ry;obtain⟨its,r,pl,hz⟩:=I.tuple hq;obtain⟨j,h1,h2,h3,h4,h5⟩:=aV6 he;obtain⟨w,ew,rw'⟩:=r.get h2;have hl:=r.length;have hn:=aS6;have fin:EP X pins σ Q w s:=⟨z,H,I,rw',q⟩;exact subscriptTail_builtinR (x:=w) pl.typeIs slot_tuple_getitem.lookup
  (getItem_tuple (j:=j) (Q:=fun r s'=>r=w/\EP X pins σ Q r s') pl (by omega) (by omega) (by rw[Qk,<-hl];exact h1) (by simpa using ew) ⟨rfl,fin⟩) hs
theorem bNw:IxR X bRf:=by
 intro value slice pins s σ H x y v u Q I rx ry h hs;obtain⟨z,i,c,rfl,rfl,hz,he,q⟩:=h;obtain⟨t,rfl⟩:=rx;obtain⟨t',rfl⟩:=ry;obtain⟨j,h1,h2,h3,h4,h5⟩:=aV6 he;have hl:z.cps.toList.length=z.length:=by simp[Str.length]
 rw[hl] at h1 h4 h5;have hn:=aS6;exact tail_any (typeIs_str s z t) slot_str_getitem.lookup (getItem_str (c:=c) (by
  have e1:decide (i< -(2^63:Int))=false:=decide_eq_false (by omega);have e2:decide (i≥2^63)=false:=decide_eq_false (by omega);rw[e1,e2,Bool.or_false]) (by rw[h1];simpa using h2) ⟨.str ⟨#[c]⟩,H,I.tok _,⟨_,rfl⟩,q⟩) hs
def rIx (K:Qa):R2:=fun x y H Q=>bRg K x y H Q\/bRe K x y H Q\/bRf x y H Q
theorem bNx:IxR X (rIx X.K):=bJ1.or (aAw.or bNw)
theorem aSl (lo hi:Option Int)(n:Nat):(sliceBounds lo hi none n).1=((HT.sIx n 0 lo:Nat):Int)/\(sliceBounds lo hi none n).2.1=((HT.sIx n n hi:Nat):Int)/\(sliceBounds lo hi none n).2.2=1:=by
 refine⟨?_,?_,rfl⟩
 ·cases lo with
  | none=>simp[sliceBounds,HT.sIx]
  | some i=>
   simp only[sliceBounds,HT.sIx,Uk,show (1:Int)>0 by decide,if_true];by_cases h:i<0
   ·simp only[h,if_true]<;>omega
   ·simp only[h,if_false]<;>omega
 ·cases hi with
  | none=>simp[sliceBounds,HT.sIx]
  | some i=>
   simp only[sliceBounds,HT.sIx,Uk,show (1:Int)>0 by decide,if_true];by_cases h:i<0
   ·simp only[h,if_true]<;>omega
   ·simp only[h,if_false]<;>omega
theorem aQi (its:List Qc)(lo hi:Option Int):slicePick its.toArray lo hi none=((its.drop (HT.sIx its.length 0 lo)).take (HT.sIx its.length its.length hi-HT.sIx its.length 0 lo)).toArray:=by
 obtain⟨h1,h2,h3⟩:=aSl lo hi its.toArray.size;unfold slicePick;rw[h1,h2,h3];simp only[sliceRange_one,pick_run,Qk]<;>rfl
def bSd (K:Qa):V->Option Int->Option Int->Hp->VK->Prop:=fun x lo hi H Q=> ∃a xs,x= .ref a/\SqL K H a xs/\∀p,H p=none->Q (.ref p) (upd H p (.lst (bHs xs lo hi)))
theorem bIc:SlR X (bSd X.K):=by
 intro pins s σ H x v vl vu lo hi sl Q I rx hs pl pu h;obtain⟨a,xs,rfl,hx,q⟩:=h;cases rx;obtain⟨its,r,ht,hz⟩:=I.list hx;have hlen:=r.length;refine⟨"list",_,slot_list_getitem.lookup,ht.isList.typeIs,?_⟩;refine wpAny_getItem_list_slice ht.isList hs pl pu .none (by simp) ?_ (by rw[Qk]<;>omega);rw[aQi,<-hlen];refine⟨.ref s.heap.objs.size,_,I.laid (t':=s.toks) (o:= .lst (bHs xs lo hi)) (fun b ob q=>Qg _ q) (Qr _) ?_,rfl,q _ (I.hok.fresh (Qr _))⟩;exact⟨Z2 (aNz xs lo hi) hz,_,0,(r.drop (HT.sIx xs.length 0 lo)).take (HT.sIx xs.length xs.length hi-HT.sIx xs.length 0 lo),Qx _ rfl⟩
def aOz:V->Bool
 | .non=>true
 | .bl _=>true
 | .int _=>true
 | .str _=>true
 | _=>false
def eqV:V->V->Bool
 | .non,.non=>true
 | .bl a,.bl b=>a==b
 | .bl a,.int b=>(if a then 1 else 0)==b
 | .int a,.bl b=>a==(if b then 1 else 0)
 | .int a,.int b=>a==b
 | .str a,.str b=>a==b
 | _,_=>false
theorem bOf {A:Zb}{s:Qe}{y x:V}{u v:Qc}(ry:RelV y u)(rx:RelV x v)(fy:aOz y=true)(fx:aOz x=true):SeqAt.EqAt A s u v (eqV y x):=by
 cases y with
 | non=>
  cases ry;cases x with
  | non=>cases rx;exact SeqAt.EqAt.same _
  | bl b=>cases rx;exact SeqAt.EqAt.none_bool b
  | int b=>obtain⟨t,rfl⟩:=rx;exact SeqAt.EqAt.none_int b t
  | str b=>obtain⟨t,rfl⟩:=rx;exact SeqAt.EqAt.none_str b t
  | _=>exact absurd (show false=true from fx) Q7
 | bl a=>
  cases ry;cases x with
  | non=>cases rx;exact SeqAt.EqAt.bool_none a
  | bl b=>cases rx;exact SeqAt.EqAt.bool_bool a b
  | int b=>obtain⟨t,rfl⟩:=rx;exact SeqAt.EqAt.bool_int a b t
  | str b=>obtain⟨t,rfl⟩:=rx;exact SeqAt.EqAt.bool_str a b t
  | _=>exact absurd (show false=true from fx) Q7
 | int a=>
  obtain⟨t',rfl⟩:=ry;cases x with
  | non=>cases rx;exact SeqAt.EqAt.int_none a t'
  | bl b=>cases rx;exact SeqAt.EqAt.int_bool a t' b
  | int b=>obtain⟨t,rfl⟩:=rx;exact SeqAt.EqAt.int_int a t' b t
  | str b=>obtain⟨t,rfl⟩:=rx;exact SeqAt.EqAt.int_str a t' b t
  | _=>exact absurd (show false=true from fx) Q7
 | str a=>
  obtain⟨t',rfl⟩:=ry;cases x with
  | non=>cases rx;exact SeqAt.EqAt.str_none a t'
  | bl b=>cases rx;exact SeqAt.EqAt.str_bool a t' b
  | int b=>obtain⟨t,rfl⟩:=rx;exact SeqAt.EqAt.str_int a t' b t
  | str b=>obtain⟨t,rfl⟩:=rx;exact SeqAt.EqAt.str_str a t' b t
  | _=>exact absurd (show false=true from fx) Q7
 | _=>exact absurd (show false=true from fy) Q7
def eqU (x:V)(u:Qc):Bool:=match u with
 | .none=>eqV .non x
 | .bool b=>eqV (.bl b) x
 | .int i _=>eqV (.int i) x
 | .str z _=>eqV (.str z) x
 | _=>false
theorem bHn {x y:V}{u:Qc}(r:RelV y u)(f:aOz y=true):eqU x u=eqV y x:=by
 cases y with
 | non=>cases r;rfl
 | bl b=>cases r;rfl
 | int i=>obtain⟨t,rfl⟩:=r;rfl
 | str z=>obtain⟨t,rfl⟩:=r;rfl
 | _=>exact absurd (show false=true from f) Q7
theorem aN1 {x:V}: ∀{xs:List V} {us:List Qc},Vals xs us->xs.all aOz=true->us.any (eqU x)=xs.any fun y=>eqV y x
 | _,_,.nil,_=>rfl
 | y::xs,u::us,.cons r t,f=>by
  rw[Zo,Qw] at f;rw[Jm,Jm,bHn r f.1,aN1 t f.2]
theorem aKm {A:Zb}{s:Qe}{x:V}{v:Qc}(rx:RelV x v)(fx:aOz x=true): ∀{xs:List V} {us:List Qc},Vals xs us->xs.all aOz=true->∀u∈us,SeqAt.EqAt A s u v (eqU x u)
 | _,_,.nil,_=>fun u hu=>by cases hu
 | y::xs,u::us,.cons r t,f=>fun u' hu=>by
  rw[Zo,Qw] at f;rcases List.mem_cons.mp hu with rfl | hu
  ·rw[bHn r f.1];exact bOf r rx f.1 fx
  ·exact aKm rx fx t f.2 u' hu
def inV (x:V)(xs:List V):Bool:=xs.any fun y=>eqV y x
def rIn (K:Qa)(neg:Bool):R2:=fun x y H Q=> ∃p xs,y= .ref p/\(SqL K H p xs\/SqT K H p xs)/\aOz x=true/\xs.all aOz=true/\Q (.bl (if neg then !inV x xs else inV x xs)) H
theorem bAz:OpR X (Yj .In) (rIn X.K false):=by
 intro pins s σ H x y v u Q I rx ry h;obtain⟨p,xs,rfl,hq,fx,fs,q⟩:=h;cases ry;rcases hq with hq | hq
 ·obtain⟨its,r,pl,hz⟩:=I.list hq
  refine SeqAt.in_listAt (eqU x) pl.isList (fun w hw=>aKm rx fx r fs w (by simpa using hw)) ⟨.bl _,H,I,rfl,?_⟩;rw[show its.toArray.any (eqU x)=its.any (eqU x) by simp,aN1 r fs];exact q
 ·obtain⟨its,r,pl,hz⟩:=I.tuple hq
  refine SeqAt.in_tupleAt (eqU x) pl (fun w hw=>aKm rx fx r fs w (by simpa using hw)) ⟨.bl _,H,I,rfl,?_⟩;rw[show its.toArray.any (eqU x)=its.any (eqU x) by simp,aN1 r fs];exact q
theorem aSx:OpR X (Yj .NotIn) (rIn X.K true):=by
 intro pins s σ H x y v u Q I rx ry h;obtain⟨p,xs,rfl,hq,fx,fs,q⟩:=h;cases ry;rcases hq with hq | hq
 ·obtain⟨its,r,pl,hz⟩:=I.list hq
  refine SeqAt.notIn_listAt (eqU x) pl.isList (fun w hw=>aKm rx fx r fs w (by simpa using hw)) ⟨.bl _,H,I,rfl,?_⟩;rw[show its.toArray.any (eqU x)=its.any (eqU x) by simp,aN1 r fs];exact q
 ·obtain⟨its,r,pl,hz⟩:=I.tuple hq
  refine SeqAt.notIn_tupleAt (eqU x) pl (fun w hw=>aKm rx fx r fs w (by simpa using hw)) ⟨.bl _,H,I,rfl,?_⟩;rw[show its.toArray.any (eqU x)=its.any (eqU x) by simp,aN1 r fs];exact q
theorem aL4:aHk X (.builtin "len") (fun xs H Q=> ∃p ys,xs=[.ref p]/\(SqL X.K H p ys\/SqT X.K H p ys)/\Q (.int ys.length) H):=by
 intro pins s σ H xs us Q I r h;obtain⟨p,ys,rfl,hq,q⟩:=h;obtain⟨u,rfl,rx⟩:=vals1 r;cases rx;have hn:=aS6;rcases hq with hq | hq
 ·obtain⟨its,r',pl,hz⟩:=I.list hq
  have hlen:=r'.length;exact Calls.call_len_list pl.isList (by simp only[Qk]<;>omega) ⟨.int ys.length,H,I.tok _,⟨s.toks+1,by rw[Qk,hlen]⟩,q⟩
 ·obtain⟨its,r',pl,hz⟩:=I.tuple hq
  have hlen:=r'.length;exact len_tuple pl (by simp only[Qk]<;>omega) ⟨.int ys.length,H,I.tok _,⟨s.toks+1,by rw[Qk,hlen]⟩,q⟩
theorem aHk.or {f:Qc}{r r':List V->Hp->VK->Prop}(h:aHk X f r)(h':aHk X f r'):aHk X f (fun xs H Q=>r xs H Q\/r' xs H Q):=by
 intro pins s σ H xs us Q I rs q;rcases q with q | q
 ·exact h pins s σ H xs us Q I rs q
 ·exact h' pins s σ H xs us Q I rs q
theorem aL3:aHk X (.type "list") (fun xs H Q=> ∃p ys,xs=[.ref p]/\(SqL X.K H p ys\/SqT X.K H p ys)/\∀l,H l=none->Q (.ref l) (upd H l (.lst ys))):=by
 intro pins s σ H xs us Q I r h;obtain⟨p,ys,rfl,hq,q⟩:=h;obtain⟨u,rfl,rx⟩:=vals1 r;cases rx;have fin: ∀(its:List Qc),Vals ys its->ys.length<=Q0->∀(h':Heap) (c':Nat),(∀b o',s.heap.get? b=some o'->h'.get? b=some o')->
   h'.get? s.heap.objs.size=some {cls:= .type "list",dict:=none,data:= .seq its.toArray c',slots:= #[]}->EP X pins σ Q (.ref s.heap.objs.size) {s with heap:=h'}:=fun its r' hz h' c' kp e=>
  ⟨.ref s.heap.objs.size,_,I.laid (t':=s.toks) kp (Qr _) (show aCe X.prog X.w _ h' _ (.lst ys) from⟨hz,its,c',r',e⟩),rfl,q _ (I.hok.fresh (Qr _))⟩
 rcases hq with hq | hq
 ·obtain⟨its,r',pl,hz⟩:=I.list hq
  have hlen:=r'.length;obtain⟨o,ho,hc,n,hd⟩:=pl.isList;exact call_list_seq p (.inl rfl) ho hc hd (fun h' c' kp e=>fin its r' hz h' c' kp e) (by simp only[Qk]<;>omega)
 ·obtain⟨its,r',pl,hz⟩:=I.tuple hq
  have hlen:=r'.length;obtain⟨o,ho,hc,n,hd⟩:=pl;exact call_list_seq p (.inr rfl) ho hc hd (fun h' c' kp e=>fin its r' hz h' c' kp e) (by simp only[Qk]<;>omega)
theorem aR0:aHk X (.type "tuple") (fun xs H Q=> ∃p ys,xs=[.ref p]/\((SqL X.K H p ys/\∀l,H l=none->Q (.ref l) (upd H l (.tup ys)))\/(SqT X.K H p ys/\Q (.ref p) H))):=by
 intro pins s σ H xs us Q I r h;obtain⟨p,ys,rfl,h⟩:=h;obtain⟨u,rfl,rx⟩:=vals1 r;cases rx;rcases h with⟨hq,q⟩ |⟨hq,q⟩
 ·obtain⟨its,r',pl,hz⟩:=I.list hq
  have hlen:=r'.length;refine call_tuple_list pl.isList (fun h' kp=> ?_) (by simp only[Qk]<;>omega);have I1:Inv X pins σ H {s with heap:=h'}:=I.kept (t':=s.toks) kp;have I2:Inv X pins σ (upd H h'.objs.size (.tup ys)) {s with heap:=h'.push {cls:= .type "tuple",data:= .seq its.toArray}}:=
   I1.laid (t':=s.toks) (fun b o e=>Qg _ e) (Qr _) (show aCe X.prog X.w _ _ _ (.tup ys) from⟨hz,its,r',bDh.new _ _⟩)
  exact⟨.ref h'.objs.size,_,I2,rfl,q _ (I1.hok.fresh (Qr _))⟩
 ·obtain⟨its,r',pl,hz⟩:=I.tuple hq
  exact call_tuple_same pl ⟨.ref p,H,I,rfl,q⟩
def tyV (K:Qa)(T:String)(x:V)(H:Hp):Prop:=match x with
 | .str _=>T="str"
 | .int _=>T="int"
 | .ref p=>(T="list"/\∃xs,SqL K H p xs)\/(T="tuple"/\∃o,K.lookup p=some o/\o.cls= .type "tuple"/\o.dict=none)\/
   (T="dict"/\((∃kvs,H p=some (.dK kvs))\/∃kvs,H p=some (.dT kvs)))\/(T="set"/\∃S n,H p=some (.set S n))
 | _=>False
theorem bGk {pins:List (Addr×Obj)}{σ:St}{H:Hp}{s:Qe}{T:String}{x:V}{v:Qc}(I:Inv X pins σ H s)(r:RelV x v)(ty:tyV X.K T x H):
  s.TypeIs v T/\∀a,v= .ref a->∃ob,s.heap.get? a=some ob/\ob.dict=none:=by
 cases x with
 | str z=>
  obtain⟨t,rfl⟩:=r;cases (show T="str" from ty);exact⟨typeIs_str s z t,fun _ e=>nomatch e⟩
 | int i=>
  obtain⟨t,rfl⟩:=r;cases (show T="int" from ty);exact⟨typeIs_int s i t,fun _ e=>nomatch e⟩
 | ref p=>
  cases r;rcases ty with⟨rfl,xs,hq⟩ |⟨rfl,o,hk,hc,hd⟩ |⟨rfl,hk⟩ |⟨rfl,S,n,hk⟩
  ·obtain⟨its,_,pl,_⟩:=I.list hq
   refine⟨pl.isList.typeIs,fun a e=> ?_⟩;cases e;obtain⟨o,n,e,c,hd,_⟩:=pl;exact⟨o,e,hd⟩
  ·refine⟨⟨o,I.kIn p o hk,hc⟩,fun a e=> ?_⟩
   cases e;exact⟨o,I.kIn _ o hk,hd⟩
  ·have z: ∃o,s.heap.get? p=some o/\o.ExactDict:=by
    rcases hk with⟨kvs,hk⟩ |⟨kvs,hk⟩
    ·obtain⟨_,_,_,_,o,_,_,e,ex,_⟩:=I.hok p _ hk
     exact⟨o,e,ex⟩
    ·obtain⟨_,_,_,_,o,_,_,e,ex,_⟩:=I.hok p _ hk
     exact⟨o,e,ex⟩
   obtain⟨o,e,ex⟩:=z;refine⟨⟨o,e,ex.1⟩,fun a e2=> ?_⟩;cases e2;exact⟨o,e,ex.2.1⟩
  ·obtain⟨⟨o,_,_,_,e,ex,_⟩,_⟩:=I.hok p _ hk
   refine⟨⟨o,e,ex.1⟩,fun a e2=> ?_⟩;cases e2;exact⟨o,e,ex.2.1⟩
 | _=>exact Qd ty
def bRy (K:Qa)(T:String)(r:V->List V->Hp->VK->Prop)(to:TE):TE:=fun σ H Q=>to σ H fun x H1=>tyV K T x H1/\r x [] H1 Q
def tBM (K:Qa)(T:String)(r:V->List V->Hp->VK->Prop)(to:TE)(t:TA):TE:=fun σ H Q=>to σ H fun x H1=>tyV K T x H1/\t σ H1 fun xs H2=>r x xs H2 Q
variable {o e:Expr}{es:List Expr}{to:TE}{t:TA}{name:Str}{apos cpos:Pos}{T id:String}{r:V->List V->Hp->VK->Prop}
theorem bAl (pa:PlainAttrs T)(slot:Slot T name id)(hty:typeOf (.builtin id)=pure (.type "method_descriptor"))(hm:MtR X id r)(ho:PE X o to)
  (hbase:attributeBase o name X.env (eval o X.env)=eval o X.env:=by rfl) (hline:(apos.endLine==cpos.line)=true:=by rfl):PE X (.Call (.Attribute o name apos) [] [] cpos) (bRy X.K T r to):=by
 intro pins s σ H Q I h;refine wpAny_Call_method0_late hbase hline (thn (ho pins s σ H _ I h) fun v s1 ⟨x,H1,I1,r1,ty,q1⟩=> ?_);obtain⟨h1,h2⟩:=bGk I1 r1 ty;exact⟨T,id,pa,slot,hty,h1,h2,Calls.callWith_builtin rfl (PySem.evalArgs_none (hm pins s1 σ H1 x [] v [] Q I1 r1 .nil q1))⟩
theorem bMp (pa:PlainAttrs T)(slot:Slot T name id)(hty:typeOf (.builtin id)=pure (.type "method_descriptor"))(hm:MtR X id r)(ho:PE X o to)(ha:PA X (e::es) t)
  (hbase:attributeBase o name X.env (eval o X.env)=eval o X.env:=by rfl)
  (hfew:((backTo cpos (Qu (e::es) X.env)).all (fun x=> !x.1)&&(backToKw cpos (keywordEach [] X.env)).all (fun x=>x.1.isSome)
   &&decide ((e::es).length+([]:List Keyword).length+(if ([]:List Keyword).isEmpty then 0 else 1)<30))=true:=by rfl)
  (hline:(apos.endLine==cpos.line)=true:=by rfl) (hs:Qu (e::es) X.env=(false,eval e X.env)::Qu es X.env:=by rfl) (hplain:(backTo cpos (Qu es X.env)).any (·.1)=false:=by rfl):
  PE X (.Call (.Attribute o name apos) (e::es) [] cpos) (tBM X.K T r to t):=by
 intro pins s σ H Q I h;refine wpAny_Call_method_late hbase hfew hline rfl (thn (ho pins s σ H _ I h) fun v s1 ⟨x,H1,I1,r1,ty,q1⟩=> ?_);obtain⟨h1,h2⟩:=bGk I1 r1 ty;refine⟨T,id,pa,slot,hty,h1,h2,?_⟩;have hA:=ha cpos pins s1 σ H1 _ I1 q1;rw[hs] at hA⊢;refine Calls.callWith_builtin (by show (false ||(backTo cpos (Qu es X.env)).any (·.1))=false;rw[hplain]<;>rfl) (Calls.evalArgs_plain ?_);exact thn hA fun us s2 ⟨vs,H2,I2,r2,q2⟩=>hm pins s2 σ H2 x vs v us Q I2 r1 r2 q2
end
def MtM (X:Cx)(id:String)(r:V->List V->Hp->VK->Prop):Prop:=
 ∀(pins:List (Addr×Obj)) (s:Qe) (σ:St) (H:Hp) (x:V) (xs:List V) (v:Qc) (us:List Qc) (Q:VK),Inv X pins σ H s->RelV x v->Vals xs us->r x xs H Q->
  Qs (Qp X.prog X.w) X.A (call (.builtin id) (v::us)) (EP X pins σ Q) X.xe s
theorem Vals.one {x:V}{us:List Qc}(h:Vals [x] us): ∃u,us=[u]/\RelV x u:=by
 cases h with | cons r t=>cases t;exact⟨_,rfl,r⟩
theorem Vals.two: ∀{x y:V} {us:List Qc},Vals [x,y] us->∃u v,us=[u,v]/\RelV x u/\RelV y v
 | _,_,_,.cons r (.cons q .nil)=>⟨_,_,rfl,r,q⟩
theorem Vals.zero: ∀{us:List Qc},Vals [] us->us=[]
 | _,.nil=>rfl
theorem Vals.dropLast {xs:List V}{us:List Qc}(h:Vals xs us):Vals xs.dropLast us.dropLast:=by
 induction h with
 | nil=>exact .nil
 | cons r t ih=>
  cases t with
  | nil=>exact .nil
  | cons q t'=>exact .cons r ih
theorem Vals.reverse {xs:List V}{us:List Qc}(h:Vals xs us):Vals xs.reverse us.reverse:=by
 induction h with
 | nil=>exact .nil
 | cons r t ih=>rw[Y0,Y0];exact Vals.append ih (.cons r .nil)
theorem aYt {α:Type}(l:List α):l.eraseIdx (l.length-1)=l.dropLast:=by
 induction l with
 | nil=>rfl
 | cons a r ih=>
  cases r with
  | nil=>rfl
  | cons b r=>
   have e:(a::b::r).length-1=((b::r).length-1)+1:=by
    have h1:(a::b::r).length=r.length+2:=rfl;have h2:(b::r).length=r.length+1:=rfl;omega
   rw[e,List.eraseIdx_cons_succ,ih]
   all_goals rfl
section
variable {X:Cx}{pins:List (Addr×Obj)}{σ:St}{H:Hp}{s:Qe}{l b:Addr}{xs ys zs:List V}
theorem Inv.bNk {its its':List Qc}{n:Nat}{f:Array Qc->Array Qc}{t':Nat}(I:Inv X pins σ H s)(hH:H l=some (.lst xs))
  (e:s.heap.get? l=some {cls:= .type "list",data:= .seq its.toArray n}) (hf:f its.toArray=its'.toArray) (hv:Vals ys its') (hz:ys.length<=Q0):
  Inv X pins σ (upd H l (.lst ys)) {s with heap:=s.heap.update l (Obj.mapSeq f),toks:=t'}:=by
 have q:=PySem.IsL.update e f;rw[hf] at q;refine I.write (x:=l) (e:=l) (by rw[hH];exact trivial) (.inl rfl) (fun b' u hb hu=>(Y5 s.heap (Obj.mapSeq f) (Ne.symm hb)).trans hu) ⟨_,q⟩ ?_;exact⟨hz,its',_,hv,q⟩
theorem Inv.bP8 {its:List Qc}{t':Nat}(I:Inv X pins σ H s)(hv:Vals ys its)(hz:ys.length<=Q0):
  Inv X pins σ (upd H s.heap.objs.size (.lst ys)) {s with heap:=s.heap.push {cls:= .type "list",data:= .seq its.toArray},toks:=t'}:=
 I.laid (fun _ _ q=>Qg _ q) (Qr _) ⟨hz,its,0,hv,Qx _ rfl⟩
theorem Inv.fresh (I:Inv X pins σ H s):H s.heap.objs.size=none:=I.hok.fresh (Qr _)
theorem Inv.bNj (I:Inv X pins σ H s)(hH:H l=some (.lst xs)):xs.length<=Q0/\∃(its:List Qc) (n:Nat),Vals xs its/\xs.length=its.length/\s.heap.get? l=some {cls:= .type "list",data:= .seq its.toArray n}:=by
 obtain⟨z,its,n,r,e⟩:=I.hok l _ hH;exact⟨z,its,n,r,r.length,e⟩
theorem bEy {n:Nat}(h:n<=Q0):Builtin.List.listTooLong n=false:=by
 unfold Builtin.List.listTooLong;exact decide_eq_false (by omega)
end
section
variable {X:Cx}
def bAf:V->List V->Hp->VK->Prop:=fun x vs H Q=> ∃l xs y,x= .ref l/\vs=[y]/\H l=some (.lst xs)/\xs.length<Q0/\Q .non (upd H l (.lst (xs++ [y])))
theorem aNj:MtM X "list.append" bAf:=by
 intro pins s σ H x vs v us Q I rx rv h;obtain⟨l,xs,y,rfl,rfl,hH,hz,q⟩:=h;cases rx;obtain⟨u,rfl,ru⟩:=rv.one;obtain⟨z,its,n,r,hl,e⟩:=I.bNj hH;refine call_meets F.slot_list_append ⟨_,e,rfl⟩ F.entry_list_append (F.args_list_append_2 _ _) (PySem.list_append l its.toArray n u (by rw[Qk];omega)) ⟨e,?_⟩;refine⟨.non,_,I.bNk (its':=its++ [u]) hH e (by simp) (r.append (.cons ru .nil)) ?_,rfl,q⟩;rw[Ql,Zs];omega
def bSf:V->List V->Hp->VK->Prop:=fun x vs H Q=> ∃l xs y,x= .ref l/\vs=[]/\H l=some (.lst xs)/\xs[xs.length-1]? =some y/\Q y (upd H l (.lst xs.dropLast))
theorem bG7:MtM X "list.pop" bSf:=by
 intro pins s σ H x vs v us Q I rx rv h;obtain⟨l,xs,y,rfl,rfl,hH,hy,q⟩:=h;cases rx;have hus:=rv.zero;subst hus;obtain⟨z,its,n,r,hl,e⟩:=I.bNj hH;obtain⟨u,hu,ru⟩:=r.get hy;have hy':its.toArray[its.toArray.size-1]? =some u:=by
  show its.toArray[its.length-1]? =some u;rw[<-Ux,<-hl];exact hu
 refine call_meets F.slot_list_pop ⟨_,e,rfl⟩ F.entry_list_pop (F.args_list_pop_1 _) (MeetsSeq.list_pop_last l its.toArray n u hy' (by rw[Qk];omega)) ⟨e,?_⟩;refine⟨y,_,I.bNk (its':=its.dropLast) hH e ?_ r.dropLast ?_,ru,q⟩
 ·show its.toArray.eraseIdxIfInBounds (its.toArray.size-1)=its.dropLast.toArray
  rw[Qk,List.eraseIdxIfInBounds_toArray,aYt]
 ·rw[List.length_dropLast]
  omega
def bD7:V->List V->Hp->VK->Prop:=fun x vs H Q=> ∃l xs,x= .ref l/\vs=[]/\H l=some (.lst xs)/\Q .non (upd H l (.lst xs.reverse))
theorem aYd:MtM X "list.reverse" bD7:=by
 intro pins s σ H x vs v us Q I rx rv h;obtain⟨l,xs,rfl,rfl,hH,q⟩:=h;cases rx;have hus:=rv.zero;subst hus;obtain⟨z,its,n,r,hl,e⟩:=I.bNj hH;refine call_meets F.slot_list_reverse ⟨_,e,rfl⟩ F.entry_list_reverse (F.args_list_reverse_1 _) (AutoSeq1.list_reverse_list_0 l its.toArray n (by rw[Qk];omega)) ⟨e,?_⟩;refine⟨.non,_,I.bNk (its':=its.reverse) hH e (by simp) r.reverse ?_,rfl,q⟩;rw[U7];omega
end
section
variable {κ:Type}[DecidableEq κ]
def aR9 (kvs:List (κ×V))(k:κ):Option V:=(kvs.find? fun kv=>decide (kv.1=k)).map (·.2)
def putK (kvs:List (κ×V))(k:κ)(v:V):List (κ×V):=
 if (kvs.any fun kv=>decide (kv.1=k))=true then kvs.map (fun kv=>if kv.1=k then (kv.1,v) else kv) else kvs++ [(k,v)]
theorem aQc {p:κ×V}{r:List (κ×V)}{k:κ}(e:p.1=k):aR9 (p::r) k=some p.2:=by simp[aR9,Ym,e]
theorem aQd {p:κ×V}{r:List (κ×V)}{k:κ}(e:¬p.1=k):aR9 (p::r) k=aR9 r k:=by simp[aR9,Ym,e]
theorem aWg (k:κ): ∀kvs:List (κ×V),(kvs.any fun kv=>decide (kv.1=k))=(aR9 kvs k).isSome
 | []=>rfl
 | p::r=>by
  rw[Jm];by_cases e:p.1=k
  ·simp only[aQc e,decide_eq_true e,Bool.true_or,Option.isSome_some]
  ·rw[aQd e,decide_eq_false e,Bool.false_or];exact aWg k r
theorem aNm (kvs:List (κ×V))(k:κ)(v:V):(putK kvs k v).length<=kvs.length+1:=by
 unfold putK;split
 ·rw[Qi];omega
 ·rw[Ql,Zc,Wk];omega
theorem aUg.aIg {o:Option V}{u:Option Qc}(r:aUg o u):o.isSome=u.isSome:=by
 cases o with
 | none=>cases u with
  | none=>rfl
  | some _=>exact (show False from r).elim
 | some _=>cases u with
  | none=>exact (show False from r).elim
  | some _=>rfl
theorem aUg.getD {o:Option V}{u:Option Qc}{d:V}{d':Qc}(r:aUg o u)(rd:RelV d d'):RelV (o.getD d) (u.getD d'):=by
 cases o with
 | none=>cases u with
  | none=>exact rd
  | some _=>exact (show False from r).elim
 | some _=>cases u with
  | none=>exact (show False from r).elim
  | some _=>exact r
theorem KV.val {kvs:List (κ×V)}{vs:List (κ×Qc)}(r:KV kvs vs)(k:κ):aUg (aR9 kvs k) (valueAt vs k):=by
 unfold KV at r
 induction r with
 | nil=>exact True.intro
 | @cons p q ps qs h t ih=>
  obtain⟨h1,h2⟩:=h;by_cases e:p.1=k
  ·have e':q.1=k:=h1.symm.trans e
   have b:valueAt (q::qs) k=some q.2:=by simp[valueAt,Ym,e']
   rw[aQc e,b];exact h2
  ·have e':¬q.1=k:=fun z=>e (h1.trans z)
   have b:valueAt (q::qs) k=valueAt qs k:=by simp[valueAt,Ym,e']
   rw[aQd e,b];exact ih
theorem KV.any {kvs:List (κ×V)}{vs:List (κ×Qc)}(r:KV kvs vs)(k:κ):(kvs.any fun kv=>decide (kv.1=k))=vs.any fun kv=>decide (kv.1=k):=by
 unfold KV at r
 induction r with
 | nil=>rfl
 | cons h t ih=>rw[Jm,Jm,ih,h.1]
theorem KV.repl {kvs:List (κ×V)}{vs:List (κ×Qc)}(r:KV kvs vs)(k:κ){y:V}{u:Qc}(ry:RelV y u):
  KV (kvs.map fun kv=>if kv.1=k then (kv.1,y) else kv) (vs.map fun kv=>if kv.1=k then (kv.1,u) else kv):=by
 unfold KV at r⊢
 induction r with
 | nil=>exact .nil
 | @cons p q ps qs h t ih=>
  rw[Q4,Q4];refine .cons ?_ ih;obtain⟨h1,h2⟩:=h;by_cases e:p.1=k
  ·rw[if_pos e,if_pos (h1.symm.trans e)];exact⟨h1,ry⟩
  ·rw[if_neg e,if_neg (fun z=>e (h1.trans z))];exact⟨h1,h2⟩
theorem KV.put {kvs:List (κ×V)}{vs:List (κ×Qc)}(r:KV kvs vs)(k:κ){y:V}{u:Qc}(ry:RelV y u):KV (putK kvs k y) (stored vs k u):=by
 unfold putK stored;rw[r.any k];by_cases e:(vs.any fun kv=>decide (kv.1=k))=true
 ·rw[if_pos e,if_pos e];exact r.repl k ry
 ·rw[if_neg e,if_neg e];exact Paired.snoc r ⟨rfl,ry⟩
theorem KV.length {kvs:List (κ×V)}{vs:List (κ×Qc)}(r:KV kvs vs):kvs.length=vs.length:=Paired.length r
end
theorem aVi {P:Qv}{w:Q8}{k:Key}{u:Qc}(r:RelV (kV k) u):(aC6 P w).is k u=true:=by
 cases k with
 | inl i=>obtain⟨t,e⟩:=(show∃t,u=Value.int i t from r);subst e;exact aVc P w i t
 | inr x=>obtain⟨t,e⟩:=(show∃t,u=Je x t from r);subst e;exact aVb P w x t
theorem aTf {P:Qv}{w:Q8}: ∀{ks:List Key} {us:List Qc},Vals (ks.map kV) us->ItemsAre (aC6 P w) ks us
 | [],_,r=>by rw[Wz] at r;cases r;exact .nil
 | k::ks,_,r=>by
  rw[Q4] at r;cases r with
  | cons h t=>exact .cons (aVi h) (aTf t)
abbrev KT (H:Hp):List (List Key×V)->List (List Key×Addr×Qc)->Prop:=Paired fun p q=>p.1=q.1/\H q.2.1=some (.tup (p.1.map kV))/\RelV p.2 q.2.2
theorem KT.val {H:Hp}{kvs:List (List Key×V)}{xs:List (List Key×Addr×Qc)}(r:KT H kvs xs)(k:List Key):aUg (aR9 kvs k) ((atKey xs k).map (·.2)):=by
 induction r with
 | nil=>exact True.intro
 | @cons p q ps qs h t ih=>
  obtain⟨h1,_,h2⟩:=h;by_cases e:p.1=k
  ·have e':q.1=k:=h1.symm.trans e
   have b:atKey (q::qs) k=some q.2:=by simp[atKey,Ym,e']
   rw[aQc e,b];exact h2
  ·have e':¬q.1=k:=fun z=>e (h1.trans z)
   have b:atKey (q::qs) k=atKey qs k:=by simp[atKey,Ym,e']
   rw[aQd e,b];exact ih
theorem KT.repl {H:Hp}{kvs:List (List Key×V)}{xs:List (List Key×Addr×Qc)}(r:KT H kvs xs)(k:List Key){y:V}{u:Qc}(ry:RelV y u):
  KT H (kvs.map fun kv=>if kv.1=k then (kv.1,y) else kv) (xs.map (putAt k u)):=by
 induction r with
 | nil=>exact .nil
 | @cons p q ps qs h t ih=>
  rw[Q4,Q4];refine .cons ?_ ih;obtain⟨h1,h2,h3⟩:=h;unfold putAt;by_cases e:p.1=k
  ·rw[if_pos e,if_pos (h1.symm.trans e)];exact⟨h1,h2,ry⟩
  ·rw[if_neg e,if_neg (fun z=>e (h1.trans z))];exact⟨h1,h2,h3⟩
theorem KT.put {H:Hp}{kvs:List (List Key×V)}{xs:List (List Key×Addr×Qc)}(r:KT H kvs xs)(k:List Key){b:Addr}{y:V}{u:Qc}(hb:H b=some (.tup (k.map kV)))(ry:RelV y u):
  KT H (putK kvs k y) (storedH xs k b u):=by
 have e:(kvs.any fun kv=>decide (kv.1=k))=(atKey xs k).isSome:=by
  rw[aWg,(r.val k).aIg,Uh]
 unfold putK storedH;rw[e];by_cases q:(atKey xs k).isSome=true
 ·rw[if_pos q,if_pos q];exact r.repl k ry
 ·rw[if_neg q,if_neg q];exact Paired.snoc r ⟨rfl,hb,ry⟩
theorem KT.keeps {H H':Hp}{kvs:List (List Key×V)}{xs:List (List Key×Addr×Qc)}(r:KT H kvs xs)(ht: ∀b ys,H b=some (.tup ys)->H' b=some (.tup ys)):KT H' kvs xs:=
 Paired.bOz r fun _ _ z=>⟨z.1,ht _ _ z.2.1,z.2.2⟩
section
variable {P:Qv}{w:Q8}{H:Hp}{h:Heap}{a:Addr}
theorem bLx {u:HO}(ok:HOk P w H h)(e:Rd H a u):aCe P w H h a u:=e.ok ok
theorem aO1 {kvs:List (Key×V)}(ok:HOk P w H h)(e:Rd H a (.dK kvs)):kvs.length<=Q0/\(a==sysModules)=false/\∃vs,KV kvs vs/\h.DictOf (aC6 P w) a vs:=
 show aCe P w H h a (.dK kvs) from bLx ok e
theorem bQn {kvs:List (Key×V)}(ok:HOk P w H h)(e:H a=some (.dK kvs)):kvs.length<=Q0/\(a==sysModules)=false/\∃vs,KV kvs vs/\h.DictOf (aC6 P w) a vs:=aO1 ok (.inl e)
theorem aPz {ks:List Key}(ok:HOk P w H h)(e:H a=some (.tup (ks.map kV))):(tupleKind (aC6 P w)).is h ks a:=by
 obtain⟨_,its,r,o,h1,h2,⟨n,h3⟩,_⟩:=(show aCe P w H h a (.tup (ks.map kV)) from ok a _ e);exact⟨o,its.toArray,n,h1,h2,h3,by simpa using aTf r⟩
theorem aV0 {kvs:List (List Key×V)}(ok:HOk P w H h)(e:Rd H a (.dT kvs)):kvs.length<=Q0/\(a==sysModules)=false/\
  ∃xs,KT H kvs xs/\h.DictOfH (tupleKind (aC6 P w)) a xs:=by
 obtain⟨z,y,xs,r,o,es,ep,h1,h2,h3,h4,h5⟩:=(show aCe P w H h a (.dT kvs) from bLx ok e);refine⟨z,y,xs,r,o,es,ep,h1,h2,h3,h4,fun x hx=> ?_,h5⟩;have all: ∀{l:List (List Key×V)} {m:List (List Key×Addr×Qc)},KT H l m->∀x∈m,(tupleKind (aC6 P w)).is h x.1 x.2.1:=by
  intro l m q
  induction q with
  | nil=>intro x hx;exact nomatch hx
  | @cons p q ps qs hq t ih=>
   intro x hx;rcases List.mem_cons.mp hx with e | hx
   ·subst e
    exact aPz ok (by rw[<-hq.1];exact hq.2.1)
   ·exact ih x hx
 exact all r x hx
theorem bQm {kvs:List (List Key×V)}(ok:HOk P w H h)(e:H a=some (.dT kvs)):kvs.length<=Q0/\(a==sysModules)=false/\
  ∃xs,KT H kvs xs/\h.DictOfH (tupleKind (aC6 P w)) a xs:=aV0 ok (.inl e)
end
def aZg (H:Hp)(a:Addr)(y:V)(r:Option V):Prop:=
 (∃kvs k,Rd H a (.dK kvs)/\y=kV k/\r=aR9 kvs k)\/∃kvs k b,Rd H a (.dT kvs)/\y= .ref b/\H b=some (.tup (k.map kV))/\r=aR9 kvs k
def bOs (H:Hp)(a:Addr)(y v:V)(H':Hp):Prop:=
 (∃kvs k,H a=some (.dK kvs)/\y=kV k/\kvs.length<Q0/\H'=upd H a (.dK (putK kvs k v)))\/
 ∃kvs k b,H a=some (.dT kvs)/\y= .ref b/\H b=some (.tup (k.map kV))/\kvs.length<Q0/\H'=upd H a (.dT (putK kvs k v))
theorem bOs.k {H:Hp}{a:Addr}{kvs:List (Key×V)}{k:Key}{v:V}(e:H a=some (.dK kvs))(hl:kvs.length<Q0):bOs H a (kV k) v (upd H a (.dK (putK kvs k v))):= .inl ⟨kvs,k,e,rfl,hl,rfl⟩
section
variable {X:Cx}{pins:List (Addr×Obj)}{σ:St}{H:Hp}{s:Qe}{a:Addr}{y v:V}{u r:Qc}{o:Option V}{A:Zb}{E:Qc->Qe->Prop}
theorem Inv.big (I:Inv X pins σ H s):sysModules<s.heap.objs.size:=by
 have h:Y1<s.heap.objs.size:=(I.mod.glob.keeps I.bk).lt;exact W2 (by decide) h
theorem bCi {Q:Qc->Qe->Prop}(hu:A.units+1<cLine)(I:Inv X pins σ H s)(g:aZg H a y (some v))(ry:RelV y u)(h: ∀w' s',Inv X pins σ H s'->RelV v w'->Q w' s'):
  Qs (Qp X.prog X.w) A (getItem (.ref a) u) Q E s:=by
 rcases g with⟨kvs,k,e,ey,l⟩ |⟨kvs,k,b,e,ey,eb,l⟩
 ·subst ey
  obtain⟨z,hd,vs,rel,dd⟩:=aO1 I.hok e;obtain⟨w',hw,rw'⟩:=aUg.some_of (v:=v) (o:=valueAt vs k) (by rw[l];exact rel.val k);exact wpAny_getItem_of (aVi ry) dd.mapOf hw (h w' _ (I.tok _) rw')
 ·subst ey
  cases (show u=Z7 b from ry);obtain⟨z,hd,xs,rel,dd⟩:=aV0 I.hok e;obtain⟨w',hw,rw'⟩:=aUg.some_of (v:=v) (o:=(atKey xs k).map (·.2)) (by rw[l];exact rel.val k);obtain⟨p,hp,hp2⟩:=Option.map_eq_some_iff.mp hw;refine wpAny_getItem_heap (tupleKind_room_in1 hu) (aPz I.hok eb) dd hp ?_;rw[hp2];exact h w' _ (I.tok _) rw'
theorem bSy {Q:Qc->Qe->Prop}(hu:A.units+1<cLine)(I:Inv X pins σ H s)(g:aZg H a y o)(ry:RelV y u)(h: ∀s',Inv X pins σ H s'->Q (.bool o.isSome) s'):
  Qs (Qp X.prog X.w) A (Yj .In u (.ref a)) Q E s:=by
 rcases g with⟨kvs,k,e,ey,l⟩ |⟨kvs,k,b,e,ey,eb,l⟩
 ·subst ey
  obtain⟨z,hd,vs,rel,dd⟩:=aO1 I.hok e;refine wpAny_in_of (aVi ry) hd dd.mapOf ?_;rw[<-(rel.val k).aIg,<-l];exact h _ (I.tok _)
 ·subst ey
  cases (show u=Z7 b from ry);obtain⟨z,hd,xs,rel,dd⟩:=aV0 I.hok e;refine wpAny_in_heap (tupleKind_room_in1 hu) (aPz I.hok eb) hd dd ?_;have q:=(rel.val k).aIg;rw[Uh] at q;rw[<-q,<-l];exact h _ (I.tok _)
theorem bKp {Q:Qc->Qe->Prop}(hu:A.units+1<cLine)(I:Inv X pins σ H s)(g:aZg H a y o)(ry:RelV y u)(h: ∀s',Inv X pins σ H s'->Q (.bool (!o.isSome)) s'):
  Qs (Qp X.prog X.w) A (Yj .NotIn u (.ref a)) Q E s:=by
 rcases g with⟨kvs,k,e,ey,l⟩ |⟨kvs,k,b,e,ey,eb,l⟩
 ·subst ey
  obtain⟨z,hd,vs,rel,dd⟩:=aO1 I.hok e;refine wpAny_notIn_of (aVi ry) hd dd.mapOf ?_;rw[<-(rel.val k).aIg,<-l];exact h _ (I.tok _)
 ·subst ey
  cases (show u=Z7 b from ry);obtain⟨z,hd,xs,rel,dd⟩:=aV0 I.hok e;refine wpAny_notIn_heap (tupleKind_room_in1 hu) (aPz I.hok eb) hd dd ?_;have q:=(rel.val k).aIg;rw[Uh] at q;rw[<-q,<-l];exact h _ (I.tok _)
theorem bCg {h':Heap}{t':Nat}{ob:HO}(I:Inv X pins σ H s)(mu:Mut (H a))(hs:Yw a s.heap h')(he: ∃q,h'.get? a=some q)(new:aCe X.prog X.w (upd H a ob) h' a ob):
  Inv X pins σ (upd H a ob) {s with heap:=h',toks:=t'}:=
 I.write (x:=a) (e:=a) mu (.inl rfl) (fun b q hb z=>(hs.2 b hb).trans z) he new
theorem bHq {P:Qv}{w:Q8}{H':Hp}{h':Heap}{kvs:List (Key×V)}{vs:List (Key×Qc)}(z:kvs.length<=Q0)(hd:(a==sysModules)=false)(rel:KV kvs vs)(dd:h'.DictOf (aC6 P w) a vs):
  aCe P w H' h' a (.dK kvs):=⟨z,hd,vs,rel,dd⟩
theorem bCh {H':Hp}{Q:Unit->Qe->Prop}(hu:A.units+1<cLine)(I:Inv X pins σ H s)(g:bOs H a y v H')(ry:RelV y u)(rv:RelV v r)(h: ∀s',Inv X pins σ H' s'->Q () s'):
  Qs (Qp X.prog X.w) A (setItem (.ref a) u r) Q E s:=by
 rcases g with⟨kvs,k,e,ey,l,eH⟩ |⟨kvs,k,b,e,ey,eb,l,eH⟩
 ·subst ey eH
  obtain⟨z,hd,vs,rel,dd⟩:=bQn I.hok e;have hz:vs.length<=Q0:=by rw[<-rel.length];exact z
  have hl:(putK kvs k v).length<=Q0:=by have:=aNm kvs k v;omega
  refine wpAny_setItem_pairs (hsz:=hz) (aVi ry) dd fun h' dd' hs=>h _ ?_
  have he: ∃q,h'.get? a=some q:=let ⟨q,_,_,hq,_⟩:=dd';⟨q,hq⟩;exact bCg I (by rw[e];exact True.intro) hs he (bHq hl hd (rel.put k rv) dd')
 ·subst ey eH
  cases (show u=Z7 b from ry);obtain⟨z,hd,xs,rel,dd⟩:=bQm I.hok e;have hz:xs.length<=Q0:=by rw[<-Paired.length rel];exact z
  have hl:(putK kvs k v).length<=Q0:=by have:=aNm kvs k v;omega
  refine wpAny_setItem_heap (hsz:=hz) (tupleKind_room_in1 hu) (aPz I.hok eb) dd fun h' dd' hs=>h _ ?_
  obtain⟨q,es,ep,hq,h2,h3,h4,_,h5⟩:=dd';refine bCg I (by rw[e];exact True.intro) hs ⟨q,hq⟩ ⟨hl,hd,_,(rel.put k eb rv).keeps fun c ys ec=> ?_,q,es,ep,hq,h2,h3,h4,h5⟩;rw[aAv (bP5 ec e (fun z=>nomatch z))];exact ec
end
def bO7 (i:Expr):Prop:= ∀ov iv,subscripted i false ov iv=operate [ov,iv] (getItem ov iv)
theorem aZp {prog:Qv}{w:Q8}{A:Zb}{E:Qc->Qe->Prop}{s:Qe}{env:Env}{value slice:Expr}{pos:Pos}{T id:String}{Q:Qc->Qe->Prop}
  (hl:typeLookup (.type T) "__getitem__"=pure (some (.builtin id))) (hs:bO7 slice)
  (h:Qs (Qp prog w) A (eval value env) (fun o s₁=>Qs (Qp prog w) A (eval slice env) (fun i s₂=>s₂.TypeIs o T/\Qs (Qp prog w) A (getItem o i) Q E s₂) E s₁) E s):
  Qs (Qp prog w) A (eval (.Subscript value slice pos) env) Q E s:=by
 refine Subscript_ (Yq h (fun o s₁ h₁=>Yq h₁ (fun i s₂ h₂=> ?_) fun _ _ x=>x) fun _ _ x=>x);obtain⟨hT,h₂⟩:=h₂;unfold subscriptTail;refine Qb ?_;rw[getitemInPython_of_ne hT.not_modules];refine Qb (wpAny_specialOf hT hl ?_);have fin:Qs (Qp prog w) A (subscripted slice false o i) (fun r s₃=>Qs (Qp prog w) A (letTemporaryGo value o r>>=fun _=>pure r) Q E s₃) E s₂:=by
  rw[hs o i];exact wpAny_operating (Yq h₂ (fun r s₃ h₃=>Qb (wpAny_letTemporaryGo (Qf h₃))) fun _ _ x=>x)
 first
  | exact Qf (Qb fin)
  | exact Qb (Qf (Qb fin))
  | exact Qb fin
theorem aV1 {X:Cx}{pins:List (Addr×Obj)}{σ:St}{H:Hp}{s:Qe}{a:Addr}{y:V}{o:Option V}(I:Inv X pins σ H s)(g:aZg H a y o):s.TypeIs (.ref a) "dict":=by
 rcases g with⟨kvs,k,e,_,_⟩ |⟨kvs,k,b,e,_,_,_⟩
 ·obtain⟨_,_,vs,_,dd⟩:=aO1 I.hok e
  exact dd.typeIs
 ·obtain⟨_,_,xs,_,dd⟩:=aV0 I.hok e
  exact dd.typeIs
def bPf (td ty:TE):TE:=fun σ H Q=>td σ H fun x H1=>ty σ H1 fun y H2=> ∃a v,x= .ref a/\aZg H2 a y (some v)/\Q v H2
def bPm (td ty tv:TE):TS:=fun D σ H=>tv σ H fun v H1=>td σ H1 fun x H2=>ty σ H2 fun y H3=> ∃a H4,x= .ref a/\bOs H3 a y v H4/\D.nx σ H4
section
variable {X:Cx}{o i e value:Expr}{pos pos' tpos:Pos}{td ty tv:TE}
theorem bIr (hu:X.A.units+1<cLine)(ho:PE X o td)(hi:PE X i ty)(hs:bO7 i):PE X (.Subscript o i pos) (bPf td ty):=by
 intro pins s σ H Q I h;refine aZp PySem.F.slot_dict_getitem.lookup hs (thn (ho pins s σ H _ I h) fun u s1 ⟨x,H1,I1,rx,q1⟩=>thn (hi pins s1 σ H1 _ I1 q1) fun iv s2 ⟨y,H2,I2,ry,a,v,ex,g,q2⟩=> ?_);subst ex;obtain rfl:u=Z7 a:=rx;exact⟨aV1 I2 g,bCi hu I2 g ry fun w' s3 I3 rw'=>⟨v,H2,I3,rw',q2⟩⟩
theorem bIm (hu:X.A.units+1<cLine)(ho:PE X o td)(hi:PE X i ty)(hv:PE X value tv)(hs:Yr value (some (.Subscript o i pos')) pos.line X.env=pure false):
  PS X (.Assign [.Subscript o i pos'] value pos) (bPm td ty tv):=by
 intro pins s σ H D I h;refine wpAny_Assign_Subscript (thn (hv pins s σ H _ I h) fun r s1 ⟨v,H1,I1,rv,q1⟩=>thn (ho pins s1 σ H1 _ I1 q1) fun u s2 ⟨x,H2,I2,rx,q2⟩=>thn (hi pins s2 σ H2 _ I2 q2) fun iv s3 ⟨y,H3,I3,ry,a,H4,ex,g,q3⟩=> ?_) hs;subst ex;obtain rfl:u=Z7 a:=rx;exact bCh hu I3 g ry rv fun s4 I4=>⟨σ,H4,I4,q3⟩
end
theorem bFx {P:Qv}{w:Q8}{H:Hp}(h:Heap)(hb:sysModules<h.objs.size):aCe P w H (h.push {cls:= .type "dict",data:= .dict #[]}) h.objs.size (.dK []):=
 ⟨Ye _,beq_eq_false_iff_ne.mpr (Ne.symm (Q1 hb)),[],.nil,Heap.DictOf.new h⟩
def bLn:TE:=fun _ H Q=> ∀p,H p=none->Q (.ref p) (upd H p (.dK []))
section
variable {X:Cx}{pos:Pos}
theorem bEh:PE X (.Dict [] [] pos) bLn:=fun pins s σ H Q I h=>
 wpAny_Dict_empty ⟨.ref s.heap.objs.size,_,I.laid (a:=s.heap.objs.size) (o:= .dK []) (t':=s.toks) (fun _ _ q=>Qg _ q) (Qr _) (bFx s.heap I.big),rfl,h _ (I.hok.fresh (Qr _))⟩
end
structure M2 (X:Cx)(o:Expr)(m:Str)(apos:Pos)(e f:Expr)(cpos:Pos):Prop where
 base:attributeBase o m X.env (eval o X.env)=eval o X.env
 few:((backTo cpos (Qu [e,f] X.env)).all (fun x=> !x.1)&&(backToKw cpos (keywordEach [] X.env)).all (fun x=>x.1.isSome)
  &&decide (([e,f]:List Expr).length+([]:List Keyword).length+(if ([]:List Keyword).isEmpty then 0 else 1)<30))=true
 line:(apos.endLine==cpos.line)=true
 trees:backTo cpos (Qu [e,f] X.env)=[(false,eval e X.env),(false,eval f X.env)]
def IsD (H:Hp)(a:Addr):Prop:=(∃kvs,Rd H a (.dK kvs))\/∃kvs,Rd H a (.dT kvs)
theorem bN1 {X:Cx}{pins:List (Addr×Obj)}{σ:St}{H:Hp}{s:Qe}{a:Addr}(I:Inv X pins σ H s)(d:IsD H a):
  s.TypeIs (.ref a) "dict"/\(∀b,Z7 a= .ref b->∃ob,s.heap.get? b=some ob/\ob.dict=none)/\(a==sysModules)=false:=by
 rcases d with⟨kvs,e⟩ |⟨kvs,e⟩
 ·obtain⟨_,hd,vs,_,dd⟩:=aO1 I.hok e
  refine⟨dd.typeIs,fun b q=> ?_,hd⟩;cases q;obtain⟨ob,_,_,h1,h2,_⟩:=dd;exact⟨ob,h1,h2.2.1⟩
 ·obtain⟨_,hd,xs,_,dd⟩:=aV0 I.hok e
  refine⟨dd.typeIs,fun b q=> ?_,hd⟩;cases q;obtain⟨ob,_,_,h1,h2,_⟩:=dd;exact⟨ob,h1,h2.2.1⟩
section
variable {X:Cx}{pins:List (Addr×Obj)}{σ:St}{H:Hp}{s:Qe}{a:Addr}{y d:V}{u r:Qc}{o:Option V}{A:Zb}{E:Qc->Qe->Prop}
theorem bOk {Q:Qc->Qe->Prop}(hu:A.units+1<cLine)(I:Inv X pins σ H s)(g:aZg H a y o)(ry:RelV y u)(rd:RelV d r)(h: ∀w' s',Inv X pins σ H s'->RelV (o.getD d) w'->Q w' s'):
  Qs (Qp X.prog X.w) A (call (.builtin "dict.get") [.ref a,u,r]) Q E s:=by
 rcases g with⟨kvs,k,e,ey,l⟩ |⟨kvs,k,b,e,ey,eb,l⟩
 ·subst ey
  obtain⟨z,hd,vs,rel,dd⟩:=aO1 I.hok e;refine call_meetsIn Up dd.typeIs Ws (Wm _ _ _) (meets_dict_get_default (aC6 X.prog X.w) a (aVi ry) hd r) ⟨_,dd.mapOf,h _ _ (I.tok _) ?_⟩;rw[l];exact (rel.val k).getD rd
 ·subst ey
  cases (show u=Z7 b from ry);obtain⟨z,hd,xs,rel,dd⟩:=aV0 I.hok e;refine call_meetsIn Up dd.typeIs Ws (Wm _ _ _) (meetsH_dict_get_default (tupleKind (aC6 X.prog X.w)) a b hd r) ⟨tupleKind_room_in1 hu,k,xs,aPz I.hok eb,dd,h _ _ (I.tok _) ?_⟩;rw[l];exact (rel.val k).getD rd
end
def bLo (td ty tx:TE):TE:=fun σ H Q=>td σ H fun x H1=> ∃a,x= .ref a/\IsD H1 a/\ty σ H1 fun y H2=>tx σ H2 fun z H3=> ∃o,aZg H3 a y o/\Q (o.getD z) H3
section
variable {X:Cx}{o e f:Expr}{apos cpos:Pos}{td ty tx:TE}
theorem bEi (hu:X.A.units+1<cLine)(ho:PE X o td)(he:PE X e ty)(hf:PE X f tx)(m:M2 X o "get" apos e f cpos):PE X (.Call (.Attribute o "get" apos) [e,f] [] cpos) (bLo td ty tx):=by
 intro pins s σ H Q I h;refine wpAny_Call_method m.base m.few m.line PySem.F.plainAttrs_dict Up PySem.F.type_dict_get (thn (ho pins s σ H _ I h) fun u s1 ⟨x,H1,I1,rx,a,ex,d,q1⟩=> ?_);subst ex;obtain rfl:u=Z7 a:=rx;obtain⟨t1,t2,_⟩:=bN1 I1 d;refine⟨t1,t2,?_⟩;rw[m.trees];refine Calls.callWith_builtin rfl (Calls.evalArgs_plain (Calls.spliced_cons (thn (he pins s1 σ H1 _ I1 q1) fun iv s2 ⟨y,H2,I2,ry,q2⟩=>
  Calls.spliced_cons (thn (hf pins s2 σ H2 _ I2 q2) fun fv s3 ⟨z,H3,I3,rz,ov,g,q3⟩=>Calls.spliced_nil ?_))))
 exact bOk hu I3 g ry rz fun w' s4 I4 rw'=>⟨_,H3,I4,rw',q3⟩
end
section
variable {X:Cx}{pins:List (Addr×Obj)}{σ:St}{H:Hp}{s:Qe}{a:Addr}{kvs:List (Key×V)}{A:Zb}{E:Qc->Qe->Prop}
theorem bF0 {Q:Qc->Qe->Prop}(I:Inv X pins σ H s)(e:Rd H a (.dK kvs))(h: ∀p s',H p=none->Inv X pins σ (upd H p (.dK kvs)) s'->Q (.ref p) s'):Qs (Qp X.prog X.w) A (call (.type "dict") [.ref a]) Q E s:=by
 obtain⟨z,hd,vs,rel,dd⟩:=aO1 I.hok e;refine kt_call_dict hd dd (by rw[<-rel.length];exact z) fun h' dd' hs=> ?_
 refine h _ _ (I.hok.fresh (Qr _)) (I.laid (a:=s.heap.objs.size) (o:= .dK kvs) (t':=s.toks) (fun b q hq=> ?_) (Qr _) (bHq z (beq_eq_false_iff_ne.mpr (Ne.symm (Q1 I.big))) rel dd'));exact (hs.2 b (Q1 (Qo hq))).trans (Qg _ hq)
end
end L2
namespace Att
open PySem PySem.W PySem.Calls PyProof.Rows
theorem aNr {P:Params}{h:Heap}: ∀(ns:List Int) (vs:List Qc),WellAll P h vs (ns.map WData.int)->IntsAre vs ns:=by
 intro ns
 induction ns with
 | nil=>
  intro vs w;rw[Wz] at w;cases w;exact .nil
 | cons n ns ih=>
  intro vs w;rw[Q4] at w;cases w with
  | cons a b=>
   cases a;exact .cons _ _ (ih _ b)
theorem aZz {l:OpenLaw}{n:Nat}(hn:l.most=some n){P:Params}{h:Heap}{args:List WData}{vals:List Qc}
  (hpre:l.row.toRowW.claim.pre args=true) (hwl:WellAll P h vals args):
  ∃a vs ns,vals=[Z7 a]/\args=[WData.list (ns.map WData.int)]/\h.get? a=some {cls:= .type "list",data:= .seq vs.toArray}/\IntsAre vs ns/\ns.length<=n:=by
 have hsh:WShape.hasAll [] args [.list .int]=true:=(pre_splitW hpre).1;have hc:l.pre.holds [] {args:=args}=true:=(pre_splitW hpre).2;obtain⟨d,r,rfl,h1,h2⟩:=hasAllW_cons hsh;obtain rfl:=hasAllW_nil h2;obtain⟨xs,rfl,h3⟩:=hasW_list h1;obtain⟨ns,rfl⟩:=items_int h3;have hlen:ns.length<=n:=by
  unfold OpenLaw.pre at hc;have h4:(WTm.not (.lt (.lit (.int (n:Int))) (.len (.arg 0)))).holds [] {args:=[.list (ns.map .int)]}=true:=by
   have h4:=(holds_andW hc).1;rw[hn] at h4;exact h4
  have h5:=condW_of h4 (w_not (w_lt w_lit (w_len_list (w_arg rfl))));rw[Qi] at h5;refine Nat.le_of_not_lt fun q=> ?_
  have q':(n:Int)<((ns.length:Nat):Int):=by omega
  first
   |(rw[decide_eq_true q'] at h5;exact absurd h5 (by decide))
   |(simp at h5;omega)
 cases hwl with
 | cons w1 w2=>
  cases w2;cases w1 with
  | list ho hall=>exact⟨_,_,ns,rfl,rfl,ho,aNr ns _ hall,hlen⟩
theorem bAi (l:OpenLaw)(args:List WData):l.row.toRowW.claim.post args (.bool true) args=true:=
 postW_of (r:=l.row.toRowW) (X:=(true==true))
  (show WShape.has [] (.bool true) .bool=true by first | rfl | decide | simp[WShape.has,WShape.arms,WShape.armsAll])
  (show (WTm.eq .res (.lit (.bool true))).value [] {args:=args,res:=some (.bool true),after:=args}=some (.bool (true==true)) from w_eq_bool (w_res rfl) w_lit) rfl
theorem aV5 {l:OpenLaw}{n:Nat}{q:Qv}{loose:List Str}{XP:(Str->Option Qc)->Heap->Prop}{YP:Q8->Heap->Prop}{d:DefRec}
  (hn:l.most=some n) (hdf:d.params.defaults=[])
  (call: ∀(w:Q8) (s₀ s₁:Qe) (mg mb:Str->Option Qc) (fa:Addr) (o:Obj) (pm cd doc:Qc) (a:Addr) (vs:List Qc) (ns:List Int),
   Ground q loose [] XP w s₀ mg mb s₁.heap->YP w s₁.heap->
   s₁.heap.get? fa=some o->o.data= .func (docDef d.name d.params d.body d.scope pm cd doc)->s₁.heap.CodeRec cd d.name->mg d.name=some (.ref fa)->
   s₁.heap.get? a=some {cls:= .type "list",data:= .seq vs.toArray}->IntsAre vs ns->ns.length<=n->s₁.gens= #[]->
   codeAny (Qp l.prog w) callerA (.call (.ref fa) ⟨[.ref a],[]⟩) (fun r s'=>r= .ok (.ret (.bool true))/\OldK s₁.heap s'.heap/\s'.os=s₁.os/\AllBare s'.gens) s₁):
  WalkO q loose XP YP l.row.toRowW d [] (fun f vs=>Wl f vs):=by
 intro w s₀ s₁ mg mb G Y fa o pm cd doc dV kV ho hd hcd hD hmg hg args vals as hpre hlay hrd hwl hlo;obtain rfl:dV= .none:=Dflts.none hD hdf;obtain rfl:kV= .none:=Dflts.noKw hD;obtain⟨a,vs,ns,rfl,rfl,hobj,hints,hlen⟩:=aZz hn hpre hwl;refine enter_call (Jc (call w s₀ s₁ mg mb fa o pm cd doc a vs ns G Y ho (fd_plain hd) hcd hmg hobj hints hlen hg) fun r s' hq=> ?_);obtain⟨rfl,h2,h3,h4⟩:=hq;exact⟨.inl ⟨.bool true,.bool true,[],rfl,fun _=>rfl,.bool true,bAi l _,fun _=>⟨List.Pairwise.nil,fun _ hm=>(nomatch hm)⟩⟩,h2,h3,h4⟩
section
variable {prog:Qv}{w:Q8}{A:Zb}{E:Qc->Qe->Prop}{s:Qe}{K:Frag}
def ledger (h:Heap)(L d:Addr):List (Addr×Obj):=(Zj h.objs.size).filterMap fun a=>if a=L\/a=d then none else (h.get? a).map fun o=>(a,o)
end
end Att
namespace L2
open PySem PySem.Spec PyProof.Rows
theorem aSd: ∀{vs:List Qc} {ns:List Int},IntsAre vs ns->Vals (ns.map V.int) vs
 | _,_,.nil=> .nil
 | _,_,.cons n t h=> .cons ⟨t,rfl⟩ (aSd h)
abbrev KOf {K:Qa}{h:Heap}(_:K.In h):Qa:=K
def aEe (s:Stmt):Arguments:=match s with
 | .FunctionDef _ a _ _ _ _ _ _ _ _=>a
 | _=>{posonlyargs:=[],args:=[],vararg:=none,kwonlyargs:=[],kw_defaults:=[],kwarg:=none,defaults:=[]}
def aCu (s:Stmt):List Stmt:=match s with
 | .FunctionDef _ _ b _ _ _ _ _ _ _=>b
 | _=> []
def aAp (s:Stmt):Scope:=match s with
 | .FunctionDef _ _ _ _ _ _ sc _ _ _=>sc
 | _=>{kind:= .function,names:=[],isGenerator:=false,isCoroutine:=false}
structure Fun (K:Qa)(x qual:Str)(st:Stmt)(f:Addr)(fd:Z9):Prop where
 ex: ∃(oc:Qc) (od:Option Addr) (kV doc pm:Qc) (an:Option Addr) (cdv ct:Qc) (osl:Array (Option Qc)),
  fd=J8 x qual (aEe st) (aCu st) (aAp st) .none kV doc pm an cdv ct/\K.lookup f=some ⟨oc,od,.func fd,osl⟩/\Wi K cdv qual=true
 kp:Uc K (.ref f)=true
section
variable {P:Qv}{w:Q8}{K:Qa}{mg:Str->Option Qc}{base:Heap}
theorem Fun.binds {x qual:Str}{st:Stmt}{f:Addr}{fd:Z9}{ps:List Str}(F:Fun K x qual st f fd)
  (h: ∀(kV doc pm:Qc) (an:Option Addr) (cdv ct:Qc) (us:List Qc),us.length=ps.length->bindArgs (J8 x qual (aEe st) (aCu st) (aAp st) .none kV doc pm an cdv ct) ⟨us,[]⟩=pure (ps.zip us)):Binds K fd ps []:=by
 obtain⟨oc,od,kV,doc,pm,an,cdv,ct,osl,rfl,lk,hcd⟩:=F.ex;exact .all (h kV doc pm an cdv ct)
theorem bHj {x qual:Str}{st:Stmt}{f:Addr}{oc:Qc}{od an:Option Addr}{osl:Array (Option Qc)}{kV doc pm cdv ct:Qc}(l:K.lookup f=some ⟨oc,od,.func (J8 x qual (aEe st) (aCu st) (aAp st) .none kV doc pm an cdv ct),osl⟩)
  (c:Wi K cdv qual=true) (k:Uc K (.ref f)=true):Fun K x qual st f (J8 x qual (aEe st) (aCu st) (aAp st) .none kV doc pm an cdv ct):=⟨⟨oc,od,kV,doc,pm,an,cdv,ct,osl,rfl,l,c⟩,k⟩
end
theorem bBt {A:Zb}{k:Nat}(hr:aFz k A):A.units+1<cLine:=Wd (Nat.add_le_add_left (by decide:1<=64) _) hr.units
theorem aZw {n:Nat}(h:n<=1000):n<Q0:=Wd h (by decide)
section
variable {X:Cx}
theorem pv (i:Nat){x:Str}{pos:Pos}(hN:X.N[i]? =some x:=by rfl)(hv:Vis X.env.scope x:=by first | exact Qz rfl | exact Yi (Qz rfl) | exact Yi (Yi rfl))(hd:(x==("__debug__":Str))=false:=by decide)
  (hcd:(x==("__classdict__":Str))=false:=by decide):PE X (.Name x pos) (bQ9 i):=aHo hN hv hd hcd
end
def Same (H H':Hp):Prop:= ∀b o,H b=some o->H' b=some o
theorem Same.refl (H:Hp):Same H H:=fun _ _ h=>h
theorem Same.trans {H H1 H2:Hp}(a:Same H H1)(b:Same H1 H2):Same H H2:=fun c o h=>b c o (a c o h)
theorem Same.seq {K:Qa}{H H':Hp}{a:Addr}{xs:List V}(e:Same H H')(h:SqL K H a xs):SqL K H' a xs:=by
 rcases h with (h |⟨o,h⟩) | h
 ·exact .inl (.inl (e _ _ h))
 ·exact .inl (.inr ⟨o,e _ _ h⟩)
 ·exact .inr h
end L2
set_option maxHeartbeats 4000000
namespace L2.HD
open PySem PySem.W
def goU (thr okS:Thread->Bool)(f:SharedT->Thread->Option (SharedT×Thread)):Nat->SharedT->Thread->Option SharedT
 | 0,_,_=>none
 | n+1,s,t=>match thr t with
  | true=>some s
  | false=>match okS t with
   | false=>none
   | true=>match f s t with
    | some (s',t')=>goU thr okS f n s' t'
    | none=>none
theorem bBy {tb:String->Option Builtin}{p:Qv}{w:Q8}{n₀:Nat}{ann:Option Qc}: ∀{n:Nat} {s s':SharedT} {t:Thread},
  goU through (stepOk n₀ ann) (stepT (denote tb) p w) n s t=some s'->topRun tb p w n₀ ann n s.abs t=some s'.abs
 | 0,_,_,_,h=>by cases h
 | n+1,s,s',t,h=>by
  unfold goU at h;unfold topRun;cases ht:through t with
  | true=>rw[ht] at h;cases h;rfl
  | false=>
   rw[ht] at h;cases hk:stepOk n₀ ann t with
   | false=>rw[hk] at h;cases h
   | true=>
    rw[hk] at h;cases hs:stepT (denote tb) p w s t with
    | none=>rw[hs] at h;cases h
    | some r=>obtain⟨s₂,t₂⟩:=r;rw[hs] at h;rw[stepT_spec hs];exact bBy h
def T0 (P:Params):BT:=(((((((((((BT.nil.ins 0 (boot_o_0 P)).ins 1 (boot_o_1 P)).ins 2 (boot_o_2 P)).ins 3 (boot_o_3 P)).ins 4 (boot_o_4 P)).ins 5 (boot_o_5 P)).ins 6 (boot_o_6 P)).ins 7 (boot_o_7 P)).ins 8 (boot_o_8 P)).ins 9 (boot_o_9 P)).ins 10 (boot_o_10 P))
def S0 (w:Q8)(os:OsState):SharedT:=⟨T0 w.params,11,(boot_heap w.params).life,#[],boot_drawn,boot_toks,os⟩
theorem bOo (w:Q8)(os:OsState):(S0 w os).abs=⟨boot_heap w.params,#[],boot_drawn,boot_toks,os⟩:=by kernel_rfl
theorem bPj (w:Q8):((boot_heap w.params).isNs Y1&&(#[]:Array GenState).size==0,(boot_heap w.params).objs.size,(boot_heap w.params).nsMap Y1 "__annotations__")=(true,11,some (.ref 6)):=by kernel_rfl
theorem bJw {p q:Qv}{loose:List Str}{Xt:Qe->Bool}{α:Type}{Yf:Qe->α}{Ya:Q8->α}{N:Nat}{g0:Bool}
  (open_: ∀w:Q8,(fencedOpening treeTable p w N).map (fun s=>(s.heap,s.gens,s.drawn,s.toks))=some (boot_heap w.params,#[],boot_drawn,boot_toks))
  (run: ∀w:Q8,(fun os=>(goU through (stepOk 11 (some (.ref 6))) (stepT (denote treeTable) p w) N (S0 w os) (topStub p)).map (fun s=>
   ((staticsOk (importedModules p.main.body) (boot_heap w.params) s.abs.heap&&namesBound p s.abs.heap&&gensDone s.abs&&laidKept (boot_heap w.params) s.abs.heap),
    openSeen q loose (importedModules p.main.body) Xt g0 s.abs,Yf s.abs)))=fun _=>some (true,openGood q loose,Ya w)):LeftO p q loose Xt Yf Ya N g0:=fun w=>by
 obtain⟨⟨h,gs,d,k,os⟩,e,e'⟩:=Option.map_eq_some_iff.mp (open_ w);obtain⟨rfl,rfl,rfl,rfl⟩:h=boot_heap w.params/\gs= #[]/\d=boot_drawn/\k=boot_toks:=by simpa using e'
 obtain⟨s,r,z⟩:=Option.map_eq_some_iff.mp (congrFun (run w) os);have r:=bBy r;rw[bOo] at r;obtain⟨z1,z2,z3⟩:_/\_/\_:=by simpa only[Prod.mk.injEq] using bPj w
 obtain⟨l1,l2,l3⟩:_/\_/\_:=by simpa only[Prod.mk.injEq] using z
 have t:topFrom treeTable p w N ⟨boot_heap w.params,#[],boot_drawn,boot_toks,os⟩=some s.abs:=by
  unfold topFrom
  dsimp only
  rw[z1,z2,z3,r];show (match staticsOk (importedModules p.main.body) (boot_heap w.params) s.abs.heap&&namesBound p s.abs.heap&&gensDone s.abs&&laidKept (boot_heap w.params) s.abs.heap with | true=>_ | false=>_)=_;rw[l1]
 unfold openEnds;rw[e];show (topFrom treeTable p w N _).map _=_;rw[t];exact congrArg some (Prod.ext l2 l3)
def vs (x:Str)(t:Nat):Qc:= .str x t
def vi (i:Int):Qc:= .int i 0
def de (P:Params)(x:Str)(t:Nat)(v:Qc):DictEntry:=⟨PyData.keyHash P x,.str x t,v⟩
def ob (c:String)(d:Data):Obj:={cls:= .type c,data:=d}
def od (n:Nat)(es:List DictEntry):Obj:={cls:= .type "dict",data:= .dict es.toArray n}
def ot (xs:List Qc):Obj:={cls:= .type "tuple",data:= .seq xs.toArray}
def ofd (c:String)(xs:List Qc):Obj:={cls:= .type c,data:= .fields xs.toArray}
def oc (x:Str)(xt:Nat)(q:Str)(a b c d e:Nat)(xs:List Qc)(f g h:Nat):Obj:=
 ofd "code" ([.str x xt,.str q a,.str "/claim/cut.py" b,vi c,vi d,vi 0,vi 0,vi e]++xs++ [vi f,vi g,.str "/claim/cut.py" h])
def of (x q:Str)(st:Stmt)(m:Str)(mt c:Nat):Obj:={cls:= .type "function",data:= .func (fnOf x q (aEe st) (aCu st) (aAp st) .none .none .none (.str m mt) none (.ref c) .none)}
theorem holds_of {l:OpenLaw}{q:Qv}{d:DefRec}{K:Params->Frag}{as:List Addr}{e: ∀P,as=(K P).map (·.1)}{N:Nat}{loose:List Str}
  (left:LeftO l.prog q loose (fun s=>xlAt q [] s&&recOk (RowW.records l.row.toRowW) s) (Hook.obs (kHook K as e)) (Hook.val (kHook K as e)) N)
  (said:l.row.wellSaid=true) (hdef:defOf q l.row.name=some (d,[])) (hp:l.row.prog.theDef l.row.name=some (d.params,d.body,d.scope)) (hk:kwWritten? d.params.kwonlyargs d.params.kw_defaults=some [])
  (hwr:(!l.row.writes || l.row.records.isEmpty)=true) (ok:(chainsOk q&&opensWell l.row.prog&&(frees l.row.toRowW&&l.row.within.isEmpty))=true) (hb:l.row.prog.bare) (hw:l.row.toRowW.promised)
  (call:WalkO q loose (XL q []) (Hook.says (kHook K as e)) l.row.toRowW d [] fun f vs=>Wl f vs):l.row.Holds:=
 holds_open (r:=l.row) (q:=q) (loose:=loose) (Xt:=fun s=>xlAt q [] s&&recOk (RowW.records l.row.toRowW) s) (XP:=XL q []) (Yf:=Hook.obs (kHook K as e)) (Ya:=Hook.val (kHook K as e)) (YP:=Hook.says (kHook K as e)) (N:=N)
  left (Hook.of (kHook K as e)) (Hook.keeps (kHook K as e)) (fun s e=>xl_of s (Bool.and_eq_true_iff.mp e).1) XL.keeps hdef hp hk (fun s e=>recFacts_of (Bool.and_eq_true_iff.mp e).2) hwr said ok hb hw call
theorem fo {K:Frag}{x q:Str}{st:Stmt}{f:Addr}{m:Str}{mt c:Nat}(ps:List Str)(l:K.lookup f=some (of x q st m mt c))(hc:codeIn K (.ref c) q=true)(hk:keepIn K (.ref f)=true)
  (b: ∀(kV doc pm:Qc) (an:Option Addr) (cdv ct:Qc) (us:List Qc),us.length=ps.length->bindArgs (fnOf x q (aEe st) (aCu st) (aAp st) .none kV doc pm an cdv ct) ⟨us,[]⟩=pure (ps.zip us)): ∃fd,Fun K x q st f fd/\Binds K fd ps []:=
 ⟨_,bHj (show K.lookup f=some ⟨_,_,.func (fnOf x q (aEe st) (aCu st) (aAp st) .none .none .none (.str m mt) none (.ref c) .none),_⟩ from l) hc hk,(bHj (show K.lookup f=some ⟨_,_,.func (fnOf x q (aEe st) (aCu st) (aAp st) .none .none .none (.str m mt) none (.ref c) .none),_⟩ from l) hc hk).binds b⟩
end L2.HD
namespace L2.PU
open PySem PySem.Spec PyProof.Rows
theorem aYe (t:Yk)(es:Array (Int×Qc))(h:Int)(x:Qc):(layNew t es h x).2.1.led=t.led:=by
 unfold layNew;split
 ·unfold SetTable.orStandIn
  dsimp only
  split
  ·rfl
  ·rfl
 ·rfl
theorem aS9 (t:Yk)(es:Array (Int×Qc))(h:Int)(x:Qc):t.plain=false->(layNew t es h x).2.1.plain=false:=by
 intro hp;unfold layNew;split
 ·unfold SetTable.orStandIn
  dsimp only
  split
  ·exact hp
  ·rfl
 ·rfl
theorem aSq {t t':Yk}{hs:Array Int}{n:Nat}{o:Array Nat}(h:t.relaid hs n=some (t',o)):t'.led=t.led/\t'.plain=t.plain:=by
 unfold SetTable.relaid SetTable.laid at h;simp only[Option.bind_eq_bind,Option.bind_eq_some_iff] at h;obtain⟨a,_,e⟩:=h;cases e;exact⟨rfl,rfl⟩
theorem bAb (t:Yk)(es:Array (Int×Qc))(n:Nat):(relayAll t es n).2.1.led=t.led/\(t.plain=false->(relayAll t es n).2.1.plain=false):=by
 unfold relayAll;split
 ·rename_i t' order hr
  obtain⟨h1,h2⟩:=aSq hr
  dsimp only
  split
  ·exact⟨h1,fun q=>h2.trans q⟩
  ·exact⟨rfl,fun _=>rfl⟩
 ·exact⟨rfl,fun _=>rfl⟩
theorem aSf {w:Q8}{h h':Heap}{a:Addr}(x:aY1 w h a)(e: ∀o,h.get? a=some o->h'.get? a=some o):aY1 w h' a:=let ⟨o,g,r⟩:=x;⟨o,e o g,r⟩
section
variable {prog:Qv}{w:Q8}{A:Zb}{E:Qc->Qe->Prop}{s:Qe}
theorem aXn {g:Bool->Sem Unit}(hg: ∀(b:Bool) (s₁:Qe) (Q':Unit->Qe->Prop),Q' () s₁->Qs (Qp prog w) A (g b) Q' E s₁)
  {a:Addr} {o:Obj} {es:Array (Int×Qc)} {ep:Nat} {t:Yk} (ho:s.heap.get? a=some o) (hex:o.ExactSet) (hd:o.data= .set es ep t)
  {es1:Array (Int×Qc)} {t2:Yk} {S':Str->Bool} (hel1:ElemsOf (Qt prog w) es1.toList) (hmem1: ∀k',S' k'=true↔∃e∈es1.toList,(Qt prog w).is k' e.2=true)
  (hb1:es1.size<scanBound) (hf2:t2.fits es1.size=true) (hl2:w.params.followText "set-order"=true\/t2.led=true) (hp2:t2.plain=false) {wasDummy:Bool} {R:Option Bool->Qe->Prop}
  (h: ∀h',Yw a s.heap h'->h'.SetOf (Qt prog w) a S' es1.size->aY1 w h' a->R (some true) {s with heap:=h'}):
  Qs (Qp prog w) A (do
    storeSet a es1 t2
    if (!wasDummy&&t2.tooFull)=true then do
      g (relayAll t2 es1 (SetTable.grown es1.size)).2.2
      storeSet a (relayAll t2 es1 (SetTable.grown es1.size)).1 (relayAll t2 es1 (SetTable.grown es1.size)).2.1
      pure (some true)
     else pure (some true)) R E s:=by
 refine Qb (wpAny_storeSet_of ho hd ?_ (fits_of_scanBound hb1));obtain⟨ho1,z1⟩:=SetOf_store (knd:=Qt prog w) ho hex hd hel1 hmem1 hb1 hf2;have sb1:=Yc s.heap a (Obj.putSet es1 t2);split
 ·have hp:=relayAll_perm t2 es1 (SetTable.grown es1.size)
  have hfr:=relayAll_fits t2 es1 (SetTable.grown es1.size);obtain⟨r1,r2⟩:=bAb t2 es1 (SetTable.grown es1.size);generalize hRl:relayAll t2 es1 (SetTable.grown es1.size)=Rl at hp hfr r1 r2⊢;obtain⟨es2,t3,gave2⟩:=Rl
  dsimp only at hp hfr r1 r2⊢
  have hel2:=hel1.perm hp;have hmem2: ∀k',S' k'=true↔∃e∈es2.toList,(Qt prog w).is k' e.2=true:=fun k'=>(hmem1 k').trans ⟨fun⟨e,he,q⟩=>⟨e,hp.mem_iff.mpr he,q⟩,fun⟨e,he,q⟩=>⟨e,hp.mem_iff.mp he,q⟩⟩
  have hsz:es2.size=es1.size:=by rw[<-Zt,hp.length_eq,Zt]
  have hb2:es2.size<scanBound:=by rw[hsz];exact hb1
  refine Qb (hg _ _ _ (Qb (wpAny_storeSet_of ho1 rfl ?_ (fits_of_scanBound hb2))));obtain⟨o2,z2⟩:=SetOf_store (knd:=Qt prog w) ho1 hex rfl hel2 hmem2 hb2 hfr;rw[hsz] at z2;exact Qf (h _ (sb1.trans (Yc _ a _)) z2 ⟨_,o2,_,_,_,rfl,by rw[r1];exact hl2,.inr (r2 hp2)⟩)
 ·exact Qf (h _ sb1 z1 ⟨_,ho1,_,_,_,rfl,hl2,.inr hp2⟩)
theorem bGd {a:Addr}{S:Str->Bool}{n:Nat}{k:Str}{u:Tok}{Q:Bool->Qe->Prop}(zS:s.heap.SetOf (Qt prog w) a S n)(zT:aY1 w s.heap a)(hroom:n+1<scanBound)
  (h: ∀h',Yw a s.heap h'->h'.SetOf (Qt prog w) a (fun k'=>S k' || decide (k'=k)) (if S k then n else n+1)->aY1 w h' a->Q (!S k) {s with heap:=h'}):
  Qs (Qp prog w) A (setAddHashed a (.str k u) ((Qt prog w).hash k)) Q E s:=by
 have hkey:(Qt prog w).is k (.str k u)=true:=by simp[Qt,Value.isStrOf]
 have hsc:(Je k u).scannable=true:=rfl;obtain⟨o,es,ep,t,ho,hex,hd,hel,hmem,hb,hf,hn⟩:=id zS;obtain⟨o',ho',es',ep',t',hd',bO0,hpl⟩:=id zT;rw[ho] at ho';cases ho';rw[hd] at hd';cases hd';have hb1:es.size+1<scanBound:=by rw[hn];exact hroom
 unfold setAddHashed setAddHashedIn;refine Yn (Qb (Y3 ho hd hf ?_))
 dsimp only
 rw[byScan_of hsc hb hel];simp only[↓reduceIte];unfold setAddByScan;refine Qb (Qb (wpAny_rule (Qb (wpAny_setScan_of hkey ho hd hf hel ?_))));cases hr:List.findIdx? (fun e=>(Qt prog w).is k e.2) es.toList with
 | some j=>
  dsimp only
  obtain⟨hj,hpj,_⟩:=List.findIdx?_eq_some_iff_getElem.mp hr;have hSk:S k=true:=(hmem k).mpr ⟨es.toList[j],Zu hj,hpj⟩;refine Qf (Qf ?_);have e:s={s with heap:=s.heap}:=by cases s;rfl
  have:=h s.heap (Heap.SameBut.refl a s.heap) ⟨o,es,ep,t,ho,hex,hd,hel,fun k'=>by
   rw[Z1,decide_eq_true_eq,<-hmem k'];exact⟨fun hk=>hk.elim id (fun e=>e▸hSk),.inl⟩,hb,hf,by rw[hSk];exact hn⟩ zT
  rw[hSk] at this;rw[e];exact this
 | none=>
  dsimp only
  have hSk:S k=false:=by
   cases hk:S k with
   | false=>rfl
   | true=>obtain⟨e,he,hp⟩:=(hmem k).mp hk;have:=List.findIdx?_eq_none_iff.mp hr e he;rw[hp] at this;exact Q5 this
  have hgw: ∀(b:Bool) {s₁:Qe} {Q':Unit->Qe->Prop},Q' () s₁->Qs (Qp prog w) A (match b with | true=>rule "set.scan.the-table-gave-way" | false=>pure ()) Q' E s₁:=
   fun b s₁ Q' hq=>by cases b<;>first | exact Qf hq | exact wpAny_rule hq
  have hperm:=layNew_perm t es ((Qt prog w).hash k) (.str k u);have hfits:=layNew_fits t es ((Qt prog w).hash k) (.str k u);have bFc:=aYe t es ((Qt prog w).hash k) (.str k u);have bRm:=aS9 t es ((Qt prog w).hash k) (.str k u);generalize hL:layNew t es ((Qt prog w).hash k) (.str k u)=L at hperm hfits bFc bRm⊢;obtain⟨es1,t1,wasDummy,gave⟩:=L
  dsimp only at hperm hfits bFc bRm⊢
  rw[Ve] at hperm;have hel1:=(hel.push hkey hsc).perm hperm;have hmem1: ∀k',(S k' || decide (k'=k))=true↔∃e∈es1.toList,(Qt prog w).is k' e.2=true:=mem_push_iff hkey hmem hperm;have hb1':es1.size<scanBound:=by rw[<-Zt,hperm.length_eq,Ql,Zt];simpa using hb1
  refine Qb (hgw _ ?_);have hsz1:es1.size=n+1:=by rw[<-Zt,hperm.length_eq,Ql,Zt,hn];rfl
  have hend: ∀h',Yw a s.heap h'->h'.SetOf (Qt prog w) a (fun k'=>S k' || decide (k'=k)) es1.size->aY1 w h' a->Q true {s with heap:=h'}:=by
   intro h' hsb z' zt;have:=h h' hsb;rw[hSk] at this;rw[hsz1] at z';exact this z' zt
  split
  ·refine Qb ?_
   rw[hashByValue_scannable 8 hsc];refine Qf ?_;refine aXn ?_ ho hex hd hel1 hmem1 hb1' ?_ ?_ ?_ ?_
   ·intro b s₁ Q' hq;cases b<;>first | exact Qf hq | exact wpAny_rule hq
   ·exact SetTable.fits_plain_off hfits
   ·show _\/t1.led=true
    rw[bFc];exact bO0
   ·rfl
   ·intro h' hsb z' zt;dsimp only;exact Qf (hend h' hsb z' zt)
  ·rename_i hnp
   refine Qb (Qf ?_);simp only[↓reduceIte];refine aXn ?_ ho hex hd hel1 hmem1 hb1' hfits ?_ ?_ ?_
   ·intro b s₁ Q' hq;cases b<;>first | exact Qf hq | exact wpAny_rule hq
   ·rw[bFc];exact bO0
   ·exact Bool.eq_false_iff.mpr hnp
   ·intro h' hsb z' zt;dsimp only;exact Qf (hend h' hsb z' zt)
end
def aXq (σ:List Str)(v:Str):List Str:=if σ.contains v then σ else σ++ [v]
def aDz (vs:List Str):List Str:=vs.foldl aXq []
theorem bA6 (vs:List Str)(v:Str):aDz (vs++ [v])=aXq (aDz vs) v:=by unfold aDz;rw[List.foldl_append];rfl
theorem aXp (σ:List Str)(v k:Str):(aXq σ v).contains k=(σ.contains k || decide (k=v)):=by
 unfold aXq;by_cases h:σ.contains v=true
 ·rw[if_pos h]
  by_cases e:k=v
  ·subst e;rw[h];simp
  ·simp[e]
 ·rw[if_neg h]
  by_cases e:k=v
  ·subst e;simp
  ·simp[e,U0]
theorem aXo (σ:List Str)(v:Str):(aXq σ v).length=if σ.contains v then σ.length else σ.length+1:=by unfold aXq;split<;>simp
theorem bA7 (vs:List Str):(aDz vs).length<=vs.length:=by
 have g: ∀(vs σ:List Str),(vs.foldl aXq σ).length<=σ.length+vs.length:=by
  intro vs
  induction vs with
  | nil=>intro σ;exact Qr _
  | cons v vs ih=>
   intro σ;rw[Ua];have h1:=ih (aXq σ v);have h2:(aXq σ v).length<=σ.length+1:=by rw[aXo];split<;>omega
   rw[Zc];omega
 have:=g vs [];unfold aDz
 simpa using this
theorem bEz (vs:List Str)(k:Str):(aDz vs).contains k=vs.contains k:=by
 have g: ∀(vs σ:List Str),(vs.foldl aXq σ).contains k=(σ.contains k || vs.contains k):=by
  intro vs
  induction vs with
  | nil=>intro σ;simp
  | cons v vs ih=>
   intro σ;rw[Ua,ih,aXp,Vd];by_cases e:k=v
   ·subst e;simp
   ·have e':(k==v)=false:=by simpa using e
    simp[e,e']
 have:=g vs [];unfold aDz
 simpa using this
section
variable {prog:Qv}{w:Q8}{A:Zb}{R:Result->Qe->Prop}{I:Addr}{fp wr:List Addr}{G:Array GenState->Array GenState->Prop}{n:Nat}{P:Nat->Qc->Prop}{St:Nat->Qe->Prop}
theorem aPc {h:Heap}{a:Addr}{σ τ:List Str}{m:Nat}{S:Str->Bool}(z:h.SetOf (Qt prog w) a S m)(e: ∀k,S k=τ.contains k)(en:m=τ.length):h.SetOf (Qt prog w) a (fun k=>τ.contains k) τ.length:=by
 have e':S=fun k=>τ.contains k:=funext e
 subst e' en;exact z
theorem aPd {h h':Heap}{a:Addr}{m:Nat}{S:Str->Bool}(z:h.SetOf (Qt prog w) a S m)(e: ∀o,h.get? a=some o->h'.get? a=some o):h'.SetOf (Qt prog w) a S m:=by
 obtain⟨o,es,ep,t,ho,rest⟩:=z;exact⟨o,es,ep,t,e o ho,rest⟩
theorem bDu (W:WalksS prog w A.in1 I fp wr G n P St)(S:Addr)(hSf:S∉fp)(vs:List Str)(hn:vs.length=n)(hval: ∀i v,P i v->∃t,v= .str (vs.getD i Zl) t)(hb:n+1<scanBound):
  ∀(k i:Nat) (s:Qe),n-i=k->i<=n->St i s->s.heap.SetOf (Qt prog w) S (fun k=>(aDz (vs.take i)).contains k) (aDz (vs.take i)).length->aY1 w s.heap S->
   (∀s',Moved (S::wr) G s s'->s'.heap.SetOf (Qt prog w) S (fun k=>(aDz vs).contains k) (aDz vs).length->aY1 w s'.heap S->R (.ok (.ret .none)) s')->
   codeAny (Qp prog w) A (.builtin "set.update.loop" ⟨[.ref S,.ref I],[]⟩) R s:=by
 have nw:S∉wr:=fun z=>hSf (W.sub _ z)
 have up: ∀b∈wr,b∈S::wr:=fun b q=>Qm _ q
 intro k
 induction k with
 | zero=>
  intro i s hk hi st zS zT q;have ei:i=n:=by omega
  subst ei;rw[<-hn,Wg] at zS;refine Js Uj ?_;rw[Around.under_plainId Jj _];show Qs _ A.in1 (pyNext (.ref I)>>=_) _ _ s;refine Qb (W.done s _ _ st fun s' m=> ?_);exact Qf (q s' (m.mono up) (aPd zS fun o e=>m.heap S o nw e) (aSf zT fun o e=>m.heap S o nw e))
 | succ k ih=>
  intro i s hk hi st zS zT q;have lt:i<n:=by omega
  refine Js Uj ?_;rw[Around.under_plainId Jj _];show Qs _ A.in1 (pyNext (.ref I)>>=_) _ _ s;refine Qb (W.item i s _ _ lt st fun v s' hP st' m=> ?_);obtain⟨t,rfl⟩:=hval i v hP;have zS':=aPd zS fun o e=>m.heap S o nw e
  have zT':=aSf zT fun o e=>m.heap S o nw e
  show Qs _ A.in1 (holding [Je (vs.getD i Zl) t] (setAdd S (.str (vs.getD i Zl) t))>>=_) _ _ s';refine Qb (Yn ?_);unfold setAdd;have key:(Qt prog w).is (vs.getD i Zl) (.str (vs.getD i Zl) t)=true:=by simp[Qt,Value.isStrOf]
  refine Yn (Qb ((Qt prog w).pyHash key ?_));have room:(aDz (vs.take i)).length+1<scanBound:=by
   have:=bA7 (vs.take i);rw[Za] at this;omega
  refine bGd (s:={s' with toks:=s'.toks+1}) zS' zT' room fun h' sb z2 zt2=> ?_
  have es:aDz (vs.take (i+1))=aXq (aDz (vs.take i)) (vs.getD i Zl):=by
   have hlt:i<vs.length:=by omega
   rw[<-bA6,List.take_succ,Qj hlt,Wp,Qj hlt];rfl
  have z3:h'.SetOf (Qt prog w) S (fun k=>(aDz (vs.take (i+1))).contains k) (aDz (vs.take (i+1))).length:=
   aPc (σ:=[]) z2 (fun k'=>by rw[es,aXp]) (by rw[es,aXo])
  refine Qf ⟨plainId_quiet Jj _,ih (i+1) _ (by omega) lt (W.frame _ s' _ _ st' (J2 _) fun b hb' o e=> ?_) z3 zt2 fun s'' m'' z'' bRp=> ?_⟩
  ·rw[sb.2 b (fun z:b=S=>hSf (by rw[<-z];exact hb'))];exact e
  ·refine q s'' (Moved.trans W.gtrans ((m.mono up).then_heap (J2 _) fun b o hb' e=> ?_) m'') z'' bRp
   rw[sb.2 b (fun z:b=S=>hb' (by rw[z];exact Qq))];exact e
end
def bNo (w:Q8):Bool:= !w.params.followText "set-order"
abbrev bDb (led:Bool):Obj:={cls:= .type "set",dict:=none,data:= .set #[] 0 (.fresh 0 0 led)}
theorem sub_tuple_set:isSubtype (.type "tuple") (.type "set")=pure false:=by rw[isSubtype_type];kernel_rfl
theorem sub_tuple_frozenset:isSubtype (.type "tuple") (.type "frozenset")=pure false:=by rw[isSubtype_type];kernel_rfl
theorem bDn {w:Q8}{h:Heap}{a:Addr}(e:h.get? a=some (bDb (bNo w))):aY1 w h a:=by
 refine⟨_,e,#[],0,_,rfl,?_,.inl rfl⟩;show _\/bNo w=true;unfold bNo;cases w.params.followText "set-order"<;>simp
section
variable {prog:Qv}{w:Q8}{A:Zb}{E:Qc->Qe->Prop}{s:Qe}
theorem aTx (a:Qc){Q₁:Qc->Qe->Prop}(h:Q₁ (.ref s.heap.objs.size) {s with heap:=s.heap.push (bDb (bNo w))}):
  codeAny (Qp prog w) A (.call (.builtin "set.__new__") ⟨[.type "set",a],[]⟩) (wants Q₁ E) s:=by
 refine codeAny_of_tree (show Qs _ A.in1 (do checkBuiltinCall "set.__new__" ⟨[.type "set",a],[]⟩;again (.builtin "set.__new__" ⟨[.type "set",a],[]⟩)) _ _ s from ?_);refine Qb (wpAny_of_eq (F.newCall_set_1 a) (Qf ⟨plainId_quiet F.plain_set_new _,Js F.entry_set_new ?_⟩));rw[Around.under_plainId F.plain_set_new _];unfold Builtin.«set.__new__» Builtin.Frozenset.newClass;have hsub:=sub_set_self;obtain⟨hp,g,d,tk,os⟩:=s
 dsimp only
 wp_walk
 refine wpAny_askSetting (Qf ?_)
 dsimp only
 simp only[newObj];exact Qb (wpAny_alloc (Qf (Qf h)))
theorem bDx {l:Addr}{items:Array Qc}{T:String}{o:Obj}{nn:Nat}{Q:Qc->Qe->Prop}(hT:T="list"\/T="tuple")(hh:A.handled=none)(ho:s.heap.get? l=some o)(hc:o.cls= .type T)(hd:o.data= .seq items nn)
  (h: ∀(ob:Obj) (St:Nat->Heap->Prop),(∀A',A'.handled=none->Walks prog w A' s.heap.objs.size [s.heap.objs.size,l] [s.heap.objs.size] items.size (fun i v=>items[i]? =some v) St)->St 0 (s.heap.push ob)->Q (.ref s.heap.objs.size) {s with heap:=s.heap.push ob}):
  Qs (Qp prog w) A (pyIter (.ref l)) Q E s:=by
 have lt:l<s.heap.objs.size:=Qo ho;rcases hT with rfl | rfl
 ·have hl:s.heap.IsList l items:=⟨o,ho,hc,nn,hd⟩
  exact wpAny_pyIter_list hl (h _ _ (fun A' hA=>Walks.list hA _ l (Q1 lt) items) ⟨⟨_,Qx _ rfl,rfl,rfl⟩,hl.push _⟩)
 ·have hl:s.heap.IsTuple l items:=⟨o,ho,hc,nn,hd⟩
  exact wpAny_pyIter_tuple hl (h _ _ (fun A' hA=>Walks.tuple hA _ l (Q1 lt) items) ⟨⟨_,Qx _ rfl,rfl,rfl⟩,hl.push _⟩)
theorem aTz {l:Addr}{items:Array Qc}{T:String}{o:Obj}{nn:Nat}{vs:List Str}{Q:Qc->Qe->Prop}(hT:T="list"\/T="tuple")(hh:A.handled=none)(ho:s.heap.get? l=some o)(hc:o.cls= .type T)(hd:o.data= .seq items nn)
  (hv: ∀(i:Nat) (v:Qc),items[i]? =some v->∃t,v=Je (vs.getD i Zl) t) (hn:vs.length=items.size) (hb:items.size+1<scanBound)
  (h: ∀(h':Heap) (tk:Nat),h'.SetOf (Qt prog w) s.heap.objs.size (fun k=>(aDz vs).contains k) (aDz vs).length->aY1 w h' s.heap.objs.size->(∀b u,s.heap.get? b=some u->h'.get? b=some u)->Q (.ref s.heap.objs.size) {s with heap:=h',toks:=tk}):
  Qs (Qp prog w) A (call (.type "set") [.ref l]) Q E s:=by
 obtain⟨c,tl,hmro⟩:=F.called_set.mro;have hmade:=F.called_set.made;have hsub:=F.called_set.sub;have lt:l<s.heap.objs.size:=Qo ho;refine wpAny_call (codeAny_of_tree ?_);show Qs _ _ (callAny (.type "set") _) _ _ _;refine Qf ⟨Code.quiet_builtin _ (by decide+kernel),Js F.entry_type_call ?_⟩;rw[Around.under_plain (weight_type_call_type "set" [.ref l] []) rfl];have h1:=F.called_set.notType;have h2:=F.called_set.canCreate;have hct:=F.typeCall_set_1 (.ref l)
 repeat (any_goals (first | assumption | wp_step))
 refine Jc (aTx (.ref l) (E:=E) (Q₁:=fun obj s₁=> ∃led:Bool,led=bNo w/\obj= .ref s.heap.objs.size/\s₁={s with heap:=s.heap.push (bDb led)}) ⟨_,rfl,rfl,rfl⟩) fun r s₁ hr=> ?_
 cases r with
 | error e=>exact hr
 | ok fl=>
  cases fl with
  | ret obj=>
   obtain⟨led,bO0,rfl,rfl⟩:=hr;have zS:(s.heap.push (bDb led)).get? s.heap.objs.size=some (bDb led):=Qx _ rfl;have tS:Shared.TypeIs {s with heap:=s.heap.push (bDb led)} (.ref s.heap.objs.size) "set":=⟨_,zS,rfl⟩;have hli:=F.called_set.init.lookup;have hbi:=F.called_set.init.bind (.ref s.heap.objs.size)
   repeat (any_goals (first | assumption | wp_step))
   refine Jc (codeAny_call_builtin (R:=wants (fun r s₂=>r= .none/\∃h' tk,s₂={s with heap:=h',toks:=tk}/\h'.SetOf (Qt prog w) s.heap.objs.size (fun k=>(aDz vs).contains k) (aDz vs).length/\aY1 w h' s.heap.objs.size/\
     (∀b u,s.heap.get? b=some u->h'.get? b=some u)) E) F.called_set.init.plain F.entry_set_init (check_set_init_1 tS ?_)) fun r₂ s₂ hr₂=> ?_
   ·have ho':(s.heap.push (bDb led)).get? l=some o:=Qg _ ho
    have tL:Shared.TypeIs {s with heap:=s.heap.push (bDb led)} (.ref l) T:=⟨o,ho',hc⟩;have ns:isSubtype (.type T) (.type "set")=pure false:=by rcases hT with rfl | rfl<;>first | exact F.sub_list_set | exact sub_tuple_set
    have nf:isSubtype (.type T) (.type "frozenset")=pure false:=by rcases hT with rfl | rfl<;>first | exact F.sub_list_frozenset | exact sub_tuple_frozenset
    have nd:(Value.type T==Value.type "dict")=false:=by rcases hT with rfl | rfl<;>decide
    unfold Builtin.«set.__init__» noKeywords Builtin.Frozenset.updateFrom;generalize hPI:pyIter=PI
    wp_walk
    subst hPI;refine bDx (A:=A.in1.in1) hT (by simp[hh]) ho' hc hd fun ob St W st0=> ?_
    refine Qb (wpAny_runValue ?_);have sz:(s.heap.push (bDb led)).objs.size=s.heap.objs.size+1:=Heap.size_push _ _;have apart:s.heap.objs.size∉[(s.heap.push (bDb led)).objs.size,l]:=by
     rw[sz];simp only[Yb,Z4,or_false,not_or];exact⟨by omega,Ue lt⟩
    refine bDu ((W _ (by simp[hh])).toS) s.heap.objs.size apart vs hn (fun i v q=>hv i v q) hb (items.size-0) 0 _ (by omega) (Ye _) st0 ?_ ?_ fun s' m z' zt'=> ?_
    ·exact aPc (σ:=[]) (τ:=[]) ((PyProof.Rows.setObjOf_fresh (knd:=Qt prog w) led).setOf (Qg _ zS) (by decide)) (fun _=>rfl) rfl
    ·exact bDn (by rw[<-bO0];exact Qg _ zS)
    ·obtain⟨h',g',d',tk',os'⟩:=s'
     have eg:g'=s.gens:=m.gens;have ed:d'=s.drawn:=m.drawn;have eo:os'=s.os:=m.os;subst eg ed eo;refine Qf (show Qs _ _ (ret Value.none) _ _ _ from Qf ⟨rfl,h',tk',rfl,z',zt',fun b u q=> ?_⟩);have lb:=Qo q;refine m.heap b u ?_ (Qg _ (Qg _ q));rw[sz];simp only[Yb,Z4,or_false,not_or];have lb':b<s.heap.objs.size:=lb;exact⟨Q1 lb',Q1 (Ul lb')⟩
   ·cases r₂ with
    | error e=>exact hr₂
    | ok fl₂=>
     cases fl₂ with
     | ret r=>
      obtain⟨rfl,h',tk,rfl,z',zt',k'⟩:=hr₂
      repeat (any_goals (first | assumption | wp_step))
      exact h _ _ z' zt' k'
     | _=>exact hr₂.elim
  | _=>exact hr.elim
end
theorem aTu:entryFor table "set.__ne__"=some Builtin.«frozenset.__ne__»:=
 entryFor_alias (id':="frozenset.__ne__") (by kernel_rfl) rfl (by decide+kernel) (by kernel_rfl)
section
variable {prog:Qv}{w:Q8}{A:Zb}{E:Qc->Qe->Prop}{s:Qe}
theorem aUi {a b:Addr}{o1 o2:Obj}{es1 es2:Array (Int×Qc)}{ep1 ep2:Nat}{t1 t2:Yk}{Q:List (Int×Qc)->Qe->Prop}(h1:s.heap.get? a=some o1)(d1:o1.data= .set es1 ep1 t1)(f1:t1.fits es1.size=true)(el1:ElemsOf (Qt prog w) es1.toList)
  (h2:s.heap.get? b=some o2) (d2:o2.data= .set es2 ep2 t2) (f2:t2.fits es2.size=true) (el2:ElemsOf (Qt prog w) es2.toList) (q:Q es1.toList s):Qs (Qp prog w) A (Builtin.Frozenset.walkUnseen a b) Q E s:=by
 unfold Builtin.Frozenset.walkUnseen;refine Qb (Zv h1 d1 f1 ?_);refine Qb (Zv h2 d2 f2 ?_);have tx: ∀e∈es1.toList++es2.toList,∃z t,e.2=Je z t:=fun e he=>by
  rcases List.mem_append.mp he with he | he
  ·obtain⟨⟨z,hz,_⟩,_⟩:=el1 e he
   exact⟨z,Yl hz⟩
  ·obtain⟨⟨z,hz,_⟩,_⟩:=el2 e he
   exact⟨z,Yl hz⟩
 refine Qb (wpAny_forIn_list _ (fun rest st s'=>s'=s/\st=(none,())/\∀e∈rest,∃z t,e.2=Je z t) _ (fun e rest st s' ⟨e1,e2,he⟩=> ?_) (fun st s' ⟨e1,e2,_⟩=> ?_) _ _ ⟨rfl,rfl,tx⟩)
 ·subst e1 e2
  obtain⟨hv,v⟩:=e;obtain⟨z,t,ev⟩:=he _ Qq
  dsimp only at ev
  subst ev;show Qs _ _ (Builtin.Frozenset.quietEq (.str z t)>>=_) _ _ _;refine Qb (show Qs _ _ (pure true) _ _ _ from Qf ?_);exact Qf ⟨rfl,rfl,fun e q=>he e (Qm _ q)⟩
 ·subst e1 e2
  exact Qf q
def bN4 (y:List Str):Int×Qc->Bool
 |(_,.str k _)=>y.contains k
 | _=>false
theorem bK0 {es:List (Int×Qc)}{x y:List Str}(el:ElemsOf (Qt prog w) es)(m: ∀k,x.contains k=true↔∃e∈es,(Qt prog w).is k e.2=true):(x.all fun k=>y.contains k)=es.all (bN4 y):=by
 rw[Jl,Yt,Yt]
 constructor
 ·intro h e he
  obtain⟨⟨z,hz,_⟩,_⟩:=el e he;obtain⟨t,ez⟩:=Yl hz;obtain⟨i,v⟩:=e
  dsimp only at ez hz
  subst ez;exact h z (List.contains_iff_mem.mp ((m z).mpr ⟨_,he,hz⟩))
 ·intro h k hk
  obtain⟨e,he,hz⟩:=(m k).mp (List.contains_iff_mem.mpr hk);obtain⟨t,ez⟩:=Yl hz;have:=h e he;obtain⟨i,v⟩:=e
  dsimp only at ez
  subst ez;exact this
theorem aUo {a b:Addr}{x y:List Str}{Q:Qc->Qe->Prop}(zx:s.heap.SetOf (Qt prog w) a (fun k=>x.contains k) x.length)(zy:s.heap.SetOf (Qt prog w) b (fun k=>y.contains k) y.length)
  (q:Q (.bool (!(decide (x.length=y.length)&&x.all fun k=>y.contains k))) s):Qs (Qp prog w) A (Builtin.«frozenset.__ne__» ⟨[.ref a,.ref b],[]⟩) (fun fin s'=> ∃r,fin= .done (.ret r)/\Q r s') E s:=by
 obtain⟨⟨c1,d1,x1,l1⟩,es1,ep1,t1,o1,⟨k1,_,_⟩,e1,el1,m1,b1,f1,n1⟩:=id zx;obtain⟨⟨c2,d2,x2,l2⟩,es2,ep2,t2,o2,⟨k2,_,_⟩,e2,el2,m2,b2,f2,n2⟩:=id zy
 dsimp only at k1 e1 k2 e2
 subst k1 e1 k2 e2;have hs:=sub_set_self;have hf:=F.sub_set_frozenset;unfold Builtin.«frozenset.__ne__»
 wp_walk using Zv o1 rfl f1,Zv o2 rfl f2,Zf o1,Zf o2
 by_cases hz:es1.size=es2.size
 ·rw[if_neg (by simp[hz])]
  unfold Builtin.Frozenset.subsetOf
  wp_walk using Zv o1 rfl f1,Zv o2 rfl f2,Zf o1,Zf o2
  have eq:(decide (x.length=y.length)&&x.all fun k=>y.contains k)=es1.toList.all (bN4 y):=by
   have e:decide (x.length=y.length)=true:=decide_eq_true (by omega);rw[e,J6,bK0 el1 m1]
  rw[eq] at q;rw[if_neg (by omega)];refine Qb (wpAny_setEpoch_of o1 rfl f1 ?_);refine Qb (aUi o1 rfl f1 el1 o2 rfl f2 el2 ?_);refine Qb (wpAny_forIn_list _ (fun rest st s'=>s'=s/\st=(none,())/\(∀e∈rest,e∈es1.toList)/\es1.toList.all (bN4 y)=rest.all (bN4 y)) _ (fun e rest st s' ⟨e1,e2,he,ha⟩=> ?_) (fun st s' ⟨e1,e2,_,ha⟩=> ?_) _ _ ⟨rfl,rfl,fun _ q=>q,rfl⟩)
  ·subst e1 e2
   obtain⟨⟨z,hz,hh⟩,sc⟩:=el1 e (he e Qq);obtain⟨t,ez⟩:=Yl hz;obtain⟨i,v⟩:=e
   dsimp only at ez hz hh sc
   subst ez hh;show Qs _ _ (holding [Je z t] (setFind b (.str z t) ((Qt prog w).hash z))>>=_) _ _ _;refine Qb (Yn (wpAny_setFind_of hz sc zy fun r hr=> ?_));cases hc:y.contains z with
   | true=>
    rw[hc] at hr;have hn:¬r.isNone=true:=by cases r<;>simp_all
    rw[if_neg hn];unfold Builtin.Frozenset.unchanged;refine Qb (Qb (wpAny_setEpoch_of o1 rfl f1 ?_));rw[if_neg (by simp)];refine Qf (Qf ⟨rfl,rfl,fun e q=>he e (Qm _ q),?_⟩);rw[ha,Zo];show (y.contains z&&_)=_;rw[hc,J6]
   | false=>
    rw[hc] at hr;have hn:r.isNone=true:=by cases r<;>simp_all
    rw[if_pos hn];refine Qf (Qf (Qf ⟨_,rfl,?_⟩));have e0:es1.toList.all (bN4 y)=false:=by
     rw[ha,Zo];show (y.contains z&&_)=_;rw[hc,J3]
    rw[e0] at q;exact q
  ·subst e1 e2
   refine Qf (Qf ⟨_,rfl,?_⟩);rw[ha] at q;exact q
 ·rw[if_pos (by simp[hz])]
  refine Qf (Qf ⟨_,rfl,?_⟩);have e:decide (x.length=y.length)=false:=decide_eq_false (by omega);rw[e] at q;exact q
end
theorem aB8:W8 "set_iterator" "__next__" "set_iterator.__next__":= .of (owner:="set_iterator") (n:="__next__") (by rw[typeLookup_type,builtinLookup_eq_fast];kernel_rfl) (by decide+kernel) (by decide+kernel) (by decide+kernel) (by first | exact .inl (by decide+kernel) | exact .inr (by decide+kernel)) (by rw[isSubtype_type];kernel_rfl)
theorem aLu:W8 "set_iterator" "__iter__" "set_iterator.__iter__":= .of (owner:="set_iterator") (n:="__iter__") (by rw[typeLookup_type,builtinLookup_eq_fast];kernel_rfl) (by decide+kernel) (by decide+kernel) (by decide+kernel) (by first | exact .inl (by decide+kernel) | exact .inr (by decide+kernel)) (by rw[isSubtype_type];kernel_rfl)
theorem aFf:entryFor table "set_iterator.__next__"=some Builtin.«set_iterator.__next__»:=entryFor_of_tree (by kernel_rfl)
theorem aRv:entryFor table "set_iterator.__iter__"=some Builtin.«dict_keyiterator.__iter__»:=entryFor_alias (id':="dict_keyiterator.__iter__") (by kernel_rfl) rfl (by decide+kernel) (by kernel_rfl)
theorem aGe (a:Qc):argsOk "set_iterator.__next__" ⟨[a],[]⟩:=by unfold argsOk;kernel_rfl
theorem aT6 (a:Qc):argsOk "set_iterator.__iter__" ⟨[a],[]⟩:=by unfold argsOk;kernel_rfl
theorem aO0:entryFor table "set.__iter__"=some Builtin.«frozenset.__iter__»:=entryFor_alias (id':="frozenset.__iter__") (by kernel_rfl) rfl (by decide+kernel) (by kernel_rfl)
theorem aR4 (a:Qc):argsOk "set.__iter__" ⟨[a],[]⟩:=by unfold argsOk;kernel_rfl
section
variable {prog:Qv}{w:Q8}{A:Zb}{E:Qc->Qe->Prop}{s:Qe}
theorem aP5 {α:Type}{l:List α}{i:Nat}(h:i<l.length):(l[i]::l.eraseIdx i).Perm l:=by
 rw[List.eraseIdx_eq_take_drop_succ];have e:l.take i++l[i]::l.drop (i+1)=l:=by rw[<-Jv h,W3]
 have p:= @List.perm_middle α l[i] (l.take i) (l.drop (i+1));rw[e] at p;exact p.symm
theorem aSc {src:Source}{n:Nat}{Q:Nat->Qe->Prop}(h0:n≠0)(h: ∀i,i<n->∀d,Q i {s with drawn:=d}):Qs (Qp prog w) A (choose src n) Q E s:=by
 intro Γ p hΓ;unfold choose;rw[Sem.wp_choose];refine⟨h0,?_⟩;exact h _ (Nat.mod_lt _ (Nat.pos_of_ne_zero h0)) _
theorem aYu {α:Type}(n:Nat): ∀(xs:List α) (s:Qe) (Q:List α->Qe->Prop),xs.length=n->(∀ys d,ys.Perm xs->Q ys {s with drawn:=d})->Qs (Qp prog w) A (drawOrder n xs) Q E s:=by
 induction n with
 | zero=>
  intro xs s Q hn h;cases xs with
  | cons _ _=>rw[Zc] at hn;exact absurd hn (Nat.succ_ne_zero _)
  | nil=>
   unfold drawOrder;exact Qf (h [] s.drawn (List.Perm.refl _))
 | succ n ih=>
  intro xs s Q hn h;cases xs with
  | nil=>exact absurd hn.symm (Nat.succ_ne_zero _)
  | cons x xs=>
   unfold drawOrder;refine Qb (aSc (by simp) fun i hi d=> ?_);rw[Qj hi]
   dsimp only
   refine Qb (ih ((x::xs).eraseIdx i) _ _ ?_ fun ys d' hp=>Qf ?_)
   ·rw[Wo hi];omega
   ·refine h _ d' ?_
    exact (List.Perm.cons _ hp).trans (aP5 hi)
theorem aSs {α:Type}(next:Nat->Nat): ∀(n k:Nat) (left:List α) (out:Array α),left.length=n->(pickOrder.go next n k left out).toList.Perm (out.toList++left)
 | 0,k,[],out,_=>by unfold pickOrder.go;simp
 | n+1,k,x::left,out,hn=>by
  unfold pickOrder.go;have hl:next k%(x::left).length<(x::left).length:=Nat.mod_lt _ (by simp);rw[Qj hl]
  dsimp only
  refine (aSs next n (k+1) _ _ ?_).trans ?_
  ·rw[Wo hl];omega
  ·rw[Ve,We]
   exact List.Perm.append_left _ (aP5 hl)
theorem aKz {α:Type}(next:Nat->Nat)(es:Array α):(pickOrder next es).toList.Perm es.toList:=by
 have:=aSs next es.size 0 es.toList #[] (by simp)
 simpa[pickOrder] using this
def aY3 (h:Heap)(it:Addr)(first:Qc)(i:Int)(a:Addr)(n ep:Int):Prop:= ∃o,h.get? it=some o/\o.cls= .type "set_iterator"/\o.data= .fields #[first,Zq i,.ref a,Zq n,Zq ep]
def aN3 (h:Heap)(a:Addr)(es:Array (Int×Qc))(ep:Nat)(t:Yk):Prop:= ∃o,h.get? a=some o/\o.data= .set es ep t
theorem aUn {it a:Addr}{first:Qc}{i n ep:Int}{Q:Qc->Qe->Prop}(hi:aY3 s.heap it first i a n ep)(q:Q (.ref it) s):Qs (Qp prog w) A (pyIter (.ref it)) Q E s:=by
 obtain⟨o,ho,hc,hd⟩:=hi;have hT:s.TypeIs (.ref it) "set_iterator":=⟨o,ho,hc⟩;refine wpAny_pyIter_slot hT aLu (Z6 aLu hT aRv ?_ (aT6 _));exact Qf ⟨_,rfl,"set_iterator",_,hT,aB8.lookup,q⟩
theorem aQk {it a tp:Addr}{π:List Nat}{i:Nat}{es:Array (Int×Qc)}{ep:Nat}{t:Yk}{k:Nat}{hv:Int}{x:Qc}{Q:Option Qc->Qe->Prop}(hi:aY3 s.heap it (.ref tp) i a es.size ep)(hs:aN3 s.heap a es ep t)(hf:t.fits es.size=true)
  (htp:IsTup s.heap tp (π.map fun (j:Nat)=>Zq j).toArray) (hk:π[i]? =some k) (hx:es[k]? =some (hv,x))
  (q: ∀h',aY3 h' it (.ref tp) ((i:Int)+1) a es.size ep->Yw it s.heap h'->Q (some x) {s with heap:=h'}):Qs (Qp prog w) A (pyNext (.ref it)) Q E s:=by
 obtain⟨o,ho,hc,hd⟩:=id hi;obtain⟨oa,hoa,hda⟩:=id hs;obtain⟨ot,hot,hct,nt,hdt⟩:=id htp;have hT:s.TypeIs (.ref it) "set_iterator":=⟨o,ho,hc⟩;have hpl:(π.map fun (j:Nat)=>Zq j).toArray[i]? =some (Zq k):=by simp[hk]
 unfold pyNext;refine Qb (wpAny_attempt (Y4 (name:=Yx "__next__") hT aB8 (Z6 aB8 hT aFf ?_ (aGe _))));unfold Builtin.«set_iterator.__next__»;obtain⟨c1,d1,x1,l1⟩:=o
 dsimp only at hc hd
 subst hc hd
 wp_walk using Zf ho,Zv hoa hda hf,Y3 hoa hda hf,wpAny_seqItems hot hdt
 rw[Zh,hpl];show Qs _ _ (setNextDrawn a (k:Int).toNat (ep:Int).toNat>>=_) _ _ _;rw[Zh,Zh];unfold setNextDrawn;refine Qb (Qb (Y3 hoa hda hf ?_))
 dsimp only
 rw[if_neg (by simp),hx];refine Qf ?_;refine Qb (wpAny_setField ho rfl (by simp) (Qf ⟨x,rfl,Qf (q _ ?_ (Yc ..))⟩));exact⟨_,Y7 _ ho (Obj.isFreed_of_fields (Ji rfl _)),Obj.cls_mapFields ..,by rw[Ji rfl];simp[Zq]⟩
theorem aSm {it a tp:Addr}{π:List Nat}{es:Array (Int×Qc)}{ep:Nat}{t:Yk}{Q:Option Qc->Qe->Prop}(hh:A.handled=none)(hi:aY3 s.heap it (.ref tp) π.length a es.size ep)(hs:aN3 s.heap a es ep t)(hf:t.fits es.size=true)
  (htp:IsTup s.heap tp (π.map fun (j:Nat)=>Zq j).toArray) (q: ∀h' tk,Heap.ExtBut it s.heap h'->Q none {s with heap:=h',toks:=tk}):Qs (Qp prog w) A (pyNext (.ref it)) Q E s:=by
 obtain⟨o,ho,hc,hd⟩:=id hi;obtain⟨oa,hoa,hda⟩:=id hs;obtain⟨ot,hot,hct,nt,hdt⟩:=id htp;have hT:s.TypeIs (.ref it) "set_iterator":=⟨o,ho,hc⟩;have hpl:(π.map fun (j:Nat)=>Zq j).toArray[π.length]? =none:=by simp
 unfold pyNext;refine Qb (wpAny_attempt (Y4 (name:=Yx "__next__") hT aB8 (Z6 aB8 hT aFf ?_ (aGe _))));unfold Builtin.«set_iterator.__next__»;obtain⟨c1,d1,x1,l1⟩:=o
 dsimp only at hc hd
 subst hc hd
 wp_walk using Zf ho,Zv hoa hda hf,Y3 hoa hda hf,wpAny_seqItems hot hdt
 rw[Zh,hpl]
 wp_walk using Zf ho
 simp only[raiseNew];refine Qb (wpAny_handled ?_);rw[show A.in1.handled=none by simp[hh]];refine Qb (Qf (wpAny_throw ?_));refine Qb (wpAny_isInstance (T:="StopIteration") (b:=true) ⟨_,Qx _ rfl,rfl⟩ isSubtype_stop (Qf (q _ _ ?_)));exact (((Yc ..).trans (Yc ..)).extBut.push _).push _
theorem aZx {it a:Addr}{slot i nx:Nat}{es:Array (Int×Qc)}{ep:Nat}{t:Yk}{x:Qc}{Q:Option Qc->Qe->Prop}(hi:aY3 s.heap it (Zq slot) i a es.size ep)(hs:aN3 s.heap a es ep t)(hf:t.fits es.size=true)
  (hn: ∀(A:Zb) (E:Qc->Qe->Prop) (Q:Option (Qc×Nat)->Qe->Prop),Q (some (x,nx)) s->Qs (Qp prog w) A (setNext a slot i ep) Q E s)
  (q: ∀h',aY3 h' it (Zq nx) ((i:Int)+1) a es.size ep->Yw it s.heap h'->Q (some x) {s with heap:=h'}):Qs (Qp prog w) A (pyNext (.ref it)) Q E s:=by
 obtain⟨o,ho,hc,hd⟩:=id hi;obtain⟨oa,hoa,hda⟩:=id hs;have hT:s.TypeIs (.ref it) "set_iterator":=⟨o,ho,hc⟩;unfold pyNext;refine Qb (wpAny_attempt (Y4 (name:=Yx "__next__") hT aB8 (Z6 aB8 hT aFf ?_ (aGe _))));unfold Builtin.«set_iterator.__next__»;obtain⟨c1,d1,x1,l1⟩:=o
 dsimp only at hc hd
 subst hc hd;generalize hSN:setNext=SN
 wp_walk using Zf ho,Zv hoa hda hf
 subst hSN;rw[Zh,Zh,Zh];refine hn _ _ _ ?_
 dsimp only
 refine Qb (wpAny_setField ho rfl (by simp) ?_);have ho2:=Y7 (Obj.mapFields fun z=>z.setIfInBounds 0 (Zq nx)) ho (Obj.isFreed_of_fields (Ji rfl _));have hd2:(Obj.mapFields (fun z=>z.setIfInBounds 0 (Zq nx)) {cls:=Value.type "set_iterator",dict:=d1,data:=Data.fields #[Zq slot,Zq i,Z7 a,Zq es.size,Zq ep],slots:=l1}).data= .fields #[Zq nx,Zq i,Z7 a,Zq es.size,Zq ep]:=by
  rw[Ji rfl];simp
 refine Qb (wpAny_setField ho2 hd2 (by simp) (Qf ⟨x,rfl,Qf (q _ ?_ ((Yc ..).trans (Yc ..)))⟩));exact⟨_,Y7 _ ho2 (Obj.isFreed_of_fields (Ji hd2 _)),(Obj.cls_mapFields ..).trans (Obj.cls_mapFields ..),by rw[Ji hd2];simp[Zq]⟩
theorem bGq {it a:Addr}{slot i:Nat}{es:Array (Int×Qc)}{ep:Nat}{t:Yk}{Q:Option Qc->Qe->Prop}(hh:A.handled=none)(hi:aY3 s.heap it (Zq slot) i a es.size ep)(hs:aN3 s.heap a es ep t)(hf:t.fits es.size=true)
  (hn: ∀(A:Zb) (E:Qc->Qe->Prop) (Q:Option (Qc×Nat)->Qe->Prop),Q none s->Qs (Qp prog w) A (setNext a slot i ep) Q E s)
  (q: ∀h' tk,Heap.ExtBut it s.heap h'->Q none {s with heap:=h',toks:=tk}):Qs (Qp prog w) A (pyNext (.ref it)) Q E s:=by
 obtain⟨o,ho,hc,hd⟩:=id hi;obtain⟨oa,hoa,hda⟩:=id hs;have hT:s.TypeIs (.ref it) "set_iterator":=⟨o,ho,hc⟩;unfold pyNext;refine Qb (wpAny_attempt (Y4 (name:=Yx "__next__") hT aB8 (Z6 aB8 hT aFf ?_ (aGe _))));unfold Builtin.«set_iterator.__next__»;obtain⟨c1,d1,x1,l1⟩:=o
 dsimp only at hc hd
 subst hc hd;generalize hSN:setNext=SN
 wp_walk using Zf ho,Zv hoa hda hf
 subst hSN;rw[Zh,Zh,Zh];refine hn _ _ _ ?_
 dsimp only
 wp_walk using Zf ho
 simp only[raiseNew];refine Qb (wpAny_handled ?_);rw[show A.in1.handled=none by simp[hh]];refine Qb (Qf (wpAny_throw ?_));refine Qb (wpAny_isInstance (T:="StopIteration") (b:=true) ⟨_,Qx _ rfl,rfl⟩ isSubtype_stop (Qf (q _ _ ?_)));exact ((Yc ..).extBut.push _).push _
theorem aS4 {a:Addr}{slot i:Nat}{es:Array (Int×Qc)}{ep:Nat}{t:Yk}{Q:Option (Qc×Nat)->Qe->Prop}(hb:w.params.followText "set-order"=true)(hs:aN3 s.heap a es ep t)(hf:t.fits es.size=true)
  (q:Q (((pickOrder (w.params.setOrder a ep) es)[i]?).map fun e=>(e.2,slot)) s):Qs (Qp prog w) A (setNext a slot i ep) Q E s:=by
 obtain⟨oa,hoa,hda⟩:=hs;unfold setNext setsByText;refine Qb (Y3 hoa hda hf (Qb (Qb (wpAny_askSetting (Qf ?_)))))
 dsimp only
 rw[if_pos (show (Qp prog w).w.params.followText "set-order"=true from hb),if_neg (by simp)];unfold setWalk setsByText;refine Qb (Qb (Y3 hoa hda hf (Qb (Qb (wpAny_askSetting (Qf ?_))))))
 dsimp only
 rw[if_pos (show (Qp prog w).w.params.followText "set-order"=true from hb)];refine Qb (wpAny_askSetting (Qf (Qf q)))
theorem aWy {a:Addr}{slot i:Nat}{es:Array (Int×Qc)}{ep:Nat}{t:Yk}{Q:Option (Qc×Nat)->Qe->Prop}(hb:w.params.followText "set-order"=false)(hl:t.led=true)(h1:es.size<=1)(hs:aN3 s.heap a es ep t)(hf:t.fits es.size=true)
  (q:Q (match es[SetTable.below t.place slot]?,t.place[SetTable.below t.place slot]? with | some (_,x),some j=>some (x,j+1) | _,_=>none) s):Qs (Qp prog w) A (setNext a slot i ep) Q E s:=by
 obtain⟨oa,hoa,hda⟩:=hs;unfold setNext setsByText;refine Qb (Y3 hoa hda hf (Qb (Qb (wpAny_askSetting (Qf ?_)))))
 dsimp only
 rw[if_neg (show ¬(Qp prog w).w.params.followText "set-order"=true by rw[show (Qp prog w).w.params.followText "set-order"=false from hb];decide)];have hd: ∀b:Bool,(b=true->False)->∀(x y:Sem (Option (Qc×Nat))),Qs (Qp prog w) A y Q E s->Qs (Qp prog w) A (if b=true then x else y) Q E s:=fun b hb x y hy=>by rw[if_neg hb];exact hy
 refine hd _ ?_ _ _ ?_
 ·intro h
  have h2:(!t.plain&&decide (es.size>1))=true:=h;simp at h2;omega
 ·refine Qb ?_
  show Qs _ _ (if (!t.led&& !es.isEmpty)=true then unsupported _ else pure ()) _ _ _;rw[if_neg (by simp[hl])];exact Qf (Qf q)
end
section
variable {prog:Qv}{w:Q8}{A:Zb}{E:Qc->Qe->Prop}{s:Qe}
theorem bBg {h h':Heap}{it a:Addr}{f:Qc}{i n ep:Int}(hi:aY3 h it f i a n ep)(e: ∀o,h.get? it=some o->h'.get? it=some o):aY3 h' it f i a n ep:=let ⟨o,g,r⟩:=hi;⟨o,e o g,r⟩
theorem aP0 {h h':Heap}{a:Addr}{es:Array (Int×Qc)}{ep:Nat}{t:Yk}(hi:aN3 h a es ep t)(e: ∀o,h.get? a=some o->h'.get? a=some o):aN3 h' a es ep t:=let ⟨o,g,r⟩:=hi;⟨o,e o g,r⟩
theorem bHc {h h':Heap}{a:Addr}{xs:Array Qc}(hi:IsTup h a xs)(e: ∀o,h.get? a=some o->h'.get? a=some o):IsTup h' a xs:=let ⟨o,g,r⟩:=hi;⟨o,e o g,r⟩
theorem Walks.aZy (hh:A.handled=none){it a tp:Addr}(na:a≠it)(nt:tp≠it){π:List Nat}{es:Array (Int×Qc)}{ep:Nat}{t:Yk}(hf:t.fits es.size=true)(hl:π.length=es.size)(hp: ∀k∈π,k<es.size):
  Walks prog w A it [it,a,tp] [it] es.size (fun i v=>(π.map fun k=>((es[k]?).map (·.2)).getD .none)[i]? =some v) (fun i h=>aY3 h it (.ref tp) (i:Nat) a es.size ep/\aN3 h a es ep t/\IsTup h tp (π.map fun (j:Nat)=>Zq j).toArray) where
 sub:=fun b hb=>by simp at hb;simp[hb]
 frame:=fun i h h' st hk=>⟨bBg st.1 (hk it (by simp)),aP0 st.2.1 (hk a (by simp)),bHc st.2.2 (hk tp (by simp))⟩
 item:=fun i s Q E hi st hQ=>by
  have hi':i<π.length:=by omega
  have hk:π[i]? =some π[i]:=Qj hi';have hj:π[i]<es.size:=hp _ (Zu hi');have hx:es[π[i]]? =some (es[π[i]].1,es[π[i]].2):=by rw[Ju hj]
  refine aQk st.1 st.2.1 hf st.2.2 hk hx fun h' r sb=>hQ _ h' s.toks ?_ ⟨?_,aP0 st.2.1 (fun o=>sb.extBut a o na),bHc st.2.2 (fun o=>sb.extBut tp o nt)⟩ fun b o hb e=>sb.extBut b o (fun z=>hb (by simp[z])) e
  ·simp[hk,hx]
  ·simpa using r
 done:=fun s Q E st hQ=>by
  refine aSm hh (π:=π) (by rw[hl];exact st.1) st.2.1 hf st.2.2 fun h' tk x=>hQ h' tk fun b o hb q=>x b o (fun z=>hb (by simp[z])) q
 self:=fun _ _ _ _ st hQ=>aUn st.1 hQ
theorem Walks.bDt (hh:A.handled=none){it a:Addr}(na:a≠it){es:Array (Int×Qc)}{ep:Nat}{t:Yk}(hf:t.fits es.size=true)(hb:w.params.followText "set-order"=true):
  Walks prog w A it [it,a] [it] es.size (fun i v=>((pickOrder (w.params.setOrder a ep) es).toList.map (·.2))[i]? =some v) (fun i h=>aY3 h it (Zq (0:Nat)) (i:Nat) a es.size ep/\aN3 h a es ep t) where
 sub:=fun b hb=>by simp at hb;simp[hb]
 frame:=fun i h h' st hk=>⟨bBg st.1 (hk it (by simp)),aP0 st.2 (hk a (by simp))⟩
 item:=fun i s Q E hi st hQ=>by
  have hsz:(pickOrder (w.params.setOrder a ep) es).size=es.size:=by
   have:=(aKz (w.params.setOrder a ep) es).length_eq
   simpa using this
  have hx:(pickOrder (w.params.setOrder a ep) es)[i]? =some ((pickOrder (w.params.setOrder a ep) es)[i]'(by omega)):=Ju (by omega);refine aZx (nx:=0) st.1 st.2 hf (fun A E Q q=>aS4 hb st.2 hf (by rw[hx];exact q)) fun h' r sb=>hQ _ h' s.toks ?_ ⟨?_,aP0 st.2 (fun o=>sb.extBut a o na)⟩ fun b o hb e=>sb.extBut b o (fun z=>hb (by simp[z])) e
  ·simp[hx]
  ·simpa using r
 done:=fun s Q E st hQ=>by
  have hsz:(pickOrder (w.params.setOrder a ep) es).size=es.size:=by
   have:=(aKz (w.params.setOrder a ep) es).length_eq
   simpa using this
  have hx:(pickOrder (w.params.setOrder a ep) es)[es.size]? =none:=Wx (by omega);refine bGq hh st.1 st.2 hf (fun A E Q q=>aS4 hb st.2 hf (by rw[hx];exact q)) fun h' tk x=>hQ h' tk fun b o hb q=>x b o (fun z=>hb (by simp[z])) q
 self:=fun _ _ _ _ st hQ=>aUn st.1 hQ
theorem aTr {t:Yk}{n:Nat}(h:t.fits n=true):t.place.size=n:=by
 simp only[SetTable.fits,Qw,beq_iff_eq,decide_eq_true_eq] at h;exact h.1
theorem bKz {xs:Array Nat}(h:xs.size<=1):SetTable.below xs 0=0:=by
 obtain⟨l⟩:=xs
 match l,h with
 | [],_=>rfl
 | [x],_=>simp[SetTable.below,SetTable.below.go]
theorem bKy {xs:Array Nat}{x:Nat}(h:xs= #[x]):SetTable.below xs (x+1)=1:=by subst h;simp[SetTable.below,SetTable.below.go]
theorem Walks.bId (hh:A.handled=none){it a:Addr}(na:a≠it){es:Array (Int×Qc)}{ep:Nat}{t:Yk}(hf:t.fits es.size=true)(hb:w.params.followText "set-order"=false)(hl:t.led=true)(h1:es.size<=1):
  Walks prog w A it [it,a] [it] es.size (fun i v=>(es.toList.map (·.2))[i]? =some v) (fun i h=>(∃slot:Nat,aY3 h it (Zq slot) (i:Nat) a es.size ep/\SetTable.below t.place slot=i)/\aN3 h a es ep t) where
 sub:=fun b hb=>by simp at hb;simp[hb]
 frame:=fun i h h' st hk=>⟨let ⟨c,x,y⟩:=st.1;⟨c,bBg x (hk it (by simp)),y⟩,aP0 st.2 (hk a (by simp))⟩
 item:=fun i s Q E hi st hQ=>by
  obtain⟨⟨c,x,y⟩,z⟩:=st;have hps:=aTr hf;have e1:es.size=1:=by omega
  have i0:i=0:=by omega
  subst i0;have hx:es[0]? =some (es[0].1,es[0].2):=by rw[Ju hi]
  have hj:t.place[0]? =some t.place[0]:=Ju (by omega);refine aZx (nx:=t.place[0]+1) x z hf (fun A E Q q=>aWy hb hl h1 z hf (by rw[y,hx,hj];exact q)) fun h' r sb=>hQ _ h' s.toks ?_ ⟨⟨t.place[0]+1,by simpa using r,?_⟩,aP0 z (fun o=>sb.extBut a o na)⟩ fun b o hb e=>sb.extBut b o (fun z=>hb (by simp[z])) e
  ·simp[hx]
  ·have ep1:t.place= #[t.place[0]]:=by
    apply Array.ext
    ·simp;omega
    ·intro k k1 k2
     have:k=0:=by omega
     subst this;rfl
   exact bKy ep1
 done:=fun s Q E st hQ=>by
  obtain⟨⟨c,x,y⟩,z⟩:=st;have hx:es[es.size]? =none:=Wx (by omega);refine bGq hh x z hf (fun A E Q q=>aWy hb hl h1 z hf (by rw[y,hx];exact q)) fun h' tk x=>hQ h' tk fun b o hb q=>x b o (fun z=>hb (by simp[z])) q
 self:=fun _ _ _ _ st hQ=>let ⟨_,x,_⟩:=st.1;aUn x hQ
theorem aX3 (es:Array (Int×Qc)):(Zj es.size).map (fun k=>((es[k]?).map (·.2)).getD .none)=es.toList.map (·.2):=by
 apply List.ext_getElem
 ·simp
 ·intro i h1 h2
  simp at h1;simp[h1]
theorem aVl {α:Type}{b c:Bool}(e:b=c){x y:Sem α}{Q:α->Qe->Prop}(h:Qs (Qp prog w) A (if c=true then x else y) Q E s):Qs (Qp prog w) A (if b=true then x else y) Q E s:=by subst e;exact h
theorem bDv {a:Addr}{o:Obj}{es:Array (Int×Qc)}{ep:Nat}{t:Yk}{Q:Qc->Qe->Prop}(ho:s.heap.get? a=some o)(hx:o.ExactSet)(hd:o.data= .set es ep t)(hf:t.fits es.size=true)(hz:es.size<=Q0)
  (hw:w.params.followText "set-order"=true\/t.led=true) (hp:es.size<=1\/t.plain=false)
  (q: ∀it fp St (vals:List Qc) h' d,(∀B:Zb,B.handled=none->Walks prog w B it fp [it] es.size (fun i v=>vals[i]? =some v) St)->St 0 h'->(∀b∈fp,b=a\/s.heap.objs.size<=b)->vals.Perm (es.toList.map (·.2))->s.heap.objs.size<=it->
   (∀b o,s.heap.get? b=some o->h'.get? b=some o)->Q (.ref it) {s with heap:=h',drawn:=d}):Qs (Qp prog w) A (pyIter (.ref a)) Q E s:=by
 have hT:s.TypeIs (.ref a) "set":=⟨o,ho,hx.1⟩;have lta:=Qo ho;refine wpAny_pyIter_slot hT F.slot_set_iter (Z6 F.slot_set_iter hT aO0 ?_ (aR4 _));unfold Builtin.«frozenset.__iter__»;refine Qb (m:=Builtin.Frozenset.slot0 "__iter__" ⟨[.ref a],[]⟩) (Qf ?_);unfold Builtin.Frozenset.sizeOf;refine Qb (Qb (Zv ho hd hf (Qf ?_)));unfold setDrawn setsByText;refine Qb (Qb (Y3 ho hd hf (Qb (Qb (wpAny_askSetting (Qf (Qf ?_)))))));refine aVl (c:= !w.params.followText "set-order"&&(!t.plain&&decide (es.size>1))) rfl ?_;have tail: ∀(h1:Heap) (d:Drawn) (first:Qc),(∀b o,s.heap.get? b=some o->h1.get? b=some o)->Q (.ref h1.objs.size) {s with heap:=h1.push {cls:= .type "set_iterator",data:= .fields #[first,Zq (0:Nat),.ref a,Zq es.size,Zq ep]},drawn:=d}->
   Qs (Qp prog w) A.in1 (do let e<-setEpoch a;let v<-newFields "set_iterator" [first,Zq 0,.ref a,Zq es.size,Zq e];ret v) (fun fin s'=> ∃v,fin=Fin.done (Flow.ret v)/\∃T' r,s'.TypeIs v T'/\typeLookup (Value.type T') (Yx "__next__")=pure (some r)/\Q v s') E {s with heap:=h1,drawn:=d}:=by
  intro h1 d first hk q1;refine Qb (wpAny_setEpoch_of (hk _ _ ho) hd hf (Qb (Yp (Qf ⟨_,rfl,"set_iterator",_,⟨_,Qx _ rfl,rfl⟩,aB8.lookup,q1⟩))))
 have isi: ∀(h1:Heap) (first:Qc),aY3 (h1.push {cls:= .type "set_iterator",data:= .fields #[first,Zq (0:Nat),.ref a,Zq es.size,Zq ep]}) h1.objs.size first (0:Nat) a es.size ep:=fun h1 first=>⟨_,Qx _ rfl,rfl,rfl⟩
 by_cases hb:w.params.followText "set-order"=true
 ·rw[if_neg (by simp[hb])]
  refine Qb (Qf (tail s.heap s.drawn _ (fun _ _ e=>e) ?_));refine q _ _ _ _ _ s.drawn (fun B hB=>Walks.bDt hB (Q1 lta) hf hb) ⟨isi _ _,_,Qg _ ho,hd⟩ ?_ ?_ (Qr _) fun b o e=>Qg _ e
  ·intro b hb2;simp only[Yb,Z4,or_false] at hb2;exact hb2.elim (fun e=> .inr (e▸Qr _)) .inl
  ·exact (aKz _ es).map _
 ·have hb0:w.params.followText "set-order"=false:=by simpa using hb
  have hl:t.led=true:=hw.resolve_left hb;by_cases h1:es.size<=1
  ·rw[if_neg (by simp;omega)]
   refine Qb (Qf (tail s.heap s.drawn _ (fun _ _ e=>e) ?_));refine q _ _ _ _ _ s.drawn (fun B hB=>Walks.bId hB (Q1 lta) hf hb0 hl h1) ⟨⟨0,isi _ _,bKz (by rw[aTr hf];exact h1)⟩,_,Qg _ ho,hd⟩ ?_ (List.Perm.refl _) (Qr _) fun b o e=>Qg _ e
   intro b hb2;simp only[Yb,Z4,or_false] at hb2;exact hb2.elim (fun e=> .inr (e▸Qr _)) .inl
  ·have hpl:t.plain=false:=hp.resolve_left (by omega)
   rw[if_pos (by simp[hb0,hpl];omega)];refine Qb (aYu es.size (Zj es.size) _ _ (by simp) fun π d hπ=> ?_);have hlen:π.length=es.size:=by simpa using hπ.length_eq
   refine Qb (Yp ?_ (by show (π.map _).toArray.size<=Q0;simp;omega));refine tail (s.heap.push _) d _ (fun _ _ e=>Qg _ e) ?_;have lt1:a<(s.heap.push {cls:= .type "tuple",data:= .seq (π.map fun (i:Nat)=>Zq i).toArray}).objs.size:=by rw[size_push'];exact Ul lta
   refine q _ _ _ _ _ d (fun B hB=>Walks.aZy (tp:=s.heap.objs.size) hB (Q1 lt1) (by rw[size_push'];exact Q1 (Nat.lt_succ_self _)) hf hlen (fun k hk=>by simpa using hπ.subset hk)) ⟨isi _ _,⟨_,Qg _ (Qg _ ho),hd⟩,⟨_,Qg _ (Qx _ rfl),rfl,0,rfl⟩⟩ ?_ ?_ (by rw[size_push'];exact J2 _) fun b o e=>Qg _ (Qg _ e)
   ·intro b hb2;simp only[Yb,Z4,or_false] at hb2;rw[size_push'] at hb2;exact hb2.elim (fun e=> .inr (e▸J2 _)) (fun h=>h.elim .inl (fun e=> .inr (e▸Qr _)))
   ·rw[<-aX3];exact hπ.map _
end
section
variable {prog:Qv}{w:Q8}{A:Zb}{E:Qc->Qe->Prop}{s:Qe}
theorem sub_set_self:isSubtype (.type "set") (.type "set")=pure true:=by rw[isSubtype_type];kernel_rfl
theorem aV2 {a:Addr}{o:Obj}{es:Array (Int×Qc)}{ep:Nat}{t:Yk}{Q:List Qc->Qe->Prop}(hh:A.handled=none)(ho:s.heap.get? a=some o)(hx:o.ExactSet)(hd:o.data= .set es ep t)(hf:t.fits es.size=true)(hz:es.size<=Q0)
  (hw:w.params.followText "set-order"=true\/t.led=true) (hp:es.size<=1\/t.plain=false)
  (hQ: ∀vals h' tk d,vals.Perm (es.toList.map (·.2))->s.heap.objs.size<=h'.objs.size->(∀b o,s.heap.get? b=some o->h'.get? b=some o)->Q vals {s with heap:=h',toks:=tk,drawn:=d}):Qs (Qp prog w) A (collect (.ref a)) Q E s:=by
 have lta:=Qo ho;have nea:s.heap.objs.size≠a:=Ue lta;have hT: ∀h' d,(h':Heap).get? a=some o->Shared.TypeIs {s with heap:=h',drawn:=d} (.ref a) "set":=fun h' d e=>⟨o,e,hx.1⟩
 generalize hL:({cls:= .type "list",data:= .seq ([]:List Qc).toArray}:Obj)=L;have ho1:(s.heap.push L).get? a=some o:=Qg _ ho;have l1:(s.heap.push L).get? s.heap.objs.size=some L:=Qx _ (by rw[<-hL];rfl);have h1:Builtin.List.listSameRef (.ref s.heap.objs.size) (.ref a)=false:=by simp[Builtin.List.listSameRef,nea]
 unfold collect;refine Qb (wpAny_runValue (Js F.entry_proto_collect ?_));rw[Around.under_plainId F.plain_proto_collect _];show Qs _ A.in1 (newList []>>=fun l=>again (.builtin "list.__iadd__" ⟨[l,.ref a],[]⟩)) _ _ s;refine Qb (Yp (Qf ⟨plainId_quiet F.plain_list_iadd _,Js F.entry_list_iadd ?_⟩));rw[Around.under_plainId F.plain_list_iadd _];show Qs _ A.in1 (Zy (.ref s.heap.objs.size) (.ref a) (.ref s.heap.objs.size)) _ _ _;rw[hL];unfold Zy;refine Qb (wpAny_typeOf (hT _ s.drawn ho1) ?_);rw[if_neg (by rw[h1];decide)];refine Qb (bDv (s:={s with heap:=s.heap.push L}) ho1 hx hd hf hz hw hp fun it fp St vals h2 d W0 st0 hfp hperm hit hk=>Qb (Yn ?_));have ho2:=hk a o ho1;have l2:=hk _ _ l1;unfold Builtin.List.listLengthHint;refine Qb (wpAny_specialOf (hT _ d ho2) F.slot_set_len.lookup ?_);generalize hid:("set.__len__":String)=id0;(fail_if_success (clear hid id0));wp_delta;rw[show splitId id0=some ("set","__len__") from by subst hid;decide+kernel];subst hid;refine Qb (wpAny_isInstance (b:=true) (hT _ d ho2) sub_set_self ?_);rw[if_neg (by decide)];refine aVl (c:=true) ?_ ?_
 ·decide+kernel
 rw[if_pos rfl];refine Qb (wpAny_typeOf (hT _ d ho2) (Qf ?_));refine aVl (c:=true) ?_ ?_
 ·decide+kernel
 rw[if_pos rfl];subst hL;refine Qb (wpAny_rule (Qb ?_));show Qs _ A.in1 (updateSeq s.heap.objs.size (·.push .none)>>=fun _=>updateSeq s.heap.objs.size (·.pop)) _ _ _;refine Qb (wpAny_updateSeq l2 rfl ?_);have l3:=Y7 (Obj.mapSeq (·.push Value.none)) l2 rfl;refine wpAny_updateSeq l3 rfl ?_;have l4:=Y7 (Obj.mapSeq (·.pop)) l3 rfl;refine Qf ⟨plainId_quiet F.plain_extend_loop _,?_⟩;have W:=(W0 A.in1 (by simp[hh])).toS;have hit':s.heap.objs.size+1<=it:=by have h:=hit;dsimp only at h;rw[size_push'] at h;exact h
 have nei:s.heap.objs.size≠it:=Q1 hit';have off:s.heap.objs.size∉fp:=by
  intro h;rcases hfp _ h with e | e
  ·exact nea e
  ·dsimp only at e;rw[size_push'] at e;exact absurd e (Nat.not_succ_le_self _)
 have hk2: ∀b u,b≠s.heap.objs.size->h2.get? b=some u->((h2.update s.heap.objs.size (Obj.mapSeq fun x=>x.push Value.none)).update s.heap.objs.size (Obj.mapSeq fun x=>x.pop)).get? b=some u:=fun b u hb e=>(Y5 _ _ (Ne.symm hb)).trans ((Y5 _ _ (Ne.symm hb)).trans e)
 refine codeAny_extend_loopS W hz _ off _ es.size 0 _ _ _ rfl (Ye _) ((W0 A.in1 (by simp[hh])).frame _ _ _ st0 fun b hb u e=>hk2 b u (fun z=>off (z▸hb)) e) l4 (ItemsOf.nil _) fun s' acc c' hm hS' hacc=> ?_
 show Qs _ A (load s.heap.objs.size>>=_) _ _ s';refine Qb (wpAny_load hS' (Qf ?_));obtain⟨h',g',d',tk',os'⟩:=s';have eg:g'=s.gens:=hm.gens;have ed:d'=d:=hm.drawn;have eo:os'=s.os:=hm.os;subst eg ed eo;have hlen:vals.length=es.size:=by simpa using hperm.length_eq
 have ea:acc.toList=vals:=by
  have hsz:=hacc.1
  apply List.ext_getElem?
  intro i;by_cases hi:i<es.size
  ·have hv:=hacc.2 i acc[i] (by simp[hsz,hi])
   rw[hv];simp[hsz,hi]
  ·rw[Jo (by simp[hsz];omega),Jo (by omega)]
 rw[ea];refine hQ vals h' tk' _ hperm (Uv (Qo hS')) fun b u e=> ?_
 have lb:=Qo e;refine hm.heap b u ?_ (hk2 b u (Q1 lb) (hk b u (Qg _ e)));simp only[Yb,Z4,or_false,not_or];exact⟨Q1 lb,Q1 (W2 lb hit')⟩
end
def leS (a b:Str):Bool:= !ltCps b.cps.toList a.cps.toList
def bDr (xs:List Str):List Str:=xs.mergeSort leS
theorem aNn (a b:Str):leS a b=true↔a.cps.toList<=b.cps.toList:=by
 unfold leS;rw[ltCps_eq];simp
theorem aS7 (a b c:Str)(h1:leS a b=true)(h2:leS b c=true):leS a c=true:=by
 rw[aNn] at*;exact List.le_trans h1 h2
theorem aS8 (a b:Str):(leS a b || leS b a)=true:=by
 rw[Z1,aNn,aNn];exact List.le_total _ _
theorem bE1 (a b:Str)(h1:leS a b=true)(h2:leS b a=true):a=b:=by
 rw[aNn] at*;exact Str.ext' (Array.toList_inj.mp (List.le_antisymm h1 h2))
theorem aMv (xs:List Str):(bDr xs).Perm xs:=List.mergeSort_perm xs leS
theorem aZt (xs:List Str):(bDr xs).Pairwise (fun a b=>leS a b=true):=List.pairwise_mergeSort aS7 aS8 xs
theorem aM6: ∀(l:List Str) (p:Str),risingS p l=true->(p::l).Pairwise (fun a b=>leS a b=true)
 | [],p,_=>by simp
 | x::r,p,h=>by
  have h':(!ltCps x.cps.toList p.cps.toList&&risingS x r)=true:=h;rw[Qw] at h';have ih:=aM6 r x h'.2;refine List.pairwise_cons.mpr ⟨fun y hy=> ?_,ih⟩;rcases List.mem_cons.mp hy with e | e
  ·rw[e];exact h'.1
  ·exact aS7 _ _ _ h'.1 (List.rel_of_pairwise_cons ih e)
theorem aSk: ∀(l:List Str),sortedS l=true->l.Pairwise (fun a b=>leS a b=true)
 | [],_=> .nil
 | x::r,h=>aM6 r x h
theorem bH9 {xs ys:List Str}(hs:sortedS ys=true)(hp:ys.Perm xs):ys=bDr xs:=
 List.Perm.eq_of_pairwise (fun a b _ _=>bE1 a b) (aSk ys hs) (aZt xs) (hp.trans (aMv xs).symm)
theorem aM9 {α:Type}[DecidableEq α]: ∀(xs ys:List α),xs.Nodup->(∀k,k∈xs->k∈ys)->ys.length=xs.length->ys.Perm xs
 | [],ys,_,_,h=>by cases ys with | nil=>exact .refl _ | cons _ _=>simp at h
 | x::xs,ys,hn,hm,h=>by
  have hx:=hm x (by simp);have hp:=List.perm_cons_erase hx;refine hp.trans (List.Perm.cons x (aM9 xs (ys.erase x) (List.nodup_cons.mp hn).2 (fun k hk=> ?_) ?_))
  ·have ne:k≠x:=fun e=>(List.nodup_cons.mp hn).1 (e▸hk)
   exact (Ja ne).mpr (hm k (by simp[hk]))
  ·rw[Yv hx,h];simp
theorem aY0 {σ:List Str}{v:Str}(h:σ.Nodup):(aXq σ v).Nodup:=by
 unfold aXq;split
 ·exact h
 ·rename_i hc
  have hn:v∉σ:=fun hm=>hc (by simpa using hm)
  first
  | exact List.nodup_cons.mpr ⟨hn,h⟩
  |(rw[List.nodup_append];exact⟨h,by simp,by intro a ha b hb;simp at hb;subst hb;intro e;subst e;exact hn ha⟩)
theorem aNk (vs:List Str): ∀(σ:List Str),σ.Nodup->(vs.foldl aXq σ).Nodup:=by
 induction vs with
 | nil=>intro σ h;exact h
 | cons v r ih=>intro σ h;exact ih _ (aY0 h)
theorem aPx (vs:List Str):(aDz vs).Nodup:=aNk vs [] .nil
section
variable {prog:Qv}{w:Q8}{A:Zb}{E:Qc->Qe->Prop}{s:Qe}
theorem aZu {x:Qc}{xs:List Str}{Q:Qc->Qe->Prop}(hh:A.handled=none)(h64:xs.length<64)
  (hc: ∀(B:Zb) (Q':List Qc->Qe->Prop),B.handled=none->(∀vals ts h' tk d,StrsAre vals ts->ts.Perm xs->s.heap.objs.size<=h'.objs.size->(∀b o,s.heap.get? b=some o->h'.get? b=some o)->Q' vals {s with heap:=h',toks:=tk,drawn:=d})->Qs (Qp prog w) B (collect x) Q' E s)
  (h: ∀out l h' tk d m,StrsAre out (bDr xs)->s.heap.objs.size<=l->h'.get? l=some {cls:= .type "list",data:= .seq out.toArray m}->(∀b o,s.heap.get? b=some o->h'.get? b=some o)->Q (.ref l) {s with heap:=h',toks:=tk,drawn:=d}):
  Qs (Qp prog w) A (call (.builtin "sorted") [x]) Q E s:=by
 refine Calls.call_function_entry kind_sorted plain_sorted entry_sorted (args_sorted1 _) ?_;unfold Builtin.«sorted»;refine Qb (m:=checkCount "sorted" 1 1 _) (Qf ?_);refine Qb (hc A.in1 _ (by simp[hh]) fun vals ts h1 tk d hS hp le hk=> ?_);have hvl:vals.length<64:=by rw[hS.len_eq,hp.length_eq];exact h64
 refine Qb (wpAny_newList ?_);have hoL:(h1.push (seqObj "list" vals.toArray 0)).get? h1.objs.size=some (seqObj "list" vals.toArray 0):=Qx _ rfl;show Qs _ _ _ _ _ {s with heap:=h1.push (seqObj "list" vals.toArray 0),toks:=tk,drawn:=d};refine Qb (Yn (Z6 slot_list_sort ⟨_,hoL,rfl⟩ entry_list_sort (list_sort_treeK strKind_oneLt hoL hS.keysOf (fun v₁ v₂ rest e=>keyKind_strs (by rw[<-e];exact hS)) hvl fun st' a1 a2=>⟨_,rfl,?_⟩) (args_list_sort _)));refine Qf ⟨_,rfl,?_⟩;obtain⟨ss',b1,b2,b3⟩:=sorted_out_str hS a1 a2;have e:=bH9 b3 (b2.trans hp);subst e;generalize (Array.map (fun x=>x.snd) (arrOf st'))=out at b1⊢;obtain⟨ol⟩:=out;have k1:=get?_update_seq hoL (fun _=> #[]);have k2:=get?_update_seq (Qg (seqObj "list" #[] 0) (Qg (seqObj "tuple" vals.toArray 0) k1)) (fun _=>ol.toArray);refine h ol h1.objs.size _ tk d _ b1 le k2 fun b o e=> ?_
 have lt:=Qo (hk b o e);have ne:h1.objs.size≠b:=Ue lt;show (sortedHeap _ _ _ _).get? b=some o;unfold sortedHeap;rw[Y5 _ _ ne];refine Qg _ (Qg _ ?_);rw[Y5 _ _ ne];exact Qg _ (hk b o e)
theorem aZq: ∀(vals:List Qc),(∀v∈vals,∃k t,v=Je k t)->∃ts,StrsAre vals ts
 | [],_=>⟨[],.nil⟩
 | v::vs,h=>by
  obtain⟨k,t,e⟩:=h v (by simp);obtain⟨ts,h2⟩:=aZq vs fun v hv=>h v (by simp[hv])
  subst e;exact⟨k::ts,.cons k t h2⟩
theorem aWk: ∀{vals:List Qc} {ts:List Str},StrsAre vals ts->∀{k:Str} {t:Tok},Je k t∈vals->k∈ts
 | _,_,.cons y u r,k,t,h=>by
  rcases List.mem_cons.mp h with e | e
  ·injection e with e1;subst e1;simp
  ·exact Qm _ (aWk r e)
theorem aXz {a:Addr}{ss:List Str}{Q:Qc->Qe->Prop}(hh:A.handled=none)(h64:ss.length<64)(hn:ss.Nodup)(z:s.heap.SetOf (Qt prog w) a (fun k=>ss.contains k) ss.length)(zt:aY1 w s.heap a)
  (h: ∀out l h' tk d m,StrsAre out (bDr ss)->s.heap.objs.size<=l->h'.get? l=some {cls:= .type "list",data:= .seq out.toArray m}->(∀b o,s.heap.get? b=some o->h'.get? b=some o)->Q (.ref l) {s with heap:=h',toks:=tk,drawn:=d}):
  Qs (Qp prog w) A (call (.builtin "sorted") [.ref a]) Q E s:=by
 obtain⟨o,es,ep,t,ho,hx,hd,hel,hm,hb,hf,hsz⟩:=z;obtain⟨o2,ho2,es2,ep2,t2,hd2,hw,hp⟩:=zt;rw[ho] at ho2;cases ho2;rw[hd] at hd2;cases hd2;have hs:Q0=16777216:=sizeLine_eq;refine aZu hh h64 (fun B Q' hB q=>aV2 hB ho hx hd hf (by unfold scanBound at hb;omega) hw (hp.imp_left fun e=>by omega) fun vals h' tk d pv le kp=> ?_) h;have hstr: ∀v∈vals,∃k t,v=Je k t:=by
  intro v hv;obtain⟨e,he,rfl⟩:=List.mem_map.mp (pv.subset hv);obtain⟨⟨k,hk,_⟩,_⟩:=hel e he;obtain⟨t,et⟩:=Yl hk;exact⟨k,t,et⟩
 obtain⟨ts,hS⟩:=aZq vals hstr;refine q vals ts h' tk d hS (aM9 ss ts hn (fun k hk=> ?_) ?_) le kp
 ·obtain⟨e,he,hi⟩:=(hm k).mp (by simpa using hk)
  obtain⟨t,et⟩:=Yl hi;refine aWk hS (t:=t) (pv.symm.subset ?_);rw[<-et];exact List.mem_map.mpr ⟨e,he,rfl⟩
 ·rw[<-hS.len_eq,pv.length_eq,Qi,Zt,hsz]
end
structure Clo where
 nm:Str
 qual:Str
 pr:Arguments
 body:List Stmt
 scope:Scope
 y:Str
def bK8 (H:Hp)(f:Addr)(c:Clo)(v:V):Prop:= ∃(ca cd T:Addr) (doc pm ctv u:Qc) (oc ob:Obj),H f=some (.frz (Jz c.nm c.qual c.pr c.body c.scope [(c.y,ca)] doc pm cd ctv) (.own f))/\
 H cd=some (.frz oc (.own T))/\bK7 oc c.qual/\H ca=some (.frz ob (.own ca))/\ob.data= .cell (some u)/\RelV v u
inductive D where
 | non | bl (b:Bool) | int (i:Int) | str (x:Str) | tup (ds:List D) | lst (ds:List D) | obj (C:Addr) (fs:List (Str×D))
 | dk (kvs:List (Key×D)) | dt (kvs:List (List Key×D)) | exc (C:Addr) | set (ss:List Str) | dz (kvs:List (List Key×D)) | opq | fn (a:Addr) | clo (c:Clo) (d:D)
def excAt (a C:Addr)(h:Heap):Prop:= ∃o,h.get? a=some o/\o.cls= .ref C
def TQ (K:Qa)(H:Hp)(a:Addr)(vs:List V):Prop:=H a=some (.tup vs)
theorem TQ.of {K:Qa}{H:Hp}{a:Addr}{vs:List V}(h:H a=some (.tup vs)):TQ K H a vs:=h
theorem TQ.sq {K:Qa}{H:Hp}{a:Addr}{vs:List V}(h:TQ K H a vs):SqT K H a vs:=SqT.of h
instance {K:Qa} {H:Hp} {a:Addr} {vs:List V}:Coe (TQ K H a vs) (SqT K H a vs):=⟨TQ.sq⟩
theorem bF4 {H H':Hp}(e:Same H H'){f:Addr}{c:Clo}{v:V}(h:bK8 H f c v):bK8 H' f c v:=by
 obtain⟨ca,cd,T,doc,pm,ctv,u,oc,ob,h1,h2,h3,h4,h5⟩:=h;exact⟨ca,cd,T,doc,pm,ctv,u,oc,ob,e _ _ h1,e _ _ h2,h3,e _ _ h4,h5⟩
theorem bAc {H H':Hp}(e:Same H H'){a:Addr}{u:HO}(h:Rd H a u):Rd H' a u:=h.imp (e _ _) fun⟨o,q⟩=>⟨o,e _ _ q⟩
mutual
inductive Is (K:Qa)(H:Hp):D->V->Prop where
 | non:Is K H .non .non
 | bl (b:Bool):Is K H (.bl b) (.bl b)
 | int (i:Int):Is K H (.int i) (.int i)
 | str (x:Str):Is K H (.str x) (.str x)
 | tup {a:Addr} {ds:List D} {vs:List V} (h:TQ K H a vs) (r:IsL K H ds vs):Is K H (.tup ds) (.ref a)
 | lst {a:Addr} {ds:List D} {vs:List V} (h:SqL K H a vs) (r:IsL K H ds vs):Is K H (.lst ds) (.ref a)
 | obj {a C dx:Addr} {fs:List (Str×D)} {vs:List (Str×V)} (h:H a=some (.ins C dx vs)) (r:IsF K H fs vs):Is K H (.obj C fs) (.ref a)
 | dk {a:Addr} {kvs:List (Key×D)} {vs:List (Key×V)} (h:Rd H a (.dK vs)) (r:IsK K H kvs vs):Is K H (.dk kvs) (.ref a)
 | dt {a:Addr} {kvs:List (List Key×D)} {vs:List (List Key×V)} (h:H a=some (.dT vs)) (r:IsT K H kvs vs):Is K H (.dt kvs) (.ref a)
 | exc {a C:Addr} (h:H a=some (.ext (excAt a C))):Is K H (.exc C) (.ref a)
 | set {a:Addr} {ss:List Str} (h:H a=some (.set (fun k=>ss.contains k) ss.length)):Is K H (.set ss) (.ref a)
 | dz {a:Addr} {o:Obj} {kvs:List (List Key×D)} {vs:List (List Key×V)} (h:H a=some (.frz o (.dT vs))) (r:IsT K H kvs vs):Is K H (.dz kvs) (.ref a)
 | opq (a:Addr):Is K H .opq (.ref a)
 | fn (a:Addr):Is K H (.fn a) (.ref a)
 | clo {f:Addr} {c:Clo} {d:D} {v:V} (h:bK8 H f c v) (r:Is K H d v):Is K H (.clo c d) (.ref f)
inductive IsK (K:Qa)(H:Hp):List (Key×D)->List (Key×V)->Prop where
 | nil:IsK K H [] []
 | cons {x:Key} {d:D} {v:V} {ds:List (Key×D)} {vs:List (Key×V)} (h:Is K H d v) (r:IsK K H ds vs):IsK K H ((x,d)::ds) ((x,v)::vs)
inductive IsT (K:Qa)(H:Hp):List (List Key×D)->List (List Key×V)->Prop where
 | nil:IsT K H [] []
 | cons {x:List Key} {d:D} {v:V} {ds:List (List Key×D)} {vs:List (List Key×V)} (h:Is K H d v) (r:IsT K H ds vs):IsT K H ((x,d)::ds) ((x,v)::vs)
inductive IsL (K:Qa)(H:Hp):List D->List V->Prop where
 | nil:IsL K H [] []
 | cons {d:D} {v:V} {ds:List D} {vs:List V} (h:Is K H d v) (r:IsL K H ds vs):IsL K H (d::ds) (v::vs)
inductive IsF (K:Qa)(H:Hp):List (Str×D)->List (Str×V)->Prop where
 | nil:IsF K H [] []
 | cons {x:Str} {d:D} {v:V} {ds:List (Str×D)} {vs:List (Str×V)} (h:Is K H d v) (r:IsF K H ds vs):IsF K H ((x,d)::ds) ((x,v)::vs)
end
section
variable {K:Qa}{H H':Hp}
theorem SqT.mono {a:Addr}{xs:List V}(e:Same H H')(h:SqT K H a xs):SqT K H' a xs:=by
 rcases h with (h |⟨o,h⟩) | h
 ·exact .inl (.inl (e _ _ h))
 ·exact .inl (.inr ⟨o,e _ _ h⟩)
 ·exact .inr h
theorem Is.mono (e:Same H H'){d:D}{v:V}(h:Is K H d v):Is K H' d v:=
 Is.rec (motive_1:=fun d v _=>Is K H' d v) (motive_2:=fun ds vs _=>IsK K H' ds vs) (motive_3:=fun ds vs _=>IsT K H' ds vs) (motive_4:=fun ds vs _=>IsL K H' ds vs) (motive_5:=fun ds vs _=>IsF K H' ds vs)
  .non .bl .int .str (fun h _ r=> .tup (e _ _ h) r) (fun h _ r=> .lst (e.seq h) r) (fun h _ r=> .obj (e _ _ h) r) (fun h _ r=> .dk (bAc e h) r) (fun h _ r=> .dt (e _ _ h) r) (fun h=> .exc (e _ _ h)) (fun h=> .set (e _ _ h)) (fun h _ r=> .dz (e _ _ h) r) (fun v=> .opq v) (fun v=> .fn v) (fun h _ r=> .clo (bF4 e h) r)
  .nil (fun _ _ i r=> .cons i r) .nil (fun _ _ i r=> .cons i r) .nil (fun _ _ i r=> .cons i r) .nil (fun _ _ i r=> .cons i r) h
theorem IsK.mono (e:Same H H'): ∀{ds:List (Key×D)} {vs:List (Key×V)},IsK K H ds vs->IsK K H' ds vs:=by
 intro ds
 induction ds with
 | nil=>intro vs h;cases h;exact .nil
 | cons d ds ih=>intro vs h;cases h with | cons i r=>exact .cons (i.mono e) (ih r)
theorem IsT.mono (e:Same H H'): ∀{ds:List (List Key×D)} {vs:List (List Key×V)},IsT K H ds vs->IsT K H' ds vs:=by
 intro ds
 induction ds with
 | nil=>intro vs h;cases h;exact .nil
 | cons d ds ih=>intro vs h;cases h with | cons i r=>exact .cons (i.mono e) (ih r)
theorem IsL.mono (e:Same H H'): ∀{ds:List (D)} {vs:List (V)},IsL K H ds vs->IsL K H' ds vs:=by
 intro ds
 induction ds with
 | nil=>intro vs h;cases h;exact .nil
 | cons d ds ih=>intro vs h;cases h with | cons i r=>exact .cons (i.mono e) (ih r)
theorem IsF.mono (e:Same H H'): ∀{ds:List (Str×D)} {vs:List (Str×V)},IsF K H ds vs->IsF K H' ds vs:=by
 intro ds
 induction ds with
 | nil=>intro vs h;cases h;exact .nil
 | cons d ds ih=>intro vs h;cases h with | cons i r=>exact .cons (i.mono e) (ih r)
theorem IsL.length: ∀{ds:List D} {vs:List V},IsL K H ds vs->ds.length=vs.length:=by
 intro ds
 induction ds with
 | nil=>intro vs h;cases h;rfl
 | cons d ds ih=>intro vs h;cases h with | cons _ r=>exact congrArg (· +1) (ih r)
theorem IsL.get: ∀{ds:List D} {vs:List V} {i:Nat} {d:D},IsL K H ds vs->ds[i]? =some d->∃v,vs[i]? =some v/\Is K H d v
 | _,_,_,_,.nil,e=>by simp at e
 | _,_,0,_,.cons h _,e=>by simp at e;subst e;exact⟨_,rfl,h⟩
 | _,_,i+1,d,.cons _ r,e=>by
  obtain⟨v,h1,h2⟩:=IsL.get (i:=i) (d:=d) r (by simpa using e);exact⟨v,by simpa using h1,h2⟩
theorem IsL.bQi: ∀{ds:List D} {vs:List V} {i:Nat} {v:V},IsL K H ds vs->vs[i]? =some v->∃d,ds[i]? =some d/\Is K H d v
 | _,_,_,_,.nil,e=>by simp at e
 | _,_,0,_,.cons h _,e=>by simp at e;subst e;exact⟨_,rfl,h⟩
 | _,_,i+1,v,.cons _ r,e=>by
  obtain⟨d,h1,h2⟩:=IsL.bQi (i:=i) (v:=v) r (by simpa using e);exact⟨d,by simpa using h1,h2⟩
theorem IsL.append: ∀{ds es:List D} {vs ws:List V},IsL K H ds vs->IsL K H es ws->IsL K H (ds++es) (vs++ws):=by
 intro ds
 induction ds with
 | nil=>intro es vs ws h s;cases h;exact s
 | cons d ds ih=>intro es vs ws h s;cases h with | cons i r=>exact .cons i (ih r s)
theorem IsL.take: ∀{ds:List D} {vs:List V} (n:Nat),IsL K H ds vs->IsL K H (ds.take n) (vs.take n)
 | _,_,0,_=> .nil
 | _,_,_+1,.nil=> .nil
 | _,_,n+1,.cons h r=> .cons h (IsL.take n r)
theorem IsL.drop: ∀{ds:List D} {vs:List V} (n:Nat),IsL K H ds vs->IsL K H (ds.drop n) (vs.drop n)
 | _,_,0,r=>r
 | _,_,_+1,.nil=> .nil
 | _,_,n+1,.cons _ r=>IsL.drop n r
theorem aW5: ∀(ns:List Int),IsL K H (ns.map D.int) (ns.map V.int)
 | []=> .nil
 | n::r=> .cons (.int n) (aW5 r)
end
inductive DO where
 | k (kvs:List (Key×D)) | t (kvs:List (List Key×D))
def DO.d:DO->D
 | .k kvs=> .dk kvs
 | .t kvs=> .dt kvs
def kD:Key->D
 | .inl i=> .int i
 | .inr x=> .str x
inductive NK where
 | l | k (ks:List Key) | t (ks:List (List Key))
def NK.d:NK->List (List D)->D
 | .l,ls=> .lst (ls.map D.lst)
 | .k ks,ls=> .dk (ks.zip (ls.map D.lst))
 | .t ks,ls=> .dt (ks.zip (ls.map D.lst))
inductive SV where
 | sh (d:D) | own (ds:List D) | oin (a C dx:Addr) (fs:List (Str×D)) | ow (o:DO) | tk (ks:List Key) | nl (kd:NK) (ls:List (List D))
abbrev Rho:=List (Option SV)
def SV.cur:SV->D
 | .sh d=>d
 | .own ds=> .lst ds
 | .oin _ C _ fs=> .obj C fs
 | .ow o=>o.d
 | .tk ks=> .tup (ks.map kD)
 | .nl kd ls=>kd.d ls
open Classical in
def Off (H:Hp)(O:Nat->Option Addr):Hp:=fun b=>if∃i,O i=some b then none else H b
theorem Off.same (H:Hp)(O:Nat->Option Addr):Same (Off H O) H:=fun b o h=>by
 unfold Off at h;split at h
 ·cases h
 ·exact h
theorem Off.of {H:Hp}{O:Nat->Option Addr}{b:Addr}{o:HO}(h:H b=some o)(n: ∀i,O i≠some b):Off H O b=some o:=by
 unfold Off;rw[if_neg (fun⟨i,e⟩=>n i e)];exact h
theorem Off.not {H:Hp}{O:Nat->Option Addr}{b:Addr}{o:HO}(h:Off H O b=some o): ∀i,O i≠some b:=fun i e=>by
 unfold Off at h;rw[if_pos ⟨i,e⟩] at h;cases h
theorem Off.mono {H H':Hp}{O:Nat->Option Addr}(e:Same H H'):Same (Off H O) (Off H' O):=fun b o h=>Off.of (e _ _ (Off.same H O b o h)) (Off.not h)
theorem Off.less {H:Hp}{O O':Nat->Option Addr}(e: ∀i a,O' i=some a->∃j,O j=some a):Same (Off H O) (Off H O'):=fun b o h=>Off.of (Off.same H O b o h) fun i q=>by
 obtain⟨j,z⟩:=e i b q;exact Off.not h j z
theorem Off.upd {H:Hp}{O:Nat->Option Addr}{a:Addr}{o:HO}{i:Nat}(h:O i=some a):Off (upd H a o) O=Off H O:=by
 funext b
 unfold Off;by_cases q: ∃j,O j=some b
 ·rw[if_pos q,if_pos q]
 ·rw[if_neg q,if_neg q,aAv]
  intro z;subst z;exact q ⟨i,h⟩
def bP7:HO->Bool
 | .lst _=>true
 | .ins _ _ _=>true
 | .dK _=>true
 | .dT _=>true
 | _=>false
def aSb (H:Hp)(O:Nat->Option Addr):Prop:= ∀i a,O i=some a->∃w,H a=some w/\bP7 w=true
def IsO (K:Qa)(H:Hp):DO->HO->Prop
 | .k kvs,.dK vs=>IsK K H kvs vs
 | .t kvs,.dT vs=>IsT K H kvs vs
 | _,_=>False
theorem IsO.mono {K:Qa}{H H':Hp}(e:Same H H'){o:DO}{w:HO}(h:IsO K H o w):IsO K H' o w:=by
 cases o<;>cases w<;>first | exact Qd h | skip
 ·exact IsK.mono e h
 ·exact IsT.mono e h
theorem IsO.mut {K:Qa}{H:Hp}{o:DO}{w:HO}(h:IsO K H o w):bP7 w=true:=by
 cases o<;>cases w<;>first | exact Qd h | rfl
theorem IsO.is {K:Qa}{H:Hp}{o:DO}{w:HO}{a:Addr}(ha:H a=some w)(h:IsO K H o w):Is K H o.d (.ref a):=by
 cases o<;>cases w<;>first | exact Qd h | skip
 ·exact .dk (.inl ha) h
 ·exact .dt ha h
theorem bQb {K:Qa}{H:Hp}(k:Key):Is K H (kD k) (kV k):=by
 cases k
 ·exact .int _
 ·exact .str _
theorem bHd {K:Qa}{H:Hp}: ∀(ks:List Key),IsL K H (ks.map kD) (ks.map kV)
 | []=> .nil
 | k::ks=> .cons (bQb k) (bHd ks)
theorem aSb.mono {H H':Hp}{O:Nat->Option Addr}(e:Same H H')(h:aSb H O):aSb H' O:=fun i a q=>by
 obtain⟨w,h1,h2⟩:=h i a q;exact⟨w,e _ _ h1,h2⟩
def nx (n i j:Nat):Nat:=n*(j+1)+i
def PV:NK->List Addr->HO->Prop
 | .l,bs,.lst vs=>vs=bs.map V.ref
 | .k ks,bs,.dK kvs=>ks.length=bs.length/\kvs=ks.zip (bs.map V.ref)
 | .t ks,bs,.dT kvs=>ks.length=bs.length/\kvs=ks.zip (bs.map V.ref)
 | _,_,_=>False
def InL (K:Qa)(H:Hp)(O:Nat->Option Addr)(n i:Nat):Nat->List Addr->List (List D)->Prop
 | _,[],[]=>True
 | j,b::bs,ds::ls=>(O (nx n i j)=some b/\∃vs,H b=some (.lst vs)/\IsL K (Off H O) ds vs)/\InL K H O n i (j+1) bs ls
 | _,_,_=>False
theorem bP3 {n i:Nat}(j:Nat):n<=nx n i j:=by
 unfold nx;rw[Nat.mul_add,Nat.mul_one];omega
theorem InL.move {K:Qa}{H H':Hp}{O O':Nat->Option Addr}{n i:Nat}(hO: ∀m b w,n<=m->O m=some b->H b=some w->O' m=some b/\H' b=some w)(sm:Same (Off H O) (Off H' O')): ∀{bs:List Addr} {ls:List (List D)} {j:Nat},InL K H O n i j bs ls->InL K H' O' n i j bs ls
 | [],[],_,_=>True.intro
 | b::bs,ds::ls,j,⟨⟨h1,vs,h2,h3⟩,h4⟩=>by
  obtain⟨e1,e2⟩:=hO _ b _ (bP3 j) h1 h2;exact⟨⟨e1,vs,e2,h3.mono sm⟩,InL.move hO sm h4⟩
 | [],_::_,_,h=>Qd h
 | _::_,[],_,h=>Qd h
def NL (K:Qa)(H:Hp)(O:Nat->Option Addr)(σ:St)(i:Nat)(kd:NK)(ls:List (List D)):Prop:=
 ∃a w bs,O i=some a/\σ[i]? =some (some (.ref a))/\H a=some w/\PV kd bs w/\InL K H O σ.length i 0 bs ls
theorem NL.move {K:Qa}{H H':Hp}{O O':Nat->Option Addr}{σ σ':St}{i:Nat}{kd:NK}{ls:List (List D)}(hl:σ'.length=σ.length)(hs:σ'[i]? =σ[i]?)(hO: ∀m b w,(m=i\/σ.length<=m)->O m=some b->H b=some w->O' m=some b/\H' b=some w)(sm:Same (Off H O) (Off H' O'))
  (h:NL K H O σ i kd ls):NL K H' O' σ' i kd ls:=by
 obtain⟨a,w,bs,h1,h2,h3,h4,h5⟩:=h;obtain⟨e1,e2⟩:=hO i a w (.inl rfl) h1 h3;refine⟨a,w,bs,e1,hs.trans h2,e2,h4,?_⟩;rw[hl];exact InL.move (fun m b w hm=>hO m b w (.inr hm)) sm h5
def Slot (K:Qa)(H:Hp)(O:Nat->Option Addr)(σ:St)(i:Nat):SV->Prop
 | .sh d=> ∃v,σ[i]? =some (some v)/\Is K (Off H O) d v
 | .own ds=> ∃a vs,O i=some a/\σ[i]? =some (some (.ref a))/\H a=some (.lst vs)/\IsL K (Off H O) ds vs
 | .oin a C dx fs=>O i=some a/\σ[i]? =some (some (.ref a))/\dx≠a/\(∃vs,H a=some (.ins C dx vs)/\IsF K (Off H O) fs vs)
 | .ow o=> ∃a w,O i=some a/\σ[i]? =some (some (.ref a))/\H a=some w/\IsO K (Off H O) o w
 | .tk ks=> ∃a,σ[i]? =some (some (.ref a))/\Off H O a=some (.tup (ks.map kV))
 | .nl kd ls=>NL K H O σ i kd ls
theorem bHe {K:Qa}{H:Hp}{O:Nat->Option Addr}{n i:Nat}: ∀{bs:List Addr} {ls:List (List D)} {j:Nat},InL K H O n i j bs ls->IsL K H (ls.map D.lst) (bs.map V.ref)
 | [],[],_,_=> .nil
 | b::bs,ds::ls,j,⟨⟨_,vs,h2,h3⟩,h4⟩=> .cons (.lst (SqL.of h2) (h3.mono (Off.same _ _))) (bHe h4)
 | [],_::_,_,h=>Qd h
 | _::_,[],_,h=>Qd h
theorem bBo {K:Qa}{H:Hp}: ∀{ks:List Key} {ds:List D} {vs:List V},IsL K H ds vs->IsK K H (ks.zip ds) (ks.zip vs)
 | [],_,_,_=> .nil
 | _::_,_,_,.nil=> .nil
 | _::_,_,_,.cons i r=> .cons i (bBo r)
theorem bBk {K:Qa}{H:Hp}: ∀{ks:List (List Key)} {ds:List D} {vs:List V},IsL K H ds vs->IsT K H (ks.zip ds) (ks.zip vs)
 | [],_,_,_=> .nil
 | _::_,_,_,.nil=> .nil
 | _::_,_,_,.cons i r=> .cons i (bBk r)
theorem NL.is {K:Qa}{H:Hp}{O:Nat->Option Addr}{σ:St}{i:Nat}{kd:NK}{ls:List (List D)}(h:NL K H O σ i kd ls): ∃v,σ[i]? =some (some v)/\Is K H (kd.d ls) v:=by
 obtain⟨a,w,bs,h1,h2,h3,h4,h5⟩:=h;refine⟨.ref a,h2,?_⟩;have z:=bHe h5;cases kd<;>cases w<;>first | exact Qd h4 | skip
 ·cases h4;exact .lst (SqL.of h3) z
 ·cases h4.2;exact .dk (.inl h3) (bBo z)
 ·cases h4.2;exact .dt h3 (bBk z)
def Rel (K:Qa)(H₀:Hp)(ρ:Rho)(σ:St)(H:Hp):Prop:=
 ∃O:Nat->Option Addr,(∀i j a,O i=some a->O j=some a->i=j)/\aSb H O/\Same H₀ (Off H O)/\ρ.length=σ.length/\∀i sv,ρ[i]? =some (some sv)->Slot K H O σ i sv
section
variable {K:Qa}{H₀ H H':Hp}{ρ:Rho}{σ:St}
theorem Slot.mono {O:Nat->Option Addr}{i:Nat}{sv:SV}(e:Same H H')(h:Slot K H O σ i sv):Slot K H' O σ i sv:=by
 cases sv with
 | sh d=>obtain⟨v,h1,h2⟩:=h;exact⟨v,h1,h2.mono (Off.mono e)⟩
 | own ds=>obtain⟨a,vs,h1,h2,h3,h4⟩:=h;exact⟨a,vs,h1,h2,e _ _ h3,h4.mono (Off.mono e)⟩
 | oin a C dx fs=>obtain⟨h1,h2,h3,vs,h4,h5⟩:=h;exact⟨h1,h2,h3,vs,e _ _ h4,h5.mono (Off.mono e)⟩
 | ow o=>obtain⟨a,w,h1,h2,h3,h4⟩:=h;exact⟨a,w,h1,h2,e _ _ h3,h4.mono (Off.mono e)⟩
 | tk ks=>obtain⟨a,h1,h2⟩:=h;exact⟨a,h1,Off.mono e _ _ h2⟩
 | nl kd ls=>exact NL.move rfl rfl (fun m b w _ e1 e2=>⟨e1,e _ _ e2⟩) (Off.mono e) h
theorem Rel.mono (e:Same H H')(r:Rel K H₀ ρ σ H):Rel K H₀ ρ σ H':=by
 obtain⟨O,h1,ho,h2,hl,h3⟩:=r;exact⟨O,h1,ho.mono e,h2.trans (Off.mono e),hl,fun i sv q=>(h3 i sv q).mono e⟩
theorem Rel.get (r:Rel K H₀ ρ σ H){i:Nat}{sv:SV}(q:ρ[i]? =some (some sv)): ∃v,σ[i]? =some (some v)/\Is K H sv.cur v:=by
 obtain⟨O,h1,ho,h2,hl,h3⟩:=r;have z:=h3 i sv q;cases sv with
 | sh d=>obtain⟨v,e1,e2⟩:=z;exact⟨v,e1,e2.mono (Off.same _ _)⟩
 | own ds=>obtain⟨a,vs,e1,e2,e3,e4⟩:=z;exact⟨.ref a,e2,.lst (SqL.of e3) (e4.mono (Off.same _ _))⟩
 | oin a C dx fs=>obtain⟨e1,e2,e3,vs,e4,e5⟩:=z;exact⟨.ref a,e2,.obj e4 (e5.mono (Off.same _ _))⟩
 | ow o=>obtain⟨a,w,e1,e2,e3,e4⟩:=z;exact⟨.ref a,e2,(e4.mono (Off.same _ _)).is e3⟩
 | tk ks=>obtain⟨a,e1,e2⟩:=z;exact⟨.ref a,e1,.tup (TQ.of (Off.same _ _ _ _ e2)) (bHd ks)⟩
 | nl kd ls=>exact NL.is z
theorem Rel.kept (r:Rel K H₀ ρ σ H):Same H₀ H:=by
 obtain⟨O,h1,ho,h2,_⟩:=r;exact h2.trans (Off.same _ _)
end
mutual
def D.imm:D->Bool
 | .non=>true | .bl _=>true | .int _=>true | .str _=>true
 | .tup ds=>aCo ds
 | .lst _=>false
 | .obj _ _=>false
 | .dk _=>false
 | .dt _=>false
 | .exc _=>false
 | .set _=>false
 | .dz _=>false
 | .opq=>true
 | .fn _=>true
 | .clo _ _=>false
def aCo:List D->Bool
 | []=>true
 | d::ds=>d.imm&&aCo ds
end
section
variable {K:Qa}{H H':Hp}
theorem Is.alike (ht: ∀b xs,H b=some (.tup xs)->H' b=some (.tup xs))(hf: ∀b o u,H b=some (.frz o u)->H' b=some (.frz o u)){d:D}{v:V}(q:d.imm=true)(h:Is K H d v):Is K H' d v:=
 Is.rec (motive_1:=fun d v _=>d.imm=true->Is K H' d v) (motive_2:=fun _ _ _=>True) (motive_3:=fun _ _ _=>True) (motive_4:=fun ds vs _=>aCo ds=true->IsL K H' ds vs) (motive_5:=fun _ _ _=>True)
  (fun _=> .non) (fun b _=> .bl b) (fun i _=> .int i) (fun x _=> .str x) (fun h _ r q=> .tup (ht _ _ h) (r q)) (fun _ _ _ q=>Q5 (show false=true from q)) (fun _ _ _ q=>Q5 (show false=true from q)) (fun _ _ _ q=>Q5 (show false=true from q)) (fun _ _ _ q=>Q5 (show false=true from q)) (fun _ q=>Q5 (show false=true from q)) (fun _ q=>Q5 (show false=true from q)) (fun _ _ _ q=>Q5 (show false=true from q)) (fun v _=> .opq v) (fun v _=> .fn v) (fun _ _ _ q=>Q5 (show false=true from q))
  trivial (fun _ _ _ _=>trivial) trivial (fun _ _ _ _=>trivial) (fun _=> .nil) (fun _ _ i r q=> .cons (i (Bool.and_eq_true_iff.mp q).1) (r (Bool.and_eq_true_iff.mp q).2)) trivial (fun _ _ _ _=>trivial) h q
theorem IsL.alike (ht: ∀b xs,H b=some (.tup xs)->H' b=some (.tup xs))(hf: ∀b o u,H b=some (.frz o u)->H' b=some (.frz o u)): ∀{ds:List D} {vs:List V},aCo ds=true->IsL K H ds vs->IsL K H' ds vs:=by
 intro ds
 induction ds with
 | nil=>intro vs q h;cases h;exact .nil
 | cons d ds ih=>
  intro vs q h;rw[aCo,Qw] at q;cases h with | cons i r=>exact .cons (Is.alike ht hf q.1 i) (ih q.2 r)
theorem aQ8 {O:Nat->Option Addr}(ho:aSb H O){d:D}{v:V}(q:d.imm=true)(h:Is K H d v):Is K (Off H O) d v:=by
 refine Is.alike (fun b xs e=>Off.of e fun i z=> ?_) (fun b o u e=>Off.of e fun i z=> ?_) q h
 ·obtain⟨u,w,m⟩:=ho i b z;rw[w] at e;cases e;cases m
 ·obtain⟨u,w,m⟩:=ho i b z;rw[w] at e;cases e;cases m
theorem aIp {O:Nat->Option Addr}(ho:aSb H O){ds:List D}{vs:List V}(q:aCo ds=true)(h:IsL K H ds vs):IsL K (Off H O) ds vs:=by
 refine IsL.alike (fun b xs e=>Off.of e fun i z=> ?_) (fun b o u e=>Off.of e fun i z=> ?_) q h
 ·obtain⟨u,w,m⟩:=ho i b z;rw[w] at e;cases e;cases m
 ·obtain⟨u,w,m⟩:=ho i b z;rw[w] at e;cases e;cases m
end
abbrev M (α:Type):=Option (Except Addr α)
def ok {α:Type}(a:α):M α:=some (.ok a)
def err {α:Type}(c:Addr):M α:=some (.error c)
def bnd {α β:Type}(m:M α)(k:α->M β):M β:=match m with
 | none=>none
 | some (.error c)=>some (.error c)
 | some (.ok a)=>k a
@[simp] theorem aBj {α β:Type} (a:α) (k:α->M β):bnd (ok a) k=k a:=rfl
@[simp] theorem aR2 {α β:Type} (c:Addr) (k:α->M β):bnd (err c:M α) k=err c:=rfl
@[simp] theorem bO3 {α β:Type} (k:α->M β):bnd (none:M α) k=none:=rfl
theorem aCr {α:Type}{a b:α}(h:ok a=ok b):a=b:=by cases h;rfl
theorem bCx {α β:Type}{m:M α}{k:α->M β}{b:β}(h:bnd m k=ok b): ∃a,m=ok a/\k a=ok b:=by
 unfold bnd at h;split at h
 ·cases h
 ·cases h
 ·exact⟨_,rfl,h⟩
def Fly (P:Qv)(w:Q8)(outer:List Env)(s:Qe)(ea c:Addr)(H':Hp)(s':Qe):Prop:=
 ∃Bs a0,Heap.FlyingW Bs outer ea (.ref c) a0 s'.heap/\(∀b o o',s.heap.get? b=some o'->b∉frs outer->s'.heap.get? b=some o->Bs.get? b=some o)/\HOk P w H' Bs
def Exc (X:Cx)(pins:List (Addr×Obj))(σ:St)(H:Hp)(c:Addr)(e:Qc)(s:Qe):Prop:= ∃ea,e= .ref ea/\
 ((∃h args,Heap.MadeExcOf h s.heap ea (.ref c) args/\Inv X pins σ H {s with heap:=h})\/
  (∃s1 H1,Inv X pins σ H1 s1/\s.os=s1.os/\AllBare s.gens/\Un (frs X.stack) [] H1 H s1.heap s.heap/\Fly X.prog X.w X.stack s1 ea c H s))
def Thr (X:Cx)(σ:St)(H:Hp)(c:Addr):Prop:= ∀(pins:List (Addr×Obj)) (s:Qe) (H':Hp) (e:Qc),Same H H'->Exc X pins σ H' c e s->X.xe e s
theorem Thr.mono {X:Cx}{σ:St}{H H':Hp}{c:Addr}(e:Same H H')(t:Thr X σ H c):Thr X σ H' c:=fun pins s H2 ev q x=>t pins s H2 ev (e.trans q) x
def Res {α:Type}(X:Cx)(σ:St)(H:Hp)(Q:α->Prop)(m:M α):Prop:=match m with
 | none=>False
 | some (.error c)=>Thr X σ H c
 | some (.ok a)=>Q a
theorem Res.bind {α β:Type}{X:Cx}{σ:St}{H:Hp}{Q:β->Prop}{m:M α}{k:α->M β}(h:Res X σ H Q (bnd m k)):Res X σ H (fun a=>Res X σ H Q (k a)) m:=by
 unfold bnd at h;split at h
 ·exact h
 ·exact h
 ·exact h
theorem Res.mono {α:Type}{X:Cx}{σ:St}{H H':Hp}{Q Q':α->Prop}{m:M α}(e:Same H H')(h:Res X σ H Q m)(i: ∀a,Q a->Q' a):Res X σ H' Q' m:=by
 unfold Res at*;split at h
 ·exact h
 ·exact Thr.mono e h
 ·exact i _ h
theorem Res.imp {α:Type}{X:Cx}{σ:St}{H:Hp}{Q Q':α->Prop}{m:M α}(h:Res X σ H Q m)(i: ∀a,Q a->Q' a):Res X σ H Q' m:=h.mono (Same.refl H) i
def tD (X:Cx)(B:Hp)(f:Rho->M D):TE:=fun σ H Q=> ∃ρ,Rel X.K B ρ σ H/\Res X σ H (fun d=> ∀v H',Same H H'->Is X.K H' d v->Q v H') (f ρ)
def tDT (X:Cx)(B:Hp)(f:Rho->M Bool):TT:=fun σ H Q=> ∃ρ,Rel X.K B ρ σ H/\Res X σ H (fun b=> ∀H',Same H H'->Q b H') (f ρ)
def tDA (X:Cx)(B:Hp)(f:Rho->M (List D)):TA:=fun σ H Q=> ∃ρ,Rel X.K B ρ σ H/\Res X σ H (fun ds=> ∀vs H',Same H H'->IsL X.K H' ds vs->Q vs H') (f ρ)
abbrev PD (X:Cx)(B:Hp)(e:Expr)(f:Rho->M D):Prop:=PE X e (tD X B f)
abbrev PDT (X:Cx)(B:Hp)(e:Expr)(f:Rho->M Bool):Prop:=PT X e (tDT X B f)
abbrev PDW (X:Cx)(B:Hp)(e:Expr)(f:Rho->M Bool):Prop:=PW X e (tDT X B f)
abbrev PDA (X:Cx)(B:Hp)(es:List Expr)(f:Rho->M (List D)):Prop:=PA X es (tDA X B f)
section
variable {X:Cx}{B:Hp}{e a b c:Expr}{es:List Expr}{pos:Pos}
theorem PE.of {t t':TE}(h:PE X e t)(i: ∀σ H Q,t' σ H Q->t σ H Q):PE X e t':=fun pins s σ H Q I q=>h pins s σ H Q I (i σ H Q q)
theorem PT.of {t t':TT}(h:PT X e t)(i: ∀σ H Q,t' σ H Q->t σ H Q):PT X e t':=fun pins s σ H Q I q=>h pins s σ H Q I (i σ H Q q)
theorem PW.of {t t':TT}(h:PW X e t)(i: ∀σ H Q,t' σ H Q->t σ H Q):PW X e t':=fun wh pins s σ H Q I q=>h wh pins s σ H Q I (i σ H Q q)
theorem PA.of {t t':TA}(h:PA X es t)(i: ∀σ H Q,t' σ H Q->t σ H Q):PA X es t':=fun pos pins s σ H Q I q=>h pos pins s σ H Q I (i σ H Q q)
def look (i:Nat):Rho->M D:=fun ρ=>match ρ[i]? with
 | some (some sv)=>ok sv.cur
 | _=>none
theorem aAd (i:Nat){x:Str}{pos:Pos}(hN:X.N[i]? =some x:=by rfl)(hv:Vis X.env.scope x:=by first | exact Qz rfl | exact Yi (Qz rfl) | exact Yi (Yi rfl))(hd:(x==("__debug__":Str))=false:=by decide)
  (hcd:(x==("__classdict__":Str))=false:=by decide):PD X B (.Name x pos) (look i):=by
 refine PE.of (aHo hN hv hd hcd) fun σ H Q h=> ?_
 obtain⟨ρ,r,h⟩:=h;unfold look at h;split at h
 ·rename_i sv q
  obtain⟨v,e1,e2⟩:=r.get q;exact⟨v,e1,h v H (Same.refl H) e2⟩
 ·exact Qd h
def con (d:D):Rho->M D:=fun _=>ok d
theorem aAh {i j pos}:PD X B (.Constant (.int i) j pos) (con (.int i)):=PE.of bMo fun σ H Q ⟨ρ,r,h⟩=>h _ H (Same.refl H) (.int i)
theorem aU1 {i j pos}:PD X B (.Constant (.bool i) j pos) (con (.bl i)):=PE.of bPz fun σ H Q ⟨ρ,r,h⟩=>h _ H (Same.refl H) (.bl i)
theorem aSw {j pos}:PD X B (.Constant .none j pos) (con .non):=PE.of bMn fun σ H Q ⟨ρ,r,h⟩=>h _ H (Same.refl H) .non
theorem aAt {x j pos}:PD X B (.Constant (.str x) j pos) (con (.str x)):=PE.of bGv fun σ H Q ⟨ρ,r,h⟩=>h _ H (Same.refl H) (.str x)
def b2 (g:D->D->M D)(fa fb:Rho->M D):Rho->M D:=fun ρ=>bnd (fa ρ) fun x=>bnd (fb ρ) fun y=>g x y
def aO2 (X:Cx)(r:R2)(g:D->D->M D):Prop:= ∀(H:Hp) (x y:V) (dx dy d:D) (Q:VK),Is X.K H dx x->Is X.K H dy y->g dx dy=ok d->(∀v H',Same H H'->Is X.K H' d v->Q v H')->r x y H Q
def aHd {α β:Type}(g:α->β->M D):Prop:= ∀x y c,g x y≠err c
variable {fa fb fc:Rho->M D}
theorem aXm {r:R2}{g:D->D->M D}(hg:aO2 X r g)(hn:aHd g){σ:St}{H:Hp}{Q:VK}(h:tD X B (b2 g fa fb) σ H Q):tOp r (tD X B fa) (tD X B fb) σ H Q:=by
 obtain⟨ρ,r1,h⟩:=h;refine⟨ρ,r1,(Res.bind h).imp fun dx h1 v H1 e1 i1=>⟨ρ,r1.mono e1,(Res.bind h1).mono e1 fun dy h2 u H2 e2 i2=> ?_⟩⟩;cases q:g dx dy with
 | none=>rw[q] at h2;exact Qd h2
 | some z=>
  cases z with
  | error c=>exact absurd q (hn dx dy c)
  | ok d=>
   rw[q] at h2;exact hg H2 v u dx dy d Q (i1.mono e2) i2 q fun w H3 e3 i3=>h2 w H3 ((e1.trans e2).trans e3) i3
theorem aX8 {op:Operator}{r:R2}{g:D->D->M D}(ho:OpR X (binaryOp op) r)(hg:aO2 X r g)(hn:aHd g)(ha:PD X B a fa)(hb:PD X B b fb):PD X B (.BinOp a op b pos) (b2 g fa fb):=
 PE.of (bPx ho ha hb) fun _ _ _ h=>aXm hg hn h
theorem bG1 {op:CmpOp}{r:R2}{g:D->D->M D}(ho:OpR X (Yj op) r)(hg:aO2 X r g)(hn:aHd g)(ha:PD X B a fa)(hb:PD X B b fb)(hm:Y8 op b=false):PD X B (.Compare a [op] [b] pos) (b2 g fa fb):=
 PE.of (bIs ho ha hb hm) fun _ _ _ h=>aXm hg hn h
def tru:D->M Bool
 | .non=>ok false
 | .bl b=>ok b
 | .int i=>ok (i !=0)
 | .tup ds=>ok (!ds.isEmpty)
 | .lst ds=>ok (!ds.isEmpty)
 | _=>none
def bGb:D->M Bool
 | .bl b=>ok b
 | _=>none
def test (f:Rho->M D):Rho->M Bool:=fun ρ=>bnd (f ρ) tru
def aAm (f:Rho->M D):Rho->M Bool:=fun ρ=>bnd (f ρ) bGb
theorem aEn {op:CmpOp}{r:R2}{g:D->D->M D}(ho:OpR X (Yj op) r)(hg:aO2 X r g)(hn:aHd g)(ha:PD X B a fa)(hb:PD X B b fb)(hm:Y8 op b=false):PDT X B (.Compare a [op] [b] pos) (aAm (b2 g fa fb)):=by
 refine PT.of (bIl ho ha hb hm) fun σ H Q h=> ?_
 obtain⟨ρ,r1,h⟩:=h;refine aXm hg hn ⟨ρ,r1,(Res.bind h).imp fun d h1 v H1 e1 i1=> ?_⟩;unfold bGb at h1;split at h1
 ·rename_i k
  cases i1;exact⟨k,rfl,h1 H1 e1⟩
 ·exact Qd h1
theorem aNq {K:Qa}{H:Hp}{ds:List D}{vs:List V}(r:IsL K H ds vs):vs.isEmpty=ds.isEmpty:=by cases r<;>rfl
theorem bPa {K:Qa}{H:Hp}{d:D}{v:V}{k:Bool}(i:Is K H d v)(h:tru d=ok k):bQ0 K v H k:=by
 cases i with
 | non=>exact (aCr h).symm
 | bl b=>exact (aCr h).symm
 | int i=>exact (aCr h).symm
 | str x=>exact absurd h (by simp[tru,ok])
 | tup h1 r=>exact .inr (.inl ⟨_,h1,by rw[aNq r];exact (aCr h).symm⟩)
 | lst h1 r=>exact .inl ⟨_,h1,by rw[aNq r];exact (aCr h).symm⟩
 | obj h1 r=>exact absurd h (by simp[tru,ok])
 | dk h1 r=>exact absurd h (by simp[tru,ok])
 | dt h1 r=>exact absurd h (by simp[tru,ok])
 | exc h1=>exact absurd h (by simp[tru,ok])
 | set h1=>exact absurd h (by simp[tru,ok])
 | dz h1 r=>exact absurd h (by simp[tru,ok])
 | opq v=>exact absurd h (by simp[tru,ok])
 | fn v=>exact absurd h (by simp[tru,ok])
 | clo h1 r=>exact absurd h (by simp[tru,ok])
theorem aZl (d:D)(c:Addr):tru d≠err c:=by cases d<;>simp[tru,ok,err]
theorem aQz (ha:PD X B a fa)(he: ∀whole,isTrue a X.env whole=(do let v<-whole;standAt a.pos;holding [v] (truthy v)):=by intro _;rfl):PDT X B a (test fa):=by
 refine PT.of (bD9 ha he) fun σ H Q h=> ?_
 obtain⟨ρ,r1,h⟩:=h;refine⟨ρ,r1,(Res.bind h).imp fun d h1 v H1 e1 i1=> ?_⟩;cases q:tru d with
 | none=>rw[q] at h1;exact Qd h1
 | some z=>
  cases z with
  | error c=>exact absurd q (aZl d c)
  | ok k=>rw[q] at h1;exact⟨k,bPa i1 q,h1 H1 e1⟩
variable {ta tb tc:Rho->M Bool}{rest:List Expr}
def aYy (f g:Rho->M Bool):Rho->M Bool:=fun ρ=>bnd (f ρ) fun x=>if x=true then g ρ else ok false
def orB (f g:Rho->M Bool):Rho->M Bool:=fun ρ=>bnd (f ρ) fun x=>if x=true then ok true else g ρ
def aZb (f:Rho->M Bool):Rho->M Bool:=fun ρ=>bnd (f ρ) fun x=>ok (!x)
theorem aMn (ha:PDT X B a ta):PDW X B (.BoolOp .And [a] pos) ta:=bIj ha
theorem bAn (ha:PDT X B a ta):PDW X B (.BoolOp .Or [a] pos) ta:=bMa ha
theorem aQy (ha:PDT X B a ta)(hb:PDW X B (.BoolOp .And (b::rest) pos) tb):PDW X B (.BoolOp .And (a::b::rest) pos) (aYy ta tb):=by
 refine PW.of (bMb ha hb) fun σ H Q h=> ?_
 obtain⟨ρ,r1,h⟩:=h;refine⟨ρ,r1,(Res.bind h).imp fun x h1 H1 e1=> ?_⟩;cases x with
 | true=>exact⟨ρ,r1.mono e1,Res.mono e1 h1 fun y q H2 e2=>q H2 (e1.trans e2)⟩
 | false=>exact h1 H1 e1
theorem bGx (ha:PDT X B a ta)(hb:PDW X B (.BoolOp .Or (b::rest) pos) tb):PDW X B (.BoolOp .Or (a::b::rest) pos) (orB ta tb):=by
 refine PW.of (bPs ha hb) fun σ H Q h=> ?_
 obtain⟨ρ,r1,h⟩:=h;refine⟨ρ,r1,(Res.bind h).imp fun x h1 H1 e1=> ?_⟩;cases x with
 | false=>exact⟨ρ,r1.mono e1,Res.mono e1 h1 fun y q H2 e2=>q H2 (e1.trans e2)⟩
 | true=>exact h1 H1 e1
theorem PDW.pdt {f:Rho->M Bool}(h:PDW X B e f):PDT X B e f:=h.pt
theorem aQ0 (ha:PDT X B a ta):PDT X B (.UnaryOp .Not a pos) (aZb ta):=by
 refine PT.of (bMe ha) fun σ H Q h=> ?_
 obtain⟨ρ,r1,h⟩:=h;exact⟨ρ,r1,(Res.bind h).imp fun x h1 H1 e1=>h1 H1 e1⟩
def bO4 (f g:Rho->M D):Rho->M D:=fun ρ=>bnd (f ρ) fun x=>bnd (bGb x) fun k=>if k=true then g ρ else ok (.bl false)
theorem bGa {σ:St}{H:Hp}{Q:Bool->Prop}{d:D}(h:Res X σ H Q (bGb d)): ∃k,d= .bl k/\Q k:=by
 unfold bGb at h;split at h
 ·exact⟨_,rfl,h⟩
 ·exact Qd h
theorem bMv {op}(h:PD X B a fa):PD X B (.BoolOp op [a] pos) fa:=bMm h
theorem bMy (ha:PD X B a fa)(hb:PD X B (.BoolOp .And (b::rest) pos) fb):PD X B (.BoolOp .And (a::b::rest) pos) (bO4 fa fb):=by
 refine PE.of (bMq ha hb) fun σ H Q h=> ?_
 obtain⟨ρ,r1,h⟩:=h;refine⟨ρ,r1,(Res.bind h).imp fun d h1 v H1 e1 i1=> ?_⟩;obtain⟨k,rfl,h2⟩:=bGa (Res.bind h1);cases i1;refine⟨k,rfl,?_⟩;cases k with
 | true=>exact⟨ρ,r1.mono e1,Res.mono e1 h2 fun y q u H2 e2 i2=>q u H2 (e1.trans e2) i2⟩
 | false=>exact h2 _ H1 e1 (.bl false)
def ifV (t:Rho->M Bool)(f g:Rho->M D):Rho->M D:=fun ρ=>bnd (t ρ) fun k=>if k=true then f ρ else g ρ
theorem bI2 (hc:PDT X B c tc)(ha:PD X B a fa)(hb:PD X B b fb):PD X B (.IfExp c a b pos) (ifV tc fa fb):=by
 refine PE.of (bEg hc ha hb) fun σ H Q h=> ?_
 obtain⟨ρ,r1,h⟩:=h;refine⟨ρ,r1,(Res.bind h).imp fun k h1 H1 e1=> ?_⟩;cases k with
 | true=>exact⟨ρ,r1.mono e1,Res.mono e1 h1 fun y q u H2 e2 i2=>q u H2 (e1.trans e2) i2⟩
 | false=>exact⟨ρ,r1.mono e1,Res.mono e1 h1 fun y q u H2 e2 i2=>q u H2 (e1.trans e2) i2⟩
def aDn:Expr->Bool
 | .Starred .. =>false
 | _=>true
theorem aBf {e:Expr}{es:List Expr}{env:Env}(h:aDn e=true):Qu (e::es) env=(false,eval e env)::Qu es env:=by
 cases e<;>first | rfl | cases h
theorem aHy {e:Expr}{env:Env}(h:aDn e=true):Qu [e] env=[(false,eval e env)]:=aBf h
theorem aOb {e f:Expr}{env:Env}(h:aDn e=true)(h':aDn f=true):Qu [e,f] env=[(false,eval e env),(false,eval f env)]:=by rw[aBf h,aHy h']
def aAn:Rho->M (List D):=fun _=>ok []
def aAb (f:Rho->M D)(g:Rho->M (List D)):Rho->M (List D):=fun ρ=>bnd (f ρ) fun x=>bnd (g ρ) fun xs=>ok (x::xs)
variable {ga:Rho->M (List D)}
theorem aAg:PDA X B [] aAn:=PA.of aD4 fun σ H Q ⟨ρ,r,h⟩=>h [] H (Same.refl H) .nil
theorem aAa (ha:PD X B e fa)(hr:PDA X B es ga)(hs:Qu (e::es) X.env=(false,eval e X.env)::Qu es X.env:=by exact aBf rfl):PDA X B (e::es) (aAb fa ga):=by
 refine PA.of (aBx ha hr hs) fun σ H Q h=> ?_
 obtain⟨ρ,r1,h⟩:=h;refine⟨ρ,r1,(Res.bind h).imp fun d h1 v H1 e1 i1=>⟨ρ,r1.mono e1,(Res.bind h1).mono e1 fun ds h2 vs H2 e2 i2=> ?_⟩⟩;exact h2 (v::vs) H2 (e1.trans e2) (.cons (i1.mono e2) i2)
theorem aA5 {H:Hp}{p:Addr}(h:H p=none)(o:HO):Same H (upd H p o):=fun b u q=>by rw[aAv (aA7 q h)];exact q
def mkT (g:Rho->M (List D)):Rho->M D:=fun ρ=>bnd (g ρ) fun ds=>if ds.length<=1000 then ok (.tup ds) else none
def mkL (g:Rho->M (List D)):Rho->M D:=fun ρ=>bnd (g ρ) fun ds=>if ds.length<=1000 then ok (.lst ds) else none
theorem aVd {n:Nat}(h:n<=1000):n<=Q0:=Uv (aZw h)
theorem aBz {x1}(h:PDA X B es ga):PD X B (.Tuple es x1 pos) (mkT ga):=by
 refine PE.of (bMl h) fun σ H Q h=> ?_
 obtain⟨ρ,r1,h⟩:=h;refine⟨ρ,r1,(Res.bind h).imp fun ds h1 vs H1 e1 i1=> ?_⟩;by_cases hl:ds.length<=1000
 ·rw[if_pos hl] at h1
  exact⟨by rw[<-i1.length];exact aVd hl,fun p hp=>h1 _ _ (e1.trans (aA5 hp _)) (.tup (TQ.of aAy) (i1.mono (aA5 hp _)))⟩
 ·rw[if_neg hl] at h1;exact Qd h1
theorem aNa (h:PDA X B es ga):PD X B (.List es pos) (mkL ga):=by
 refine PE.of (bGw h) fun σ H Q h=> ?_
 obtain⟨ρ,r1,h⟩:=h;refine⟨ρ,r1,(Res.bind h).imp fun ds h1 vs H1 e1 i1=> ?_⟩;by_cases hl:ds.length<=1000
 ·rw[if_pos hl] at h1
  exact⟨by rw[<-i1.length];exact aVd hl,fun p hp=>h1 _ _ (e1.trans (aA5 hp _)) (.lst (SqL.of aAy) (i1.mono (aA5 hp _)))⟩
 ·rw[if_neg hl] at h1;exact Qd h1
end
def bKa:D->D->M D
 | .int i,.int j=>ok (.int (i-j))
 | _,_=>none
def bG6 (i j:Int):Bool:=decide (Builtin.Int.intBits i<=1048576)&&decide (Builtin.Int.intBits j<=1048576)
def bO2:D->D->M D
 | .int i,.int j=>if bG6 i j=true then ok (.int (i*j)) else none
 | _,_=>none
def aYq:D->D->M D
 | .int i,.int j=>if 0<j then ok (.int (i%j)) else none
 | _,_=>none
def bKb:D->D->M D
 | .int i,.int j=>if 0<=j/\j<=1000/\i.natAbs<1000 then ok (.int (i^j.toNat)) else none
 | _,_=>none
section
variable {X:Cx}{B:Hp}{a b:Expr}{fa fb:Rho->M D}{pos:Pos}
theorem bJn {i j:Int}(h:bG6 i j=true):IntMulOk i j:=by
 unfold bG6 at h;rw[Qw] at h;exact IntMulOk.of_bits (of_decide_eq_true h.1) (of_decide_eq_true h.2)
theorem bJd:OpR X (binaryOp .Mult) (rI (fun i j=>bG6 i j=true) fun i j=> .int (i*j)):=opI fun _ _ _ _ _ _ _ hc q=>mul_int q (bJn hc)
theorem bL1 {h:Int->Int->Int}{g:D->D->M D}(hg: ∀dx dy d,g dx dy=ok d->∃i j,dx= .int i/\dy= .int j/\d= .int (h i j)):aO2 X (rI0 fun i j=> .int (h i j)) g:=by
 intro H x y dx dy d Q ix iy e q;obtain⟨i,j,rfl,rfl,rfl⟩:=hg _ _ _ e;cases ix;cases iy;exact⟨i,j,rfl,rfl,q _ H (Same.refl H) (.int _)⟩
theorem bL2 {C:Int->Int->Prop}{h:Int->Int->Int}{g:D->D->M D}(hg: ∀dx dy d,g dx dy=ok d->∃i j,dx= .int i/\dy= .int j/\C i j/\d= .int (h i j)):aO2 X (rI C fun i j=> .int (h i j)) g:=by
 intro H x y dx dy d Q ix iy e q;obtain⟨i,j,rfl,rfl,c,rfl⟩:=hg _ _ _ e;cases ix;cases iy;exact⟨i,j,rfl,rfl,c,q _ H (Same.refl H) (.int _)⟩
theorem bMt (ha:PD X B a fa)(hb:PD X B b fb):PD X B (.BinOp a .Sub b pos) (b2 bKa fa fb):=
 aX8 bM2 (bL1 fun dx dy d e=>by
  unfold bKa at e;split at e<;>first |(cases e;done) | exact⟨_,_,rfl,rfl,(aCr e).symm⟩) (by intro x y c h;unfold bKa at h;(repeat' split at h)<;>cases h) ha hb
theorem aWu (ha:PD X B a fa)(hb:PD X B b fb):PD X B (.BinOp a .Mod b pos) (b2 aYq fa fb):=
 aX8 bM6 (bL2 fun dx dy d e=>by
  unfold aYq at e;split at e<;>first |(cases e;done) | skip
  split at e
  ·rename_i h;exact⟨_,_,rfl,rfl,h,(aCr e).symm⟩
  ·exact nomatch e) (by intro x y c h;unfold aYq at h;(repeat' split at h)<;>cases h) ha hb
theorem bMu (ha:PD X B a fa)(hb:PD X B b fb):PD X B (.BinOp a .Pow b pos) (b2 bKb fa fb):=
 aX8 bM4 (bL2 fun dx dy d e=>by
  unfold bKb at e;split at e<;>first |(cases e;done) | skip
  split at e
  ·rename_i h;exact⟨_,_,rfl,rfl,⟨h.1,by omega,by have:=h.2.2;omega⟩,(aCr e).symm⟩
  ·exact nomatch e) (by intro x y c h;unfold bKb at h;(repeat' split at h)<;>cases h) ha hb
def gLt:D->D->M D
 | .int i,.int j=>ok (.bl (decide (i<j)))
 | _,_=>none
def gGt:D->D->M D
 | .int i,.int j=>ok (.bl (decide (j<i)))
 | _,_=>none
def eqF:D->D->Option Bool
 | .non,.non=>some true
 | .non,.int _=>some false
 | .int _,.non=>some false
 | .non,.bl _=>some false
 | .bl _,.non=>some false
 | .non,.str _=>some false
 | .str _,.non=>some false
 | .int i,.int j=>some (decide (i=j))
 | .bl i,.bl j=>some (decide (i=j))
 | .str i,.str j=>some (decide (i=j))
 | .int _,.str _=>some false
 | .str _,.int _=>some false
 | .bl _,.str _=>some false
 | .str _,.bl _=>some false
 | _,_=>none
def gEq (x y:D):M D:=match eqF x y with
 | some b=>ok (.bl b)
 | none=>none
def gNe (x y:D):M D:=match eqF x y with
 | some b=>ok (.bl (!b))
 | none=>none
def bBm:D->Bool
 | .non=>true
 | _=>false
def gIs:D->D->M D
 | x,.non=>ok (.bl (bBm x))
 | _,_=>none
def aXd:D->D->M D
 | x,.non=>ok (.bl (!bBm x))
 | _,_=>none
theorem bGt {h:Int->Int->Bool}{g:D->D->M D}(hg: ∀dx dy d,g dx dy=ok d->∃i j,dx= .int i/\dy= .int j/\d= .bl (h i j)):aO2 X (rI0 fun i j=> .bl (h i j)) g:=by
 intro H x y dx dy d Q ix iy e q;obtain⟨i,j,rfl,rfl,rfl⟩:=hg _ _ _ e;cases ix;cases iy;exact⟨i,j,rfl,rfl,q _ H (Same.refl H) (.bl _)⟩
theorem bR6:aO2 X (rI0 fun i j=> .bl (decide (i<j))) gLt:=bGt fun dx dy d e=>by
  unfold gLt at e;split at e<;>first |(cases e;done) | exact⟨_,_,rfl,rfl,(aCr e).symm⟩
theorem bR9:aO2 X (rI0 fun i j=> .bl (decide (j<i))) gGt:=bGt fun dx dy d e=>by
  unfold gGt at e;split at e<;>first |(cases e;done) | exact⟨_,_,rfl,rfl,(aCr e).symm⟩
theorem bSm:aHd gLt:=by intro x y c h;unfold gLt at h;split at h<;>cases h
theorem bSp:aHd gGt:=by intro x y c h;unfold gGt at h;split at h<;>cases h
theorem bSo:aHd gIs:=by intro x y c;cases y<;>(intro h;exact nomatch h)
theorem bJm:aHd aXd:=by intro x y c;cases y<;>(intro h;exact nomatch h)
theorem n_eq:aHd gEq:=by intro x y c h;unfold gEq at h;split at h<;>exact nomatch h
theorem bSl:aHd gNe:=by intro x y c h;unfold gNe at h;split at h<;>exact nomatch h
theorem bOe {K:Qa}{H:Hp}{dx dy:D}{x y:V}{b:Bool}(ix:Is K H dx x)(iy:Is K H dy y)(e:eqF dx dy=some b):bPl x y=true/\decide (x=y)=b:=by
 cases ix with
 | non=>cases iy<;>first |(cases e;done) |(have e':=Option.some.inj e;subst e';exact⟨rfl,by simp⟩)
 | bl=>cases iy<;>first |(cases e;done) |(have e':=Option.some.inj e;subst e';exact⟨rfl,by simp⟩)
 | int=>cases iy<;>first |(cases e;done) |(have e':=Option.some.inj e;subst e';exact⟨rfl,by simp⟩)
 | str=>cases iy<;>first |(cases e;done) |(have e':=Option.some.inj e;subst e';exact⟨rfl,by simp⟩)
 | _=>exact nomatch e
theorem bRd:aO2 X rEq gEq:=by
 intro H x y dx dy d Q ix iy e q;unfold gEq at e;split at e
 ·rename_i b hb
  obtain⟨h1,h2⟩:=bOe ix iy hb;have e':=aCr e;subst e';exact⟨h1,by rw[h2];exact q _ H (Same.refl H) (.bl _)⟩
 ·exact nomatch e
theorem bR5:aO2 X rNe gNe:=by
 intro H x y dx dy d Q ix iy e q;unfold gNe at e;split at e
 ·rename_i b hb
  obtain⟨h1,h2⟩:=bOe ix iy hb;have e':=aCr e;subst e';exact⟨h1,by rw[h2];exact q _ H (Same.refl H) (.bl _)⟩
 ·exact nomatch e
theorem bBl {K:Qa}{H:Hp}{dx:D}{x:V}(ix:Is K H dx x):decide (x=V.non)=bBm dx:=by
 cases ix<;>simp[bBm]
theorem bR8:aO2 X (fun x y H Q=>y= .non/\Q (.bl (decide (x= .non))) H) gIs:=by
 intro H x y dx dy d Q ix iy e q;cases iy<;>first |(cases e;done) | skip
 have e':=aCr e;subst e';exact⟨rfl,by rw[bBl ix];exact q _ H (Same.refl H) (.bl _)⟩
theorem bIi:aO2 X (fun x y H Q=>y= .non/\Q (.bl (!decide (x= .non))) H) aXd:=by
 intro H x y dx dy d Q ix iy e q;cases iy<;>first |(cases e;done) | skip
 have e':=aCr e;subst e';exact⟨rfl,by rw[bBl ix];exact q _ H (Same.refl H) (.bl _)⟩
theorem bAw (ha:PD X B a fa)(hb:PD X B b fb):PD X B (.Compare a [.Eq] [b] pos) (b2 gEq fa fb):=bG1 bM8 bRd n_eq ha hb (aIe _)
theorem bMr (ha:PD X B a fa)(hb:PD X B b fb):PDT X B (.Compare a [.Lt] [b] pos) (aAm (b2 gLt fa fb)):=aEn bP1 bR6 bSm ha hb (aIe _)
theorem aWr (ha:PD X B a fa)(hb:PD X B b fb):PDT X B (.Compare a [.Gt] [b] pos) (aAm (b2 gGt fa fb)):=aEn bP2 bR9 bSp ha hb (aIe _)
theorem aBs (ha:PD X B a fa)(hb:PD X B b fb):PDT X B (.Compare a [.Eq] [b] pos) (aAm (b2 gEq fa fb)):=aEn bM8 bRd n_eq ha hb (aIe _)
theorem aSu (ha:PD X B a fa)(hb:PD X B b fb):PDT X B (.Compare a [.NotEq] [b] pos) (aAm (b2 gNe fa fb)):=aEn bP0 bR5 bSl ha hb (aIe _)
theorem bMs (ha:PD X B a fa)(hb:PD X B b fb):PDT X B (.Compare a [.Is] [b] pos) (aAm (b2 gIs fa fb)):=aEn bM7 bR8 bSo ha hb (aIe _)
theorem bAo (ha:PD X B a fa)(hb:PD X B b fb):PDT X B (.Compare a [.IsNot] [b] pos) (aAm (b2 aXd fa fb)):=aEn bJa bIi bJm ha hb (aIe _)
def gIx:D->D->M D
 | .lst ds,.int i=>match atI ds i with | some d=>ok d | none=>none
 | .tup ds,.int i=>match atI ds i with | some d=>ok d | none=>none
 | .str z,.int i=>if z.length<=1000 then (match atI z.cps.toList i with | some c=>ok (.str ⟨#[c]⟩) | none=>none) else none
 | _,_=>none
theorem bSn:aHd gIx:=by intro x y c h;unfold gIx at h;(repeat' split at h)<;>cases h
theorem bCz {K:Qa}{H:Hp}{ds:List D}{vs:List V}{i:Int}{d:D}(r:IsL K H ds vs)(e:atI ds i=some d): ∃v,atI vs i=some v/\Is K H d v:=by
 unfold atI at e⊢;rw[r.length] at e;cases q:ixN vs.length i with
 | none=>rw[q] at e;exact nomatch e
 | some j=>rw[q] at e;exact r.get e
theorem bR7:aO2 X (rIx X.K) gIx:=by
 intro H x y dx dy d Q ix iy e q;unfold gIx at e;split at e
 ·split at e
  ·rename_i d' hd
   cases ix with
   | lst h r=>
    cases iy;have e':=aCr e;subst e';obtain⟨v,h1,h2⟩:=bCz r hd;exact .inl ⟨_,_,_,v,rfl,rfl,h,h1,q _ H (Same.refl H) h2⟩
  ·cases e
 ·split at e
  ·rename_i d' hd
   cases ix with
   | tup h r=>
    cases iy;have e':=aCr e;subst e';obtain⟨v,h1,h2⟩:=bCz r hd;exact .inr (.inl ⟨_,_,_,v,rfl,rfl,h,h1,q _ H (Same.refl H) h2⟩)
  ·cases e
 ·split at e
  ·rename_i hz
   split at e
   ·rename_i c hc
    cases ix;cases iy;have e':=aCr e;subst e';exact .inr (.inr ⟨_,_,c,rfl,rfl,Z2 hz (by decide),hc,q _ H (Same.refl H) (.str _)⟩)
   ·cases e
  ·cases e
 ·cases e
theorem aA2 (ha:PD X B a fa)(hb:PD X B b fb)(hs:bC3 b):PD X B (.Subscript a b pos) (b2 gIx fa fb):=PE.of (bPy bNx ha hb hs) fun _ _ _ h=>aXm bR7 bSn h
def aFe (f:Rho->M D):Rho->M (Option Int):=fun ρ=>bnd (f ρ) fun d=>match d with | .int i=>ok (some i) | _=>none
def aFq:Rho->M (Option Int):=fun _=>ok none
def tDO (X:Cx)(B:Hp)(f:Rho->M (Option Int)):TO:=fun σ H Q=> ∃ρ,Rel X.K B ρ σ H/\Res X σ H (fun o=> ∀H',Same H H'->Q o H') (f ρ)
theorem aF4:PO X none (tDO X B aFq):=fun pins s σ H Q I ⟨ρ,r,h⟩=>bIp pins s σ H Q I (h H (Same.refl H))
theorem aF3 {e:Expr}(he:PD X B e fa):PO X (some e) (tDO X B (aFe fa)):=fun pins s σ H Q I ⟨ρ,r,h⟩=>by
 refine bIo he pins s σ H Q I ⟨ρ,r,(Res.bind h).imp fun d h1 v H1 e1 i1=> ?_⟩;cases i1<;>first | exact Qd h1 | exact⟨_,rfl,h1 H1 e1⟩
def cutD (xs:List D)(lo hi:Option Int):List D:=(xs.drop (HT.sIx xs.length 0 lo)).take (HT.sIx xs.length xs.length hi-HT.sIx xs.length 0 lo)
def aFa (z:Str)(lo hi:Option Int):Str:=⟨((z.cps.toList.drop (HT.sIx z.length 0 lo)).take (HT.sIx z.length z.length hi-HT.sIx z.length 0 lo)).toArray⟩
theorem aTw {α:Type}(xs:List α){i j:Nat}(h:i=0)(h':j=xs.length):(xs.drop i).take (j-i)=xs:=by
 subst h h';rw[U4,Ud,Wg]
section
variable {prog:Qv}{w:Q8}{A:Zb}{E:Qc->Qe->Prop}{s:Qe}
theorem aJs {t sl:Addr}{items:Array Qc}{vl vu:Qc}{lo hi:Option Int}{Q:Qc->Qe->Prop}(ht:IsTup s.heap t items)(hs:s.heap.IsSliceOf sl vl vu .none)(pl:IsPart vl lo)(pu:IsPart vu hi)
  (hw:HT.sIx items.size 0 lo=0/\HT.sIx items.size items.size hi=items.size) (h:Q (.ref t) s):Qs (Qp prog w) A (getItem (.ref t) (.ref sl)) Q E s:=by
 obtain⟨os,hos,hcs,hds⟩:=id hs;have hTs:s.TypeIs (.ref sl) "slice":=⟨os,hos,hcs⟩;unfold getItem
 try with_reducible refine Yn ?_
 first | refine Qb (Qf ?_) | skip
 refine Qb (wpAny_sequenceKey ht.typeIs (by decide) ?_);refine Qb (Y4 (name:=Yx "__getitem__") ht.typeIs Y6
  (Z6 Y6 ht.typeIs entry_tuple_getitem ?_ (args_tuple_getitem _ _)))
 show Qs _ _ (Builtin.Tuple.tupleItemsOf (.ref t)>>=_) _ _ s;refine Qb (tupleItemsOf_ ht ?_);refine Qb (wpAny_typeOf hTs ?_);rw[if_pos (by decide)];refine Qb (HT.aHl hs pl pu ?_);show Qs _ _ (if (((HT.sIx items.size 0 lo:Nat):Int)==0&&(1:Int)==1&&(HT.sIx items.size items.size hi-HT.sIx items.size 0 lo)==items.size)=true then _ else _) _ _ s;rw[if_pos (by rw[hw.1,hw.2];simp)];refine Qb (m:=Builtin.Tuple.tupleIsExact _) (Qb (m:=typeOf _) (wpAny_typeOf ht.typeIs (Qf ?_)));rw[if_pos (by decide)];exact Qb (wpAny_rule (Qb (Qf (Qf ⟨_,rfl,Qf h⟩))))
theorem aQh (z:Str)(l u:Option (Int×Tok)):slicePicked z l u none=(Zj (HT.sIx z.length z.length (u.map (·.1))-HT.sIx z.length 0 (l.map (·.1)))).map (HT.sIx z.length 0 (l.map (·.1))+ ·):=by
 have cl: ∀(i:Int) (d:Nat),max 0 (min (if i<0 then i+(z.length:Int) else i) (z.length:Int))=((HT.sIx z.length d (some i):Nat):Int):=by
  intro i d;show _=(((if i<0 then (i+(z.length:Int)).toNat else min i.toNat z.length):Nat):Int);by_cases hv:i<0
  ·simp only[if_pos hv];omega
  ·simp only[if_neg hv];omega
 have e:slicePicked z l u none=sliceRange ((HT.sIx z.length 0 (l.map (·.1)):Nat):Int) ((HT.sIx z.length z.length (u.map (·.1)):Nat):Int) 1:=by
  unfold slicePicked Builtin.Str.strSliceIndices;simp only[Option.map_none,Uk,show (1:Int)>0 by decide,if_true]
  congr 1
  ·cases l with
   | none=>rfl
   | some i=>exact cl i.1 0
  ·cases u with
   | none=>rfl
   | some i=>exact cl i.1 z.length
 rw[e,sliceRange_one]
end
section
variable {X:Cx}
def bSa (K:Qa):V->Option Int->Option Int->Hp->VK->Prop:=fun x lo hi H Q=> ∃a xs,x= .ref a/\SqT K H a xs/\(HT.sIx xs.length 0 lo=0/\HT.sIx xs.length xs.length hi=xs.length)/\Q (.ref a) H
theorem bIb:SlR X (bSa X.K):=by
 intro pins s σ H x v vl vu lo hi sl Q I rx hs pl pu h;obtain⟨a,xs,rfl,hx,hw,q⟩:=h;cases rx;obtain⟨its,r,ht,hz⟩:=I.tuple hx;have hlen:its.toArray.size=xs.length:=by rw[Qk];exact r.length.symm
 exact⟨"tuple",_,PyProof.Rows.slot_tuple_getitem.lookup,ht.typeIs,aJs ht hs pl pu (by rw[hlen];exact hw) ⟨.ref a,H,I,rfl,q⟩⟩
def bSc:V->Option Int->Option Int->Hp->VK->Prop:=fun x lo hi H Q=> ∃z,x= .str z/\z.length<=Q0/\Q (.str (aFa z lo hi)) H
theorem part_of {v:Qc}{o:Option Int}(p:IsPart v o): ∃l:Option (Int×Tok),v=partValue l/\l.map (·.1)=o:=by
 cases p with
 | none=>exact⟨none,rfl,rfl⟩
 | int i t=>exact⟨some (i,t),rfl,rfl⟩
theorem bLs:SlR X bSc:=by
 intro pins s σ H x v vl vu lo hi sl Q I rx hs pl pu h;obtain⟨z,rfl,hz,q⟩:=h;obtain⟨t,rfl⟩:=rx;obtain⟨l,rfl,rfl⟩:=part_of pl;obtain⟨u,rfl,rfl⟩:=part_of pu;refine⟨"str",_,slot_str_getitem.lookup,typeIs_str s z t,?_⟩;refine wpAny_getItem_str_slice (l:=l) (u:=u) (st:=none) hs rfl ?_;have hp:=aQh z l u;have hj:HT.sIx z.length z.length (u.map (·.1))<=z.length:=HT.aZ2 _ _ (Qr _) _;have hi0:HT.sIx z.length 0 (l.map (·.1))<=z.length:=HT.aZ2 _ 0 (Ye _) _;have hc:z.cps.toList.length=z.length:=by simp[Str.length]
 unfold sliceMade;rw[hp];split
 ·rename_i hh
  simp only[Option.map_none,Uk,Qi,Zw,Qw,beq_iff_eq] at hh;have e:aFa z (l.map (·.1)) (u.map (·.1))=z:=by
   unfold aFa;rw[aTw _ (by omega) (by omega)]
  exact⟨.str z,H,I,⟨t,rfl⟩,by rw[e] at q;exact q⟩
 ·rw[pick_run]
  refine⟨?_,⟨.str (aFa z (l.map (·.1)) (u.map (·.1))),H,I.tok _,⟨_,rfl⟩,q⟩⟩;show ((z.cps.toList.drop (HT.sIx z.length 0 (l.map (·.1)))).take _).toArray.size<=Q0;rw[Qk,Za,Z5,hc];omega
end
def bQk:D->Option Int->Option Int->M D
 | .lst ds,lo,hi=>ok (.lst (cutD ds lo hi))
 | .tup ds,lo,hi=>ok (.tup (cutD ds lo hi))
 | .str z,lo,hi=>if z.length<=1000 then ok (.str (aFa z lo hi)) else none
 | _,_,_=>none
def aMt (fa:Rho->M D)(fl fh:Rho->M (Option Int)):Rho->M D:=fun ρ=>bnd (fa ρ) fun x=>bnd (fl ρ) fun l=>bnd (fh ρ) fun h=>bQk x l h
theorem bBn {K:Qa}{H:Hp}{ds:List D}{vs:List V}(r:IsL K H ds vs)(lo hi:Option Int):IsL K H (cutD ds lo hi) (bHs vs lo hi):=by
 unfold cutD bHs;rw[r.length];exact (r.drop _).take _
theorem aF6 {e:Expr}{lo hi:Option Expr}{fl fh:Rho->M (Option Int)}{p2:Pos}(he:PD X B e fa)(hl:PO X lo (tDO X B fl))(hu:PO X hi (tDO X B fh)):PD X B (.Subscript e (.Slice lo hi none p2) pos) (aMt fa fl fh):=by
 refine PE.of (bEe (SlR.or bIc (SlR.or bLr (SlR.or bIb bLs))) he hl hu) fun σ H Q h=> ?_
 obtain⟨ρ,r1,h⟩:=h;refine⟨ρ,r1,(Res.bind h).imp fun d h1 v H1 e1 i1=>⟨ρ,r1.mono e1,(Res.bind h1).mono e1 fun l h2 H2 e2=>⟨ρ,(r1.mono e1).mono e2,(Res.bind h2).mono (e1.trans e2) fun u h3 H3 e3=> ?_⟩⟩⟩;have i3:=(i1.mono e2).mono e3;cases i3 with
 | lst hh r=>exact .inl ⟨_,_,rfl,hh,fun p hp=>h3 _ _ (((e1.trans e2).trans e3).trans (aA5 hp _)) (.lst (SqL.of aAy) ((bBn r l u).mono (aA5 hp _)))⟩
 | tup hh r=>
  rename_i a' ds' vs';have hlen:=r.length;by_cases hn:HT.sIx vs'.length 0 l=0/\HT.sIx vs'.length vs'.length u=vs'.length
  ·have e:cutD ds' l u=ds':=by
    unfold cutD;rw[hlen];exact aTw _ hn.1 (by rw[hn.2,hlen])
   refine .inr (.inr (.inl ⟨_,_,rfl,hh,hn,?_⟩));have h4:=h3 _ _ ((e1.trans e2).trans e3) (show Is X.K H3 (.tup (cutD ds' l u)) (.ref a') by rw[e];exact .tup hh r);exact h4
  ·exact .inr (.inl ⟨_,_,rfl,hh,hn,fun p hp=>h3 _ _ (((e1.trans e2).trans e3).trans (aA5 hp _)) (.tup (TQ.of aAy) ((bBn r l u).mono (aA5 hp _)))⟩)
 | str z=>
  dsimp only[bQk] at h3
  split at h3
  ·rename_i hz
   exact .inr (.inr (.inr ⟨_,rfl,Z2 hz (by decide),h3 _ _ ((e1.trans e2).trans e3) (.str _)⟩))
  ·exact Qd h3
 | _=>exact Qd h3
end
def tyN:D->Option String
 | .non=>some "NoneType"
 | .bl _=>some "bool"
 | .int _=>some "int"
 | .str _=>some "str"
 | .tup _=>some "tuple"
 | .lst _=>some "list"
 | .obj _ _=>none
 | .dk _=>some "dict"
 | .dt _=>some "dict"
 | .exc _=>none
 | .set _=>none
 | .dz _=>some "dict"
 | .opq=>none
 | .fn _=>none
 | .clo _ _=>none
def isB (t T:String):Bool:=t==T ||(t=="bool"&&T=="int")
def bP9:List String:=["tuple","list","bool","str","int","dict"]
theorem bJz (K:Qa){d:D}{t T:String}(ht:tyN d=some t)(hT:T∈bP9):Qy K (.type t) (.type T)=some (isB t T):=by
 unfold bP9 at hT;simp only[Yb,Z4,or_false] at hT;cases d<;>(have e:=ht;unfold tyN at e;first |(cases e;done) | skip)<;>(have e':=Option.some.inj e;subst e')<;>rcases hT with rfl | rfl | rfl | rfl | rfl | rfl<;>kernel_rfl
section
variable {X:Cx}{B:Hp}{pins:List (Addr×Obj)}{σ:St}{H:Hp}{s:Qe}
theorem bNq {d:D}{x:V}{u:Qc}{t:String}(I:Inv X pins σ H s)(i:Is X.K H d x)(r:RelV x u)(ht:tyN d=some t):
  ∃HH:Heap->Prop,PySem.W.KitX X.K u (.type t) HH/\HH s.heap/\u≠ .builtin "__main__.__loader__#opaque":=by
 cases i with
 | non=>cases r;cases ht;exact⟨_,PySem.W.kitx_none,True.intro,fun z=>nomatch z⟩
 | bl b=>cases r;cases ht;exact⟨_,PySem.W.kitx_bool,True.intro,fun z=>nomatch z⟩
 | int b=>obtain⟨t,rfl⟩:=r;cases ht;exact⟨_,PySem.W.kitx_int,True.intro,fun z=>nomatch z⟩
 | str b=>obtain⟨t,rfl⟩:=r;cases ht;exact⟨_,PySem.W.kitx_str,True.intro,fun z=>nomatch z⟩
 | lst h rr=>
  cases r;cases ht;obtain⟨its,_,⟨o,n,e,hc,_,_⟩,_⟩:=I.list h;exact⟨_,PySem.W.kitx_list,⟨o,e,hc⟩,fun z=>nomatch z⟩
 | tup h rr=>
  cases r;cases ht;obtain⟨its,_,⟨o,e,hc,_,_⟩,_⟩:=I.tuple h.sq;exact⟨_,PySem.W.kitx_tuple,⟨o,e,hc⟩,fun z=>nomatch z⟩
 | obj h rr=>cases ht
 | dk h rr=>
  cases r;cases ht;obtain⟨_,_,vs,_,o,es,ep,e1,e2,_⟩:=(show aCe X.prog X.w H s.heap _ (.dK _) from h.ok I.hok);exact⟨_,Wa,⟨o,e1,e2.1⟩,fun z=>nomatch z⟩
 | dt h rr=>
  cases r;cases ht;obtain⟨_,_,vs,_,o,es,ep,e1,e2,_⟩:=(show aCe X.prog X.w H s.heap _ (.dT _) from I.hok _ _ h);exact⟨_,Wa,⟨o,e1,e2.1⟩,fun z=>nomatch z⟩
 | exc h=>cases ht
 | set h=>cases ht
 | dz h rr=>
  cases r;cases ht;obtain⟨_,_,_,vs,_,o,es,ep,e1,e2,_⟩:=(show aCe X.prog X.w H s.heap _ (.frz _ (.dT _)) from I.hok _ _ h);exact⟨_,Wa,⟨o,e1,e2.1⟩,fun z=>nomatch z⟩
 | opq v=>cases ht
 | fn v=>cases ht
 | clo h rr=>cases ht
end
section
variable {X:Cx}{B:Hp}{e:Expr}{fa:Rho->M D}{pos p p2:Pos}
def isi (T:String)(f:Rho->M D):Rho->M D:=fun ρ=>bnd (f ρ) fun d=>match tyN d with | some t=>ok (.bl (isB t T)) | none=>none
theorem bGz {x:Str}{T:String}(hg:Gl X "isinstance")(hm:X.mg "isinstance"=none)(hg2:Gl X x)(hm2:X.mg x=none)(hv:Jd x=some (.type T))(hT:T∈bP9)(ha:PD X B e fa)(hn:x≠"__name__":=by decide)(hd:(x==("__debug__":Str))=false:=by decide)
  (he:Qu [e,.Name x p2] X.env=[(false,eval e X.env),(false,eval (.Name x p2) X.env)]:=by exact aOb rfl rfl) (he2:Qu [.Name x p2] X.env=[(false,eval (.Name x p2) X.env)]:=by exact aHy rfl):PD X B (.Call (.Name "isinstance" p) [e,.Name x p2] [] pos) (isi T fa):=by
 have hc:aHk X (.builtin "isinstance") (fun xs H Q=> ∃d y t,xs=[y,.ty T]/\Is X.K H d y/\tyN d=some t/\Q (.bl (isB t T)) H):=by
  intro pins s σ H xs us Q I r h;obtain⟨d,y,t,rfl,i,ht,q⟩:=h;obtain⟨u,w',rfl,r1,r2⟩:=vals2 r;cases r2;obtain⟨HH,k1,k2,k3⟩:=bNq I i r1 ht;exact PySem.W.kia_one k1 I.kIn k2 (bJz X.K ht hT) k3 fun tk=>⟨.bl _,H,I.tok _,rfl,q⟩
 refine PE.of (aF2 hc hg hm boot_isinstance (aBx ha (aBx (bAm hg2 hm2 hv (v:=V.ty T) rfl hn hd) aD4 he2) (by rw[he,he2])) (he:=by rw[he,he2]) (hpl:=by rw[he2];rfl)) fun σ H Q h=> ?_
 obtain⟨ρ,r1,h⟩:=h;refine⟨ρ,r1,(Res.bind h).imp fun d h1 v H1 e1 i1=> ?_⟩;cases q:tyN d with
 | none=>rw[q] at h1;exact Qd h1
 | some t=>rw[q] at h1;exact⟨d,v,t,rfl,i1,q,h1 _ H1 e1 (.bl _)⟩
def aJb:D->M D
 | .tup ds=>ok (.int ds.length)
 | .lst ds=>ok (.int ds.length)
 | _=>none
def f1 (g:D->M D)(f:Rho->M D):Rho->M D:=fun ρ=>bnd (f ρ) g
theorem aIb (hg:Gl X "len")(hm:X.mg "len"=none)(ha:PD X B e fa)(he:Qu [e] X.env=[(false,eval e X.env)]:=by exact aHy rfl):PD X B (.Call (.Name "len" p) [e] [] pos) (f1 aJb fa):=by
 refine PE.of (aF2 aL4 hg hm PySem.boot_len (aBx ha aD4 he) (he:=by rw[he];rfl) (hpl:=by rfl)) fun σ H Q h=> ?_
 obtain⟨ρ,r1,h⟩:=h;refine⟨ρ,r1,(Res.bind h).imp fun d h1 v H1 e1 i1=> ?_⟩;cases i1 with
 | lst hh r=>exact⟨_,_,rfl,.inl hh,by rw[<-r.length];exact h1 _ H1 e1 (.int _)⟩
 | tup hh r=>exact⟨_,_,rfl,.inr hh,by rw[<-r.length];exact h1 _ H1 e1 (.int _)⟩
 | _=>exact Qd h1
def bN7:D->D->M D
 | .int i,.int j=>ok (.int (if j<i then j else i))
 | _,_=>none
theorem bIy {a b:Expr}{fb:Rho->M D}(hcm:X.calm=true)(hg:Gl X "min")(hm:X.mg "min"=none)(ha:PD X B a fa)(hb:PD X B b fb)(he:Qu [a,b] X.env=[(false,eval a X.env),(false,eval b X.env)]:=by exact aOb rfl rfl)(he2:Qu [b] X.env=[(false,eval b X.env)]:=by exact aHy rfl):
  PD X B (.Call (.Name "min" p) [a,b] [] pos) (b2 bN7 fa fb):=by
 refine PE.of (aF2 (bCr hcm) hg hm boot_min (aBx ha (aBx hb aD4 he2) (by rw[he,he2])) (he:=by rw[he,he2]) (hpl:=by rw[he2];rfl)) fun σ H Q h=> ?_
 obtain⟨ρ,r1,h⟩:=h;refine⟨ρ,r1,(Res.bind h).imp fun d h1 v H1 e1 i1=>⟨ρ,r1.mono e1,(Res.bind h1).mono e1 fun d2 h2 v2 H2 e2 i2=> ?_⟩⟩;cases i1<;>first | exact Qd h2 | skip
 cases i2<;>first | exact Qd h2 | skip
 exact⟨_,_,rfl,h2 _ H2 (e1.trans e2) (.int _)⟩
end
inductive Out where
 | nx (ρ:Rho) | rt (d:D) | bk (ρ:Rho) | ct (ρ:Rho) | ex (c:Addr) (ρ:Rho)
def Good (X:Cx)(B:Hp)(E:Ends):Out->Prop
 | .nx ρ=> ∀σ H,Rel X.K B ρ σ H->E.nx σ H
 | .rt d=> ∀v H,Same B H->Is X.K H d v->E.rt v H
 | .bk ρ=> ∀σ H,Rel X.K B ρ σ H->E.bk σ H
 | .ct ρ=> ∀σ H,Rel X.K B ρ σ H->E.ct σ H
 | .ex c ρ=> ∀(pins:List (Addr×Obj)) (s:Qe) (σ:St) (H:Hp) (e:Qc),Rel X.K B ρ σ H->Exc X pins σ H c e s->X.xe e s
def aLn (X:Cx)(B:Hp)(E:Ends):Option Out->Prop
 | none=>False
 | some o=>Good X B E o
def tDS (X:Cx)(B:Hp)(F:Rho->Option Out):TS:=fun E σ H=> ∃ρ,Rel X.K B ρ σ H/\aLn X B E (F ρ)
abbrev PDS (X:Cx)(B:Hp)(st:Stmt)(F:Rho->Option Out):Prop:=PS X st (tDS X B F)
abbrev PDB (X:Cx)(B:Hp)(st:List Stmt)(F:Rho->Option Out):Prop:=PSs X st (tDS X B F)
def lft {α:Type}(m:M α)(ρ:Rho)(k:α->Option Out):Option Out:=match m with
 | none=>none
 | some (.error c)=>some (.ex c ρ)
 | some (.ok a)=>k a
@[simp] theorem aDq {α:Type} (a:α) (ρ:Rho) (k:α->Option Out):lft (ok a) ρ k=k a:=rfl
@[simp] theorem bJt {α:Type} (c:Addr) (ρ:Rho) (k:α->Option Out):lft (err c:M α) ρ k=some (.ex c ρ):=rfl
theorem aCh {α:Type}{X:Cx}{B:Hp}{E:Ends}{σ:St}{H:Hp}{ρ:Rho}{m:M α}{k:α->Option Out}(r:Rel X.K B ρ σ H)(h:aLn X B E (lft m ρ k)):Res X σ H (fun a=>aLn X B E (k a)) m:=by
 unfold lft at h;split at h
 ·exact h
 ·exact fun pins s H' e q x=>h pins s σ H' e (r.mono q) x
 ·exact h
section
variable {X:Cx}{B:Hp}{e c:Expr}{fa:Rho->M D}{tc:Rho->M Bool}{pos pos':Pos}{st:Stmt}{sts rest:List Stmt}{F G:Rho->Option Out}
theorem PS.of {t t':TS}(h:PS X st t)(i: ∀E σ H,t' E σ H->t E σ H):PS X st t':=fun pins s σ H E I q=>h pins s σ H E I (i E σ H q)
theorem PSs.of {t t':TS}(h:PSs X sts t)(i: ∀E σ H,t' E σ H->t E σ H):PSs X sts t':=fun pins s σ H E I q=>h pins s σ H E I (i E σ H q)
def aAr:Rho->Option Out:=fun ρ=>some (.nx ρ)
def aAk (F G:Rho->Option Out):Rho->Option Out:=fun ρ=>match F ρ with
 | some (.nx ρ')=>G ρ'
 | o=>o
theorem aAe:PDB X B [] aAr:=PSs.of bAh fun E σ H ⟨ρ,r,h⟩=>h σ H r
theorem aAc (h1:PDS X B st F)(h2:PDB X B rest G):PDB X B (st::rest) (aAk F G):=by
 refine PSs.of (aQu h1 h2) fun E σ H h=> ?_
 obtain⟨ρ,r,h⟩:=h;refine⟨ρ,r,?_⟩;unfold aAk at h;cases q:F ρ with
 | none=>rw[q] at h;exact h
 | some o=>
  rw[q] at h;cases o with
  | nx ρ'=>exact fun σ' H' r'=>⟨ρ',r',h⟩
  | rt d=>exact h
  | bk ρ'=>exact h
  | ct ρ'=>exact h
  | ex c ρ'=>exact h
def aBw (f:Rho->M D):Rho->Option Out:=fun ρ=>lft (f ρ) ρ fun d=>some (.rt d)
theorem aAo (he:PD X B e fa):PDS X B (.Return (some e) pos) (aBw fa):=by
 refine PS.of (bGu he) fun E σ H h=> ?_
 obtain⟨ρ,r,h⟩:=h;exact⟨ρ,r,(aCh r h).imp fun d h1 v H1 e1 i1=>h1 v H1 (r.kept.trans e1) i1⟩
def aM5 (f:Rho->M D):Rho->Option Out:=fun ρ=>lft (f ρ) ρ fun _=>some (.nx ρ)
theorem aWt (he:PD X B e fa)(hs:Yr e none pos.line X.env=pure false:=by rfl):PDS X B (.Expr e pos) (aM5 fa):=by
 refine PS.of (aQv he hs) fun E σ H h=> ?_
 obtain⟨ρ,r,h⟩:=h;exact⟨ρ,r,(aCh r h).imp fun d h1 v H1 e1 i1=>h1 σ H1 (r.mono e1)⟩
def sIf (t:Rho->M Bool)(F G:Rho->Option Out):Rho->Option Out:=fun ρ=>lft (t ρ) ρ fun k=>if k=true then F ρ else G ρ
theorem aA3 {a b:List Stmt}(hc:PDT X B c tc)(ha:PDB X B a F)(hb:PDB X B b G):PDS X B (.If c a b pos) (sIf tc F G):=by
 refine PS.of (bPv hc ha hb) fun E σ H h=> ?_
 obtain⟨ρ,r,h⟩:=h;refine⟨ρ,r,(aCh r h).imp fun k h1 H1 e1=> ?_⟩;cases k with
 | true=>exact⟨ρ,r.mono e1,h1⟩
 | false=>exact⟨ρ,r.mono e1,h1⟩
def SV.rel:SV->SV
 | .sh d=> .sh d
 | .own ds=> .sh (.lst ds)
 | .oin a C dx fs=> .sh (.obj C fs)
 | .ow o=> .sh o.d
 | .tk ks=> .sh (.tup (ks.map kD))
 | .nl kd ls=> .sh (kd.d ls)
def free (ρ:Rho):Rho:=ρ.map fun o=>o.map SV.rel
def aQl (i:Nat)(d:D)(ρ:Rho):Rho:=if d.imm=true then ρ.set i (some (.sh d)) else (free ρ).set i (some (.sh d))
theorem Rel.aWl {K:Qa}{H₀ H:Hp}{ρ:Rho}{σ:St}{i:Nat}{d:D}{v:V}(O:Nat->Option Addr)(h1: ∀i j a,O i=some a->O j=some a->i=j)(ho:aSb H O)(h2:Same H₀ (Off H O))(hl:ρ.length=σ.length)(h3: ∀j sv,ρ[j]? =some (some sv)->j≠i->Slot K H O σ j sv)
  (iv:Is K (Off H O) d v):Rel K H₀ (ρ.set i (some (.sh d))) (σ.set i (some v)) H:=by
 by_cases hi:i<σ.length
 case neg=>
  have s1: ∀x:Option SV,ρ.set i x=ρ:=fun x=>Zg (by omega)
  have s2: ∀x:Option V,σ.set i x=σ:=fun x=>Zg (by omega)
  rw[s1,s2];exact⟨O,h1,ho,h2,hl,fun j sv q=>h3 j sv q (fun z=>by have:=(List.getElem?_eq_some_iff.mp q).1;omega)⟩
 have hO: ∀(j:Nat) (a:Addr),(if j=i then none else O j)=some a->O j=some a:=fun j a q=>by
  split at q
  ·cases q
  ·exact q
 have less:Same (Off H O) (Off H fun j=>if j=i then none else O j):=Off.less fun j a q=>⟨j,hO j a q⟩
 refine⟨fun j=>if j=i then none else O j,fun j k a q1 q2=>h1 j k a (hO j a q1) (hO k a q2),fun j a q=>ho j a (hO j a q),h2.trans less,by rw[Q3,Q3,hl],fun j sv q=> ?_⟩;by_cases e:j=i
 ·subst e
  have hj:j<ρ.length:=by
   have:=(List.getElem?_eq_some_iff.mp q).1
   rwa [Q3] at this
  rw[Q6 hj] at q;have q':=Option.some.inj (Option.some.inj q);subst q';exact⟨v,Q6 (by rw[<-hl];exact hj),iv.mono less⟩
 ·rw[Qh (Ne.symm e)] at q
  have z:=h3 j sv q e;cases sv with
  | sh d'=>obtain⟨v',e1,e2⟩:=z;exact⟨v',by rw[Qh (Ne.symm e)];exact e1,e2.mono less⟩
  | own ds=>obtain⟨a,vs,e1,e2,e3,e4⟩:=z;exact⟨a,vs,by show (if j=i then none else O j)=some a;rw[if_neg e];exact e1,by rw[Qh (Ne.symm e)];exact e2,e3,e4.mono less⟩
  | oin a C dx fs=>obtain⟨e1,e2,e3,vs,e4,e5⟩:=z;exact⟨by show (if j=i then none else O j)=some a;rw[if_neg e];exact e1,by rw[Qh (Ne.symm e)];exact e2,e3,vs,e4,e5.mono less⟩
  | ow o=>obtain⟨a,w,e1,e2,e3,e4⟩:=z;exact⟨a,w,by show (if j=i then none else O j)=some a;rw[if_neg e];exact e1,by rw[Qh (Ne.symm e)];exact e2,e3,e4.mono less⟩
  | tk ks=>obtain⟨a,e1,e2⟩:=z;exact⟨a,by rw[Qh (Ne.symm e)];exact e1,less _ _ e2⟩
  | nl kd ls=>exact NL.move (by rw[Q3]) (Qh (Ne.symm e)) (fun m b w hm e1 e2=>⟨by show (if m=i then none else O m)=some b;rw[if_neg (by rcases hm with h | h<;>omega)];exact e1,e2⟩) less z
theorem Rel.freed {K:Qa}{H₀ H:Hp}{ρ:Rho}{σ:St}(r:Rel K H₀ ρ σ H):Rel K H₀ (free ρ) σ H:=by
 obtain⟨O,h1,ho,h2,hl,h3⟩:=id r;have e0:Off H (fun _=>none)=H:=by funext b;unfold Off;rw[if_neg (fun⟨i,e⟩=>nomatch e)]
 refine⟨fun _=>none,(by intro _ _ _ q;cases q),(by intro _ _ q;cases q),by rw[e0];exact r.kept,by unfold free;rw[Qi,hl],fun i sv q=> ?_⟩;unfold free at q;rw[Zm] at q;obtain⟨o,e1,e2⟩:=Option.map_eq_some_iff.mp q;cases o with
 | none=>cases e2
 | some sv0=>
  have e2':sv0.rel=sv:=Option.some.inj e2;subst e2';obtain⟨v,e3,e4⟩:=r.get e1;have:sv0.rel= .sh sv0.cur:=by cases sv0<;>rfl
  rw[this];exact⟨v,e3,by rw[e0];exact e4⟩
theorem Rel.aQl {K:Qa}{H₀ H:Hp}{ρ:Rho}{σ:St}{i:Nat}{d:D}{v:V}(r:Rel K H₀ ρ σ H)(iv:Is K H d v):Rel K H₀ (aQl i d ρ) (σ.set i (some v)) H:=by
 unfold PU.aQl;by_cases q:d.imm=true
 ·rw[if_pos q]
  obtain⟨O,h1,ho,h2,hl,h3⟩:=r;exact Rel.aWl O h1 ho h2 hl (fun j sv e _=>h3 j sv e) (aQ8 ho q iv)
 ·rw[if_neg q]
  obtain⟨O,h1,ho,h2,hl,h3⟩:=r.freed;have e0:Off H (fun _=>none)=H:=by funext b;unfold Off;rw[if_neg (fun⟨i,e⟩=>nomatch e)]
  have s0:Same (Off H O) (Off H fun _=>none):=Off.less (by intro j a q;cases q);refine Rel.aWl (fun _=>none) (by intro _ _ _ q;cases q) (by intro _ _ q;cases q) (h2.trans s0) hl (fun j sv e _=> ?_) (by rw[e0];exact iv);unfold free at e;rw[Zm] at e;obtain⟨o,e1,e2⟩:=Option.map_eq_some_iff.mp e;cases o with
  | none=>cases e2
  | some sv0=>
   have e2':sv0.rel=sv:=Option.some.inj e2;subst e2';have z:=h3 j sv0.rel (by unfold free;rw[Zm,e1];rfl);have:sv0.rel= .sh sv0.cur:=by cases sv0<;>rfl
   rw[this] at z⊢;obtain⟨v',f1,f2⟩:=z;exact⟨v',f1,f2.mono s0⟩
def aB6 (i:Nat)(f:Rho->M D):Rho->Option Out:=fun ρ=>lft (f ρ) ρ fun d=>some (.nx (aQl i d ρ))
theorem aA6 {i:Nat}{x:Str}(hN:X.N.Nodup)(hi:X.N[i]? =some x)(hx:Loc X.env.scope x)(he:PD X B e fa)(hs:Yr e (some (.Name x pos')) pos.line X.env=pure false:=by rfl)(hf:X.fn x=true\/X.env.scope.names.lookup x=some .local:=by first | exact .inl rfl | exact .inr rfl | assumption):
  PDS X B (.Assign [.Name x pos'] e pos) (aB6 i fa):=by
 refine PS.of (aM7 hN hi hx he hs hf) fun E σ H h=> ?_
 obtain⟨ρ,r,h⟩:=h;exact⟨ρ,r,(aCh r h).imp fun d h1 v H1 e1 i1=>h1 _ H1 ((r.mono e1).aQl i1)⟩
end
def spR (K:Qa)(H:Hp)(Q:VK)(E:XK):M D->Prop
 | none=>False
 | some (.error c)=> ∀H',Same H H'->E (.ref c) none H'
 | some (.ok d)=> ∀v H',Same H H'->Is K H' d v->Q v H'
def spD (K:Qa)(n:Nat)(F:List D->M D):Sp:=fun vs H Q E=> ∃ds,IsL K H ds vs/\vs.length=n/\spR K H Q E (F ds)
def CXD (P:Qv)(w:Q8):CXT:=fun outer H s E e s'=> ∃(c ea:Addr) (H':Hp),e= .ref ea/\s'.os=s.os/\AllBare s'.gens/\Un (frs outer) [] H H' s.heap s'.heap/\Fly P w outer s ea c H' s'/\E (.ref c) none H'
abbrev FnD (P:Qv)(w:Q8)(K:Qa)(mg:Str->Option Qc)(base:Heap)(k:Nat)(f:Addr)(fd:Z9)(ps:List Str)(F:List D->M D):Prop:=aZf P w K mg base (CXD P w) k f fd ps (spD K ps.length F)
def Def (P:Qv)(w:Q8)(K:Qa)(mg:Str->Option Qc)(base:Heap)(k:Nat)(x:Str)(F:List D->M D):Prop:=
 ∃f fd ps,mg x=some (.ref f)/\Uc K (.ref f)=true/\Binds K fd ps []/\(∀ds r,F ds=some r->ds.length=ps.length)/\FnD P w K mg base k f fd ps F
theorem Def.mono {P:Qv}{w:Q8}{K:Qa}{mg:Str->Option Qc}{base:Heap}{j k:Nat}{x:Str}{F:List D->M D}(h:Def P w K mg base j x F)(q:j<=k):Def P w K mg base k x F:=by
 obtain⟨f,fd,ps,h1,h2,h3,hl,h4⟩:=h;exact⟨f,fd,ps,h1,h2,h3,hl,h4.mono q⟩
section
variable {X:Cx}{B:Hp}{k:Nat}{f:Addr}{fd:Z9}{ps:List Str}{F:List D->M D}{pins:List (Addr×Obj)}{σ:St}{H:Hp}{s:Qe}{Q:VK}{us:List Qc}{vs:List V}{ds:List D}
theorem bPo (G:FnD X.prog X.w X.K X.mg X.base k f fd ps F)(hr:aFz k X.A)(hb:Binds X.K fd ps [])(I:Inv X pins σ H s)(r:Vals vs us)(i:IsL X.K H ds vs)
  (h:Res X σ H (fun d=> ∀v H',Same H H'->Is X.K H' d v->Q v H') (F ds)) (hL: ∀ds r,F ds=some r->ds.length=ps.length):Qs (Qp X.prog X.w) X.A (call (.ref f) us) (EP X pins σ Q) X.xe s:=by
 have hn:ds.length=ps.length:=by
  cases q:F ds with
  | none=>rw[q] at h;exact Qd h
  | some z=>exact hL ds z q
 have hl:(us++ []).length=ps.length:=by rw[Z3,<-r.length,<-i.length];exact hn
 have hbb:=hb s us I.kIn hl;rw[Z3] at hbb;have hsp:spD X.K ps.length F vs H Q (fun cv _ H'=> ∃c,cv= .ref c/\Same H H'/\Thr X σ H c):=by
  refine⟨ds,i,by rw[<-i.length];exact hn,?_⟩;cases q:F ds with
  | none=>rw[q] at h;exact Qd h
  | some z=>
   rw[q] at h;cases z with
   | error c=>exact fun H' e=>⟨c,rfl,e,h⟩
   | ok d=>exact h
 refine wpAny_call (Jc (G.run X.A X.stack s H ⟨us,[]⟩ us vs Q _ hr I.env0 hbb r hsp) fun r s' hq=> ?_);cases r with
 | error e=>
  obtain⟨c,ea,H',ee,os,bare,un,fl,c',ec,sm',th⟩:=hq;cases ec;exact th pins s' H' e sm' ⟨ea,ee,.inr ⟨s,H,I,os,bare,un,fl⟩⟩
 | ok fl=>
  cases fl with
  | ret u=>exact I.after hq
  | next=>exact Qd hq
  | brk=>exact Qd hq
  | cont=>exact Qd hq
variable {x m:Str}{p pos apos:Pos}{e o:Expr}{es:List Expr}{ga:Rho->M (List D)}{fo:Rho->M D}{C:Addr}
def app (F:List D->M D)(g:Rho->M (List D)):Rho->M D:=fun ρ=>bnd (g ρ) F
theorem bC0 {R:List V->Hp->Prop}(hR: ∀ds vs H1,Same H H1->IsL X.K H1 ds vs->Res X σ H1 (fun d=> ∀v H',Same H1 H'->Is X.K H' d v->Q v H') (F ds)->R vs H1)(h:tD X B (app F ga) σ H Q):tDA X B ga σ H R:=by
 obtain⟨ρ,r,h⟩:=h;exact⟨ρ,r,(Res.bind h).imp fun ds h1 vs H1 e1 i1=>hR ds vs H1 e1 i1 (h1.mono e1 fun d q v H2 e2 i2=>q v H2 (e1.trans e2) i2)⟩
theorem aAq (G:Def X.prog X.w X.K X.mg X.base k x F)(hr:aFz k X.A)(hg:Gl X x)(ha:PDA X B (e::es) ga)(hdb:(x==("__debug__":Str))=false:=by decide)(he:Qu (e::es) X.env=(false,eval e X.env)::Qu es X.env:=by exact aBf rfl)
  (hpl:(backTo pos (Qu es X.env)).any (·.1)=false:=by rfl):PD X B (.Call (.Name x p) (e::es) [] pos) (app F ga):=by
 intro pins s σ H Q I h;obtain⟨f,fd,ps,h1,h2,h3,hl,h4⟩:=G;refine Yh (aK3 I hg h1 ?_ hdb);refine U5 (h₀:=X.base) I.ok.mod.kin h2 (thn (ha pos pins s σ H _ I (bC0 (R:=fun vs H1=> ∃ds,IsL X.K H1 ds vs/\Res X σ H1 (fun d=> ∀v H',Same H1 H'->Is X.K H' d v->Q v H') (F ds)) (fun ds vs H1 e1 i1 h1=>⟨ds,i1,h1⟩) h)) fun us s1 ⟨vs,H1,I1,r,ds,i1,q⟩=>⟨I1.kIn,?_⟩) he hpl;exact bPo h4 hr h3 I1 r i1 q hl
def hid (H:Hp)(a:Addr):Hp:=fun b=>if b=a then none else H b
theorem bFe (H:Hp)(a:Addr):Same (hid H a) H:=fun b o h=>by
 unfold hid at h;split at h
 ·cases h
 ·exact h
end
def tDG (X:Cx)(B:Hp)(G:D->Rho->Option Rho):TG:=fun v σ H Q=> ∃ρ d ρ',Rel X.K B ρ σ H/\Is X.K H d v/\G d ρ=some ρ'/\∀σ' H',Rel X.K B ρ' σ' H'->Q σ' H'
abbrev PDG (X:Cx)(B:Hp)(tg:Expr)(G:D->Rho->Option Rho):Prop:=PG X tg (tDG X B G)
section
variable {X:Cx}{B:Hp}{tg:Expr}{pos:Pos}{x:Str}
def gN (i:Nat):D->Rho->Option Rho:=fun d ρ=>some (aQl i d ρ)
theorem aF5 {i:Nat}(hN:X.N.Nodup)(hi:X.N[i]? =some x)(hx:Loc X.env.scope x)(hf:X.fn x=true\/X.env.scope.names.lookup x=some .local:=by first | exact .inl rfl | exact .inr rfl | assumption):PDG X B (.Name x pos) (gN i):=by
 intro pins s σ H v u Q I r h;obtain⟨ρ,d,ρ',r1,i1,e,q⟩:=h;cases e;exact aQx hN hi hx hf pins s σ H v u Q I r (q _ H (r1.aQl i1))
def gN2 (i j:Nat):D->Rho->Option Rho:=fun d ρ=>match d with
 | .tup [a,b]=>some (aQl j b (aQl i a ρ))
 | _=>none
theorem bEs {i j:Nat}{y:Str}{p1 p2:Pos}{k:Nat}(hc:X.calm=true)(hN:X.N.Nodup)(hi:X.N[i]? =some x)(hx:Loc X.env.scope x)(hj:X.N[j]? =some y)(hy:Loc X.env.scope y)
  (hf:X.fn x=true\/X.env.scope.names.lookup x=some .local:=by first | exact .inl rfl | exact .inr rfl | assumption) (hf2:X.fn y=true\/X.env.scope.names.lookup y=some .local:=by first | exact .inl rfl | exact .inr rfl | assumption):
  PDG X B (.Tuple [.Name x p1,.Name y p2] k pos) (gN2 i j):=by
 intro pins s σ H v u Q I r h;obtain⟨ρ,d,ρ',r1,i1,e,q⟩:=h;unfold gN2 at e;split at e
 ·rename_i a b
  cases e;cases i1 with
  | tup hh rr=>
   cases rr with
   | cons ia rr=>
    cases rr with
    | cons ib rr=>
     cases rr;refine bMk (n:=2) hc (aWq (aQx hN hi hx hf) (aWq (aQx hN hj hy hf2) bIq)) rfl rfl pins s σ H _ u Q I r ?_;refine⟨_,_,rfl,hh.sq,rfl,_,_,rfl,_,_,rfl,rfl,?_⟩;exact q _ H ((r1.aQl ia).aQl ib)
 ·cases e
end
def loop (G:D->Rho->Option Rho)(F:Rho->Option Out):List D->Rho->Option Out
 | [],ρ=>some (.nx ρ)
 | d::ds,ρ=>match G d ρ with
  | none=>none
  | some ρ1=>match F ρ1 with
   | some (.nx ρ2)=>loop G F ds ρ2
   | some (.ct ρ2)=>loop G F ds ρ2
   | some (.bk ρ2)=>some (.nx ρ2)
   | some (.rt d)=>some (.rt d)
   | some (.ex c ρ2)=>some (.ex c ρ2)
   | none=>none
structure ItD (K:Qa)(J:It)(ds:List D)(B:Hp):Prop where
 go: ∀j H,Same B H->j<ds.length->J.go j H
 yld: ∀j H x H',Same B H->J.yld j H x H'->j<ds.length->Same H H'/\∃d,ds[j]? =some d/\Is K H' d x
 stop: ∀j H,Same B H->ds.length<=j->J.stop j H
theorem aMr {K:Qa}{a:Addr}{ds:List D}{vs:List V}{B:Hp}(h:SqL K B a vs)(r:IsL K B ds vs):ItD K (Itl K a) ds B where
 go:=fun j H e q=>⟨vs,vs[j]'(by rw[<-r.length];exact q),e.seq h,by simp[show j<vs.length by rw[<-r.length];exact q]⟩
 yld:=fun j H x H' e y q=>by
  obtain⟨y1,y2⟩:=y;subst y1;obtain⟨d,h1,h2⟩:=r.bQi (y2 vs (e.seq h));exact⟨Same.refl _,d,h1,h2.mono e⟩
 stop:=fun j H e q=>⟨vs,e.seq h,by rw[<-r.length];exact q⟩
theorem aRg {K:Qa}{a:Addr}{ds:List D}{vs:List V}{B:Hp}(h:SqT K B a vs)(r:IsL K B ds vs):ItD K (Itt K a) ds B where
 go:=fun j H e q=>⟨vs,vs[j]'(by rw[<-r.length];exact q),SqT.mono e h,by simp[show j<vs.length by rw[<-r.length];exact q]⟩
 yld:=fun j H x H' e y q=>by
  obtain⟨y1,y2⟩:=y;subst y1;obtain⟨d,h1,h2⟩:=r.bQi (y2 vs (SqT.mono e h));exact⟨Same.refl _,d,h1,h2.mono e⟩
 stop:=fun j H e q=>⟨vs,SqT.mono e h,by rw[<-r.length];exact q⟩
def rng (lo:Int)(n:Nat):List D:=(Zj n).map fun (j:Nat)=>D.int (lo+(j:Int))
theorem aVj {K:Qa}(lo:Int)(n:Nat)(B:Hp):ItD K (Itr lo n) (rng lo n) B where
 go:=fun j H e q=>by unfold rng at q;rw[Qi,Zw] at q;exact q
 yld:=fun j H x H' e y q=>by
  unfold rng at q;rw[Qi,Zw] at q;obtain⟨y1,y2⟩:=y;subst y2;subst y1;refine⟨Same.refl _,.int (lo+j),?_,.int _⟩;unfold rng;rw[Zm,W9 q];rfl
 stop:=fun j H e q=>by unfold rng at q;rw[Qi,Zw] at q;exact q
section
variable {X:Cx}{B:Hp}{tg iter:Expr}{pos:Pos}{G:D->Rho->Option Rho}{F:Rho->Option Out}{body:List Stmt}
theorem Rel.sub {K:Qa}{B B':Hp}{ρ:Rho}{σ:St}{H:Hp}(e:Same B B')(r:Rel K B' ρ σ H):Rel K B ρ σ H:=by
 obtain⟨O,h1,ho,h2,hl,h3⟩:=r;exact⟨O,h1,ho,e.trans h2,hl,h3⟩
theorem Good.sub {E:Ends}{B':Hp}(e:Same B B'){o:Out}(h:Good X B E o):Good X B' E o:=by
 cases o with
 | nx ρ=>exact fun σ H r=>h σ H (r.sub e)
 | rt d=>exact fun v H r i=>h v H (e.trans r) i
 | bk ρ=>exact fun σ H r=>h σ H (r.sub e)
 | ct ρ=>exact fun σ H r=>h σ H (r.sub e)
 | ex c ρ=>exact fun pins s σ H ev r x=>h pins s σ H ev (r.sub e) x
def bHx (X:Cx)(B:Hp)(σ:St)(ds:List D)(ρ1:Rho)(J:It)(H1:Hp):Prop:= ∃B',ItD X.K J ds B'/\Rel X.K B' ρ1 σ H1/\Same B B'
theorem bKd {J:It}{H1:Hp}{σ:St}{E:Ends}{ds:List D}{ρ1:Rho}(hi:bHx X B σ ds ρ1 J H1)(h:aLn X B E (loop G F ds ρ1)){g:TG}{tb:TS}(hg: ∀B v σ H Q,tDG X B G v σ H Q->g v σ H Q)(hb: ∀B E σ H,tDS X B F E σ H->tb E σ H):
  ∃W:Nat->Nat->St->Hp->Prop,(∃m,W 0 m σ H1)/\∀i m σ H,W i m σ H->
   (J.stop i H/\E.nx σ H)\/(J.go i H/\∃N:St->Hp->Prop,(∀σ' H',N σ' H'->∃m',m'<m/\W (i+1) m' σ' H')/\∀x H',J.yld i H x H'->g x σ H' fun σ2 H2=>tb {E with nx:=N,ct:=N,bk:=E.nx} σ2 H2):=by
 obtain⟨B',hJ,r1,sB⟩:=hi;refine⟨fun j m σ H=>m=ds.length-j/\j<=ds.length/\∃ρj,Rel X.K B' ρj σ H/\aLn X B E (loop G F (ds.drop j) ρj),⟨ds.length,by simp,Ye _,ρ1,r1,by simpa using h⟩,?_⟩
 rintro j m σ H ⟨rfl,hj,ρj,rj,gj⟩
 have sH:Same B' H:=rj.kept;by_cases hlt:j<ds.length
 ·have hd:ds.drop j=ds[j]::ds.drop (j+1):=Jv hlt
  rw[hd] at gj;refine .inr ⟨hJ.go j H sH hlt,fun σ' H'=> ∃ρ',Rel X.K B' ρ' σ' H'/\aLn X B E (loop G F (ds.drop (j+1)) ρ'),fun σ' H' ⟨ρ',r',g'⟩=>⟨ds.length-(j+1),by omega,rfl,hlt,ρ',r',g'⟩,fun x H' y=> ?_⟩;obtain⟨e1,d,e2,e3⟩:=hJ.yld j H x H' sH y hlt;have ed:ds[j]=d:=by rw[Qj hlt] at e2;exact Option.some.inj e2
  rw[ed] at gj;unfold loop at gj;cases q:G d ρj with
  | none=>rw[q] at gj;exact Qd gj
  | some ρa=>
   rw[q] at gj;refine hg B' x σ H' _ ⟨ρj,d,ρa,rj.mono e1,e3,q,fun σ2 H2 r2=>hb B' _ σ2 H2 ⟨ρa,r2,?_⟩⟩
   dsimp only at gj
   cases qf:F ρa with
   | none=>rw[qf] at gj;exact Qd gj
   | some o=>
    rw[qf] at gj;cases o with
    | nx ρ2=>exact fun σ3 H3 r3=>⟨ρ2,r3,gj⟩
    | ct ρ2=>exact fun σ3 H3 r3=>⟨ρ2,r3,gj⟩
    | bk ρ2=>exact fun σ3 H3 r3=>gj σ3 H3 (r3.sub sB)
    | rt d=>exact fun v H3 s3 i3=>gj v H3 (sB.trans s3) i3
    | ex c ρ2=>exact fun pins s σ3 H3 ev r3 x3=>gj pins s σ3 H3 ev (r3.sub sB) x3
 ·have e:ds.drop j=[]:=W1 (by omega)
  rw[e] at gj;exact .inl ⟨hJ.stop j H sH (by omega),gj σ H (rj.sub sB)⟩
def itD:D->M (List D)
 | .lst ds=>ok ds
 | .tup ds=>ok ds
 | _=>none
def iD (X:Cx)(tl:TE):TI:=fun σ H R=>tl σ H fun x H1=>(∃a,x= .ref a/\(∃xs,SqL X.K H1 a xs)/\R (Itl X.K a) H1)\/(∃a,x= .ref a/\(∃xs,SqT X.K H1 a xs)/\R (Itt X.K a) H1)
theorem bOv {l:Expr}{tl:TE}(hl:PE X l tl):PI X tg l (iD X tl):=by
 intro pins s σ H R I h;refine thn (hl pins s σ H _ I h) fun v s1 ⟨x,H1,I1,r1,q1⟩=> ?_
 rcases q1 with⟨a,e,⟨xs,hq⟩,q⟩ |⟨a,e,⟨xs,hq⟩,q⟩
 ·subst e
  cases r1;obtain⟨its,rv,p,hz⟩:=I1.list hq;refine wpAny_pyIter_list p.isList ?_;refine⟨s1.heap.objs.size,[s1.heap.objs.size],_,_,H1,rfl,I1.kept (t':=s1.toks) fun b o e=>Qg _ e,aZj a _,⟨_,Qx _ rfl,rfl,rfl⟩,fun b hb=> ?_,q⟩;have e:b=s1.heap.objs.size:=by simpa using hb
  subst e;exact I1.bHl (Qr _) (I1.hok.fresh (Qr _))
 ·subst e
  cases r1;obtain⟨its,rv,p,hz⟩:=I1.tuple hq;refine wpAny_pyIter_tuple (show s1.heap.IsTuple a its.toArray from p) ?_;refine⟨s1.heap.objs.size,[s1.heap.objs.size],_,_,H1,rfl,I1.kept (t':=s1.toks) fun b o e=>Qg _ e,aXv a _,⟨_,Qx _ rfl,rfl,rfl⟩,fun b hb=> ?_,q⟩;have e:b=s1.heap.objs.size:=by simpa using hb
  subst e;exact I1.bHl (Qr _) (I1.hok.fresh (Qr _))
theorem aIn {wi:TI}{S:Rho->Option Out}(hp:PassesOwn (Qp X.prog X.w) X.A X.env X.xe)(hc:X.calm=true)(hi:PI X tg iter wi)(hg: ∀B,PDG X B tg G)(hb: ∀B,PDB X B body F)
  (hr: ∀E σ H R,tDS X B S E σ H->(∀J H1 ds ρ1,bHx X B σ ds ρ1 J H1->aLn X B E (loop G F ds ρ1)->R J H1)->wi σ H R) (hs: ∀x,Zp iter X.env x=pure x:=by intro _;rfl):PDS X B (.For tg iter body [] pos) S:=by
 have hg':PG X tg (fun v σ H Q=> ∃B,tDG X B G v σ H Q):=fun pins s σ H v u Q I r ⟨B,h⟩=>hg B pins s σ H v u Q I r h
 have hb':PSs X body (fun E σ H=> ∃B,tDS X B F E σ H):=fun pins s σ H E I ⟨B,h⟩=>hb B pins s σ H E I h
 refine PS.of (bMf hp hc hi hg' hb' hs) fun E σ H h=> ?_
 exact hr E σ H _ h fun J H1 ds ρ1 i1 g1=>bKd (g:=fun v σ H Q=> ∃B,tDG X B G v σ H Q) (tb:=fun E σ H=> ∃B,tDS X B F E σ H) i1 g1 (fun B v σ H Q q=>⟨B,q⟩) fun B E σ H q=>⟨B,q⟩
def aI3 (i:Nat)(ρ:Rho):Rho:=match ρ[i]? with
 | some (some (.own _))=>free ρ
 | some (some (.oin _ _ _ _))=>free ρ
 | some (some (.ow _))=>free ρ
 | some (some (.tk _))=>free ρ
 | some (some (.nl _ _))=>free ρ
 | _=>ρ
def aSp (i:Nat)(G:D->Rho->Option Rho)(F:Rho->Option Out):Rho->Option Out:=fun ρ=>match look i ρ with
 | some (.ok d)=>(match itD d with
  | some (.ok ds)=>loop G F ds (aI3 i ρ)
  | _=>none)
 | _=>none
theorem Rel.base {K:Qa}{B:Hp}{ρ:Rho}{σ:St}{H:Hp}(r:Rel K B ρ σ H): ∃B',Rel K B' ρ σ H/\Same B B'/\Same B' H/\(∀(i:Nat) (d:D),ρ[i]? =some (some (SV.sh d))->∃v,σ[i]? =some (some v)/\Is K B' d v)/\(∀d v,d.imm=true->Is K H d v->Is K B' d v):=by
 obtain⟨O,h1,ho,h2,hl,h3⟩:=r;exact⟨Off H O,⟨O,h1,ho,Same.refl _,hl,h3⟩,h2,Off.same _ _,fun i d q=>h3 i _ q,fun d v q i=>aQ8 ho q i⟩
theorem Rel.aJ0 {K:Qa}{B:Hp}{ρ:Rho}{σ:St}{H:Hp}(r:Rel K B ρ σ H):Rel K H (free ρ) σ H:=by
 have e0:Off H (fun _=>none)=H:=by funext b;unfold Off;rw[if_neg (fun⟨i,e⟩=>nomatch e)]
 refine⟨fun _=>none,(by intro _ _ _ q;cases q),(by intro _ _ q;cases q),by rw[e0];exact Same.refl _,?_,fun i sv q=> ?_⟩
 ·obtain⟨O,_,_,_,hl,_⟩:=r.freed
  exact hl
 ·unfold free at q
  rw[Zm] at q;obtain⟨o,e1,e2⟩:=Option.map_eq_some_iff.mp q;cases o with
  | none=>cases e2
  | some sv0=>
   have e2':sv0.rel=sv:=Option.some.inj e2;subst e2';obtain⟨v,e3,e4⟩:=r.get e1;have:sv0.rel= .sh sv0.cur:=by cases sv0<;>rfl
   rw[this];exact⟨v,e3,by rw[e0];exact e4⟩
theorem aK4 {K:Qa}{H:Hp}{d:D}{v:V}{ds:List D}(i:Is K H d v)(h:itD d=ok ds): ∃a vs,v= .ref a/\IsL K H ds vs/\(SqL K H a vs\/SqT K H a vs):=by
 cases i with
 | lst hh r=>have:=aCr h;subst this;exact⟨_,_,rfl,r,.inl hh⟩
 | tup hh r=>have:=aCr h;subst this;exact⟨_,_,rfl,r,.inr hh⟩
 | _=>exact nomatch h
theorem aWs (i:Nat){x:Str}{p:Pos}(hN:X.N[i]? =some x)(hv:Vis X.env.scope x)(hp:PassesOwn (Qp X.prog X.w) X.A X.env X.xe)(hc:X.calm=true)(hg: ∀B,PDG X B tg G)(hb: ∀B,PDB X B body F)
  (hd:(x==("__debug__":Str))=false:=by decide) (hcd:(x==("__classdict__":Str))=false:=by decide) (hs: ∀y,Zp (.Name x p) X.env y=pure y:=by intro _;rfl):PDS X B (.For tg (.Name x p) body [] pos) (aSp i G F):=by
 refine aIn hp hc (bOv (aHo hN hv hd hcd)) hg hb (fun E σ H R h k=> ?_) hs;obtain⟨ρ,r,h⟩:=h;unfold aSp look at h;split at h
 ·rename_i d0 hd0
  split at hd0
  ·rename_i sv q
   have e:=aCr hd0;subst e;split at h
   ·rename_i ds hds
    obtain⟨v,e1,e2⟩:=r.get q;obtain⟨a,vs,rfl,il,hq⟩:=aK4 e2 hds;refine⟨_,e1,?_⟩;have key: ∃B' vs,Rel X.K B' (aI3 i ρ) σ H/\Same B B'/\IsL X.K B' ds vs/\(SqL X.K B' a vs\/SqT X.K B' a vs):=by
     cases sv with
     | sh d=>
      obtain⟨B',b1,b2,b3,b4,b5⟩:=r.base;obtain⟨v',f1,f2⟩:=b4 i d q;rw[e1] at f1;have:=Option.some.inj (Option.some.inj f1);subst this;obtain⟨a',vs',ea,il',hq'⟩:=aK4 f2 hds;cases ea;have e:aI3 i ρ=ρ:=by unfold aI3;rw[q]
      exact⟨B',vs',by rw[e];exact b1,b2,il',hq'⟩
     | own ds'=>
      have e:aI3 i ρ=free ρ:=by unfold aI3;rw[q]
      exact⟨H,vs,by rw[e];exact r.aJ0,r.kept,il,hq⟩
     | oin a C dx fs=>
      have e:aI3 i ρ=free ρ:=by unfold aI3;rw[q]
      exact⟨H,vs,by rw[e];exact r.aJ0,r.kept,il,hq⟩
     | ow o=>
      have e:aI3 i ρ=free ρ:=by unfold aI3;rw[q]
      exact⟨H,vs,by rw[e];exact r.aJ0,r.kept,il,hq⟩
     | tk ks=>
      have e:aI3 i ρ=free ρ:=by unfold aI3;rw[q]
      exact⟨H,vs,by rw[e];exact r.aJ0,r.kept,il,hq⟩
     | nl kd ls=>
      have e:aI3 i ρ=free ρ:=by unfold aI3;rw[q]
      exact⟨H,vs,by rw[e];exact r.aJ0,r.kept,il,hq⟩
    obtain⟨B',vs',k1,k2,k3,k4⟩:=key;rcases k4 with k4 | k4
    ·exact .inl ⟨a,rfl,⟨_,k1.kept.seq k4⟩,k _ H ds (aI3 i ρ) ⟨B',aMr k4 k3,k1,k2⟩ h⟩
    ·exact .inr ⟨a,rfl,⟨_,SqT.mono k1.kept k4⟩,k _ H ds (aI3 i ρ) ⟨B',aRg k4 k3,k1,k2⟩ h⟩
   ·exact Qd h
  ·exact nomatch hd0
 ·exact Qd h
def aM4 (f:Rho->M D)(G:D->Rho->Option Rho)(F:Rho->Option Out):Rho->Option Out:=fun ρ=>lft (f ρ) ρ fun d=>match itD d with
 | some (.ok ds)=>loop G F ds (if d.imm=true then ρ else free ρ)
 | _=>none
theorem aQ2 {fa:Rho->M D}(hp:PassesOwn (Qp X.prog X.w) X.A X.env X.xe)(hc:X.calm=true)(he:PD X B iter fa)(hg: ∀B,PDG X B tg G)(hb: ∀B,PDB X B body F)(hs: ∀y,Zp iter X.env y=pure y:=by intro _;rfl):PDS X B (.For tg iter body [] pos) (aM4 fa G F):=by
 refine aIn hp hc (bOv he) hg hb (fun E σ H R h k=> ?_) hs;obtain⟨ρ,r,h⟩:=h;refine⟨ρ,r,(aCh r h).imp fun d h1 v H1 e1 i1=> ?_⟩;split at h1
 ·rename_i ds hds
  obtain⟨a,vs,rfl,il,hq⟩:=aK4 i1 hds;have r1:=r.mono e1;have key: ∃B' vs,Rel X.K B' (if d.imm=true then ρ else free ρ) σ H1/\Same B B'/\IsL X.K B' ds vs/\(SqL X.K B' a vs\/SqT X.K B' a vs):=by
   by_cases q:d.imm=true
   ·obtain⟨B',b1,b2,b3,b4,b5⟩:=r1.base
    obtain⟨a',vs',ea,il',hq'⟩:=aK4 (b5 d _ q i1) hds;cases ea;rw[if_pos q];exact⟨B',vs',b1,b2,il',hq'⟩
   ·rw[if_neg q]
    exact⟨H1,vs,r1.aJ0,r1.kept,il,hq⟩
  obtain⟨B',vs',k1,k2,k3,k4⟩:=key;rcases k4 with k4 | k4
  ·exact .inl ⟨a,rfl,⟨_,k1.kept.seq k4⟩,k _ H1 ds _ ⟨B',aMr k4 k3,k1,k2⟩ h1⟩
  ·exact .inr ⟨a,rfl,⟨_,SqT.mono k1.kept k4⟩,k _ H1 ds _ ⟨B',aRg k4 k3,k1,k2⟩ h1⟩
 ·exact Qd h1
def aPm (f:Rho->M D)(G:D->Rho->Option Rho)(F:Rho->Option Out):Rho->Option Out:=fun ρ=>lft (f ρ) ρ fun d=>match d with
 | .int j=>if j<2^62/\ -(2^62)<=j then loop G F (rng 0 j.toNat) ρ else none
 | _=>none
theorem bAs {a:Expr}{fa:Rho->M D}{p p1:Pos}(hgl:Gl X "range")(hm:X.mg "range"=none)(hp:PassesOwn (Qp X.prog X.w) X.A X.env X.xe)(hc:X.calm=true)(he:PD X B a fa)(hg: ∀B,PDG X B tg G)(hb: ∀B,PDB X B body F)
  (hst:Qu [a] X.env=[(false,eval a X.env)]:=by exact aHy rfl) (hs: ∀y,Zp (.Call (.Name "range" p) [a] [] p1) X.env y=pure y:=by intro _;rfl):PDS X B (.For tg (.Call (.Name "range" p) [a] [] p1) body [] pos) (aPm fa G F):=by
 refine aIn hp hc (aM8 hgl hm (aBx he aD4 hst) hst) hg hb (fun E σ H R h k=> ?_) hs;obtain⟨ρ,r,h⟩:=h;refine⟨ρ,r,(aCh r h).imp fun d h1 v H1 e1 i1=> ?_⟩;cases i1<;>first | exact Qd h1 | skip
 rename_i j
 dsimp only at h1
 split at h1
 ·rename_i hj
  obtain⟨B',b1,b2,b3,b4,b5⟩:=(r.mono e1).base;exact⟨j,rfl,hj.2,hj.1,k _ H1 _ ρ ⟨B',aVj 0 j.toNat B',b1,b2⟩ h1⟩
 ·exact Qd h1
def aWm (f g:Rho->M D)(G:D->Rho->Option Rho)(F:Rho->Option Out):Rho->Option Out:=fun ρ=>lft (f ρ) ρ fun d=>lft (g ρ) ρ fun d2=>match d,d2 with
 | .int i,.int j=>if (-(2^62)<=i/\i<2^62/\ -(2^62)<=j/\j<2^62) then loop G F (rng i (j-i).toNat) ρ else none
 | _,_=>none
theorem bAr {a b:Expr}{fa fb:Rho->M D}{p p1:Pos}(hgl:Gl X "range")(hm:X.mg "range"=none)(hp:PassesOwn (Qp X.prog X.w) X.A X.env X.xe)(hc:X.calm=true)(he:PD X B a fa)(he2:PD X B b fb)(hg: ∀B,PDG X B tg G)(hb: ∀B,PDB X B body F)
  (hst:Qu [a,b] X.env=[(false,eval a X.env),(false,eval b X.env)]:=by exact aOb rfl rfl) (hst2:Qu [b] X.env=[(false,eval b X.env)]:=by exact aHy rfl) (hs: ∀y,Zp (.Call (.Name "range" p) [a,b] [] p1) X.env y=pure y:=by intro _;rfl):PDS X B (.For tg (.Call (.Name "range" p) [a,b] [] p1) body [] pos) (aWm fa fb G F):=by
 refine aIn hp hc (bAk hgl hm (aBx he (aBx he2 aD4 hst2) (by rw[hst,hst2])) hst hst2) hg hb (fun E σ H R h k=> ?_) hs;obtain⟨ρ,r,h⟩:=h;refine⟨ρ,r,(aCh r h).imp fun d h1 v H1 e1 i1=>⟨ρ,r.mono e1,(aCh (r.mono e1) h1).imp fun d2 h2 v2 H2 e2 i2=> ?_⟩⟩;cases i1<;>first | exact Qd h2 | skip
 cases i2<;>first | exact Qd h2 | skip
 rename_i i j
 dsimp only at h2
 split at h2
 ·rename_i hj
  obtain⟨B',b1,b2,b3,b4,b5⟩:=((r.mono e1).mono e2).base;exact⟨i,j,rfl,hj,k _ H2 _ ρ ⟨B',aVj i (j-i).toNat B',b1,b2⟩ h2⟩
 ·exact Qd h2
end
def putD (f:Str)(v:D):List (Str×D)->List (Str×D)
 | []=> [(f,v)]
 |(g,x)::r=>if g=f then (g,v)::r else (g,x)::putD f v r
section
variable {X:Cx}{B:Hp}{e:Expr}{fa:Rho->M D}{pos pos' p:Pos}{x f:Str}
def putAt (cs:Addr->Bool)(i:Nat)(f:Str)(d:D)(ρ:Rho):Option Out:=match ρ[i]? with
 | some (some (.oin a C dx fs))=>if cs C=true/\fs.length<1000 then some (.nx (ρ.set i (some (.oin a C dx (putD f d fs))))) else none
 | _=>none
end
def aBu (N:List Str)(ds:List D):Rho:=ds.map (fun d=>some (.sh d))++Q9 (N.length-ds.length) none
def aA0:Option Out->M D
 | some (.rt d)=>ok d
 | some (.nx _)=>ok .non
 | some (.ex c _)=>err c
 | _=>none
theorem aOs {α β:Type}{f:α->β}: ∀{l:List α} {r:List β} {i:Nat} {b:β},(l.map f++r)[i]? =some b->(∃a,l[i]? =some a/\b=f a)\/(l.length<=i/\r[i-l.length]? =some b)
 | l,r,i,b,h=>by
  by_cases q:i<l.length
  ·rw[Ze (by simpa using q),Zm] at h
   obtain⟨a,e1,e2⟩:=Option.map_eq_some_iff.mp h;exact .inl ⟨a,e1,e2.symm⟩
  ·rw[Zi (by simpa using q),Qi] at h
   exact .inr ⟨by omega,h⟩
theorem aZs {N:List Str}{vs:List V}{i:Nat}{v:V}(h:vs[i]? =some v):(start N vs)[i]? =some (some v):=by
 unfold start;have q:i<vs.length:=(List.getElem?_eq_some_iff.mp h).1;rw[Ze (by simpa using q),Zm,h];rfl
theorem aLt {N:List Str}{vs:List V}(h:vs.length<=N.length):(start N vs).length=N.length:=by
 unfold start;rw[Ql,Qi,J4];omega
theorem aUt {N:List Str}{ds:List D}(h:ds.length<=N.length):(aBu N ds).length=N.length:=by
 unfold aBu;rw[Ql,Qi,J4];omega
theorem aH9 {K:Qa}{H:Hp}{N:List Str}{ds:List D}{vs:List V}(i:IsL K H ds vs)(hl:ds.length<=N.length):Rel K H (aBu N ds) (start N vs) H:=by
 have e0:Off H (fun _=>none)=H:=by funext b;unfold Off;rw[if_neg (fun⟨i,e⟩=>nomatch e)]
 refine⟨fun _=>none,(by intro _ _ _ q;cases q),(by intro _ _ q;cases q),by rw[e0];exact Same.refl _,by rw[aUt hl,aLt (by rw[<-i.length];exact hl)],fun j sv q=> ?_⟩;unfold aBu at q;rcases aOs q with⟨d,e1,e2⟩ |⟨_,e2⟩
 ·cases e2
  obtain⟨v,h1,h2⟩:=i.get e1;exact⟨v,aZs h1,by rw[e0];exact h2⟩
 ·rw[Yd] at e2
  split at e2<;>cases e2
section
variable {P:Qv}{w:Q8}{K:Qa}{mg:Str->Option Qc}{base:Heap}
abbrev cxN (P:Qv)(w:Q8)(K:Qa)(mg:Str->Option Qc)(base:Heap)(N:List Str)(qual:Str)(scope:Scope)(f:Addr)(cd:Qc)(A:Zb)(outer:List Env)(s:Qe)(H:Hp)(E:XK):Cx:=
 (bKq (CXD P w) P w K mg base N qual scope f cd A outer s H E).nox
theorem aP2 {x qual:Str}{st:Stmt}{f:Addr}{fd:Z9}{N ps:List Str}{k:Nat}{F:List D->M D}(Fu:Fun K x qual st f fd)(S:aBg N ps (aAp st))(hL: ∀ds r,F ds=some r->ds.length=ps.length)
  (hbody: ∀(cdv:Qc) (A:Zb) (outer:List Env) (s:Qe) (H:Hp) (E:XK),aFz k (A.deeper (envOfC qual (aAp st) s.heap.objs.size f cdv))->
   ∃F',(∀B,PDB (cxN P w K mg base N qual (aAp st) f cdv A outer s H E) B (aCu st) F')/\∀ds r,F ds=some r->∃d,r= .ok d/\aA0 (F' (aBu N ds))=ok d):FnD P w K mg base (k+1) f fd ps F:=by
 obtain⟨oc,od,kV,doc,pm,an,cdv,ct,osl,rfl,lk,hcd⟩:=Fu.ex;refine bFo lk hcd S (fun vs H Q E ⟨ds,i,hl,_⟩=>hl) fun A outer s H vs Q E hr hsp=> ?_
 obtain⟨F',hF,hq⟩:=hbody cdv A outer s H E hr;refine⟨_,(hF H).nox,?_⟩;obtain⟨ds,i,hl,h⟩:=hsp;have hn:ps.length<=N.length:=by have:=congrArg J1 S.pre;rw[Za] at this;omega
 cases q:F ds with
 | none=>rw[q] at h;exact Qd h
 | some r=>
  rw[q] at h;obtain⟨d,rfl,e⟩:=hq ds r q;refine⟨aBu N ds,aH9 i (by rw[i.length,hl];exact hn),?_⟩;cases qf:F' (aBu N ds) with
  | none=>rw[qf] at e;cases e
  | some o=>
   rw[qf] at e;cases o with
   | rt d'=>have:=aCr e;subst this;exact fun v H' s' i'=>h v H' s' i'
   | nx ρ=>have:=aCr e;subst this;exact fun σ' H' r'=>h _ H' r'.kept .non
   | bk ρ=>cases e
   | ct ρ=>cases e
   | ex c ρ=>cases e
end
theorem aAj {F G:Rho->Option Out}{ρ ρ':Rho}(h:F ρ=some (.nx ρ')):aAk F G ρ=G ρ':=by unfold aAk;rw[h]
theorem aBl {F G:Rho->Option Out}{ρ:Rho}{d:D}(h:F ρ=some (.rt d)):aAk F G ρ=some (.rt d):=by unfold aAk;rw[h]
theorem aDo {t:Rho->M Bool}{F G:Rho->Option Out}{ρ:Rho}(h:t ρ=ok true):sIf t F G ρ=F ρ:=by unfold sIf;rw[h];rfl
theorem aJo {t:Rho->M Bool}{F G:Rho->Option Out}{ρ:Rho}(h:t ρ=ok false):sIf t F G ρ=G ρ:=by unfold sIf;rw[h];rfl
theorem aC0 {f:Rho->M D}{ρ:Rho}{d:D}(h:f ρ=ok d):aBw f ρ=some (.rt d):=by unfold aBw;rw[h];rfl
theorem aUs {i:Nat}{f:Rho->M D}{ρ:Rho}{d:D}(h:f ρ=ok d):aB6 i f ρ=some (.nx (aQl i d ρ)):=by unfold aB6;rw[h];rfl
theorem aMl {i:Nat}{d:D}{ρ:Rho}(h:d.imm=true):aQl i d ρ=ρ.set i (some (.sh d)):=by unfold aQl;rw[if_pos h]
theorem aZ4 {f:Rho->M D}{G:D->Rho->Option Rho}{F:Rho->Option Out}{ρ:Rho}{j:Int}(h:f ρ=ok (.int j))(h1:j<2^62)(h2: -(2^62)<=j):aPm f G F ρ=loop G F (rng 0 j.toNat) ρ:=by
 unfold aPm;rw[h,aDq]
 dsimp only
 rw[if_pos ⟨h1,h2⟩]
theorem aQs {f:Rho->M D}{G:D->Rho->Option Rho}{F:Rho->Option Out}{ρ:Rho}{d:D}{ds:List D}(h:f ρ=ok d)(h1:itD d=ok ds):aM4 f G F ρ=loop G F ds (if d.imm=true then ρ else free ρ):=by
 unfold aM4;rw[h,aDq,h1];rfl
mutual
def D.dep:D->Nat
 | .tup ds=>bKo ds+1
 | .lst ds=>bKo ds+1
 | _=>0
def bKo:List D->Nat
 | []=>0
 | d::ds=>max d.dep (bKo ds)
end
mutual
def D.pl:D->Bool
 | .tup ds=>decide (ds.length<=100000)&&plL ds
 | .lst ds=>decide (ds.length<=100000)&&plL ds
 | .obj _ _=>false
 | .dk _=>false
 | .dt _=>false
 | .exc _=>false
 | .set _=>false
 | .dz _=>false
 | .opq=>false
 | .fn _=>false
 | .clo _ _=>false
 | _=>true
def plL:List D->Bool
 | []=>true
 | d::ds=>d.pl&&plL ds
end
open Classical in
def tt (S:List D->Prop):List D->M D:=fun ds=>if S ds then ok (.bl true) else none
theorem bO9 {S:List D->Prop}{ds:List D}(h:S ds):tt S ds=ok (.bl true):=by unfold tt;rw[if_pos h]
theorem bGm {S:List D->Prop}{ds:List D}{r:Except Addr D}(h:tt S ds=some r):S ds/\r= .ok (.bl true):=by
 unfold tt at h;split at h
 ·rename_i q;exact⟨q,(Option.some.inj h).symm⟩
 ·cases h
theorem intBits_le {a:Int}{k:Nat}(h:a.natAbs<2^k):Builtin.Int.intBits a<=k:=by
 unfold Builtin.Int.intBits;split
 ·exact Ye _
 ·rename_i q
  have hz:a.natAbs≠0:=by intro z;apply q;simp_all
  have:=(Nat.log2_lt hz).mpr h;omega
theorem bJo {i j:Int}(hi:i.natAbs<2^1048576)(hj:j.natAbs<2^1048576):bG6 i j=true:=by
 unfold bG6;rw[Qw];exact⟨decide_eq_true (intBits_le hi),decide_eq_true (intBits_le hj)⟩
theorem bEb {n m k:Nat}(h:n<2^m)(q:m<=k):n<2^k:=Q2 h (Nat.pow_le_pow_right (by decide) q)
theorem aBk {F:List D->M D}{g:Rho->M (List D)}{ρ:Rho}{ds:List D}(h:g ρ=ok ds):app F g ρ=F ds:=by
 unfold app;rw[h,aBj]
theorem aAf {f:Rho->M D}{g:Rho->M (List D)}{ρ:Rho}{d:D}{ds:List D}(h1:f ρ=ok d)(h2:g ρ=ok ds):aAb f g ρ=ok (d::ds):=by
 unfold aAb;rw[h1,aBj,h2,aBj]
theorem aBq {ρ:Rho}:aAn ρ=ok []:=rfl
theorem aHp {g:Rho->M (List D)}{ρ:Rho}{ds:List D}(h:g ρ=ok ds)(hl:ds.length<=1000:=by simp):mkT g ρ=ok (.tup ds):=by
 unfold mkT;rw[h,aBj,if_pos hl]
theorem bG8 {g:Rho->M (List D)}{ρ:Rho}{ds:List D}(h:g ρ=ok ds)(hl:ds.length<=1000:=by simp):mkL g ρ=ok (.lst ds):=by
 unfold mkL;rw[h,aBj,if_pos hl]
theorem aAs {g:D->D->M D}{fa fb:Rho->M D}{ρ:Rho}{x y:D}{r:M D}(h1:fa ρ=ok x)(h2:fb ρ=ok y)(h3:g x y=r):b2 g fa fb ρ=r:=by
 unfold b2;rw[h1,aBj,h2,aBj,h3]
theorem aQg {f:Rho->M D}{ρ:Rho}{d:D}{b:Bool}(h:f ρ=ok d)(q:tru d=ok b):test f ρ=ok b:=by unfold test;rw[h,aBj,q]
theorem aA4 {f:Rho->M D}{ρ:Rho}{b:Bool}(h:f ρ=ok (.bl b)):aAm f ρ=ok b:=by unfold aAm;rw[h,aBj];rfl
theorem aRb {f:Rho->M Bool}{ρ:Rho}{b:Bool}(h:f ρ=ok b):aZb f ρ=ok (!b):=by unfold aZb;rw[h,aBj]
theorem aK9 {P:Qv}{w:Q8}{K:Qa}{mg:Str->Option Qc}{base:Heap}{k:Nat}{f:Addr}{fd:Z9}{ps:List Str}{F:List D->M D}(h: ∀ds,F ds=none):FnD P w K mg base k f fd ps F:=by
 have no: ∀vs H Q E,¬spD K ps.length F vs H Q E:=fun vs H Q E ⟨ds,_,_,q⟩=>by rw[h ds] at q;exact q
 exact⟨fun vs H Q E q=>absurd q (no vs H Q E),fun A outer s H args us vs Q E _ _ _ _ q=>absurd q (no vs H Q E)⟩
abbrev cxC (X:Cx)(scope:Scope)(cl:List (Str×Addr))(N:List Str)(C:Addr)(s₀:Qe)(H₀:Hp)(ex:List Addr):Cx:=
 {X with env:=compEnvC scope cl C X.env,N:=N,s₀:=s₀,H₀:=H₀,outer:=X.stack,ex:=ex,fn:=fun _=>false,pn:=[],xe:=fun _ _=>False}
def aOp (cl:List (Str×Addr))(env:Env):Bool:=cl.all fun p=>(env.cells.lookup p.1==some p.2)&&(env.kindOf p.1==some .cell || env.kindOf p.1==some .free)
def aYc (N N':List Str)(sc:Scope):Bool:=(Zj N.length).all fun i=>match N'[i]? with
 | some x=>((N[i]? ==some x)&&(sc.names.lookup x==some .cell || sc.names.lookup x==some .free)) ||(sc.names.lookup x==none)
 | none=>false
def aVu (cl:List (Str×Addr))(sc:Scope):Bool:=sc.names.all fun p=>(p.2 != .cell&&p.2 != .free) ||(cl.lookup p.1).isSome
theorem lookup_mem {α β:Type}[BEq α][LawfulBEq α]: ∀{l:List (α×β)} {x:α} {b:β},l.lookup x=some b->(x,b)∈l
 | [],_,_,h=>by simp at h
 |(y,c)::l,x,b,h=>by
  rw[J5] at h;cases q:x==y with
  | true=>rw[q] at h;simp at h;subst h;have:=LawfulBEq.eq_of_beq q;subst this;exact Qq
  | false=>rw[q] at h;exact Qm _ (lookup_mem h)
theorem aGy {prog:Qv}{w:Q8}{A:Zb}{R:Result->Qe->Prop}{s:Qe}{elt target iter:Expr}{ifs:List Expr}{scope:Scope}{pos:Pos}{it acc:Qc}{env:Env}(I:Nat->Qe->Prop)
  (turn: ∀n s,I n s->Qs (Qp prog w) A (pyNext it) (fun r s₁=>match r with
   | none=>R (.ok .next) s₁
   | some v=>Qs (Qp prog w) A (letOwnedTupleGo target it v) (fun _ s₁'=>Qs (Qp prog w) A (assign target env v) (fun _ s₂=>
     Qs (Qp prog w) A (forIn ifs true fun c r=>if r=true then do let ok<-isTrue c env (eval c env);pure (ForInStep.yield ok) else pure (ForInStep.yield r)) (fun ok s₃=>
      if ok=true then Qs (Qp prog w) A (eval elt env) (fun x s₄=>
       Qs (Qp prog w) A (call (.builtin "list.append") [acc,x]) (fun _ s₅=> ∃m,m<n/\I m s₅) (fun _ _=>False) s₄) (fun _ _=>False) s₃
      else∃m,m<n/\I m s₃) (fun _ _=>False) s₂) (fun _ _=>False) s₁') (fun _ _=>False) s₁) (fun _ _=>False) s)
  (n:Nat) (h:I n s):codeAny (Qp prog w) A (.compLoop (.ListComp elt [⟨target,iter,ifs,0⟩] scope pos) 0 it acc env) R s:=by
 refine codeAny_loop rfl I (fun n s hI=> ?_) n h;show Qs _ A ((compTurn (.ListComp elt [⟨target,iter,ifs,0⟩] scope pos) 0 it acc env).onRaise (fun x=>do noteFrame x env;theTreesLotGoes x)) _ _ s;refine wpAny_noted ?_;rw[compTurn_list];refine Qb (wpAny_standAt (Qb (Yq (turn n s hI) (fun r s₁ h₁=> ?_) fun _ _ h'=>h'.elim)));cases r with
 | none=>exact Qf h₁
 | some v=>
  refine Qb (Yq h₁ (fun _ s₁' h₁'=> ?_) fun _ _ h'=>h'.elim);refine Qb (Yq h₁' (fun _ s₂ h₂=>Qb (Yq h₂ (fun ok s₃ h₃=> ?_) fun _ _ h'=>h'.elim)) fun _ _ h'=>h'.elim);cases ok with
  | false=>exact Qf ⟨rfl,h₃⟩
  | true=>
   exact Qb (Qb (Yq h₃ (fun x s₄ h₄=>Qb (Yq h₄ (fun _ s₅ h₅=>Qf (Qf ⟨rfl,h₅⟩)) fun _ _ h'=>h'.elim)) fun _ _ h'=>h'.elim))
def PIf (X:Cx)(B:Hp)(ifs:List Expr)(ft:Rho->M Bool):Prop:=(ifs=[]/\ft=fun _=>ok true)\/∃c,ifs=[c]/\PDT X B c ft
def aUd (σ:St):List Nat->List V->St
 | k::ks,v::vs=>aUd (σ.set k (some v)) ks vs
 | _,_=>σ
def bDw (ρ:Rho):List Nat->List D->Rho
 | k::ks,d::ds=>bDw (ρ.set k (some (.sh d))) ks ds
 | _,_=>ρ
def PDH (X:Cx)(tg:Expr)(ks:List Nat)(G:D->Option (List D)):Prop:=
 PG X tg (fun v σ H Q=> ∃d es,Is X.K H d v/\G d=some es/\∀vs,IsL X.K H es vs->vs.length=ks.length->Q (aUd σ ks vs) H)
def aJ3 (ks:List Nat)(G:D->Option (List D))(ft:Rho->M Bool)(fe:Rho->M D):List D->Rho->M (List D)
 | [],_=>ok []
 | d::ds,ρ=>match G d with
  | none=>none
  | some es=>match ft (bDw ρ ks es) with
   | some (.ok true)=>(match fe (bDw ρ ks es) with
    | some (.ok r)=>if r.imm=true then bnd (aJ3 ks G ft fe ds ρ) fun rs=>ok (r::rs) else none
    | _=>none)
   | some (.ok false)=>aJ3 ks G ft fe ds ρ
   | _=>none
def ext (m:Nat)(ρ:Rho):Rho:=ρ++Q9 m none
def cmp (m:Nat)(it:Rho->M (List D))(ks:List Nat)(G:D->Option (List D))(ft:Rho->M Bool)(fe:Rho->M D):Rho->M D:=fun ρ=>
 bnd (it ρ) fun ds=>if ds.length<=1000000 then bnd (aJ3 ks G ft fe ds (ext m (free ρ))) fun rs=>ok (.lst rs) else none
theorem aLi {ks:List Nat}{G:D->Option (List D)}{ft:Rho->M Bool}{fe:Rho->M D}: ∀{ds:List D} {ρ:Rho} {c:Addr},aJ3 ks G ft fe ds ρ≠some (.error c)
 | [],ρ,c=>fun h=>by cases h
 | d::ds,ρ,c=>fun h=>by
  unfold aJ3 at h;split at h
  ·cases h
  ·split at h
   ·split at h
    ·split at h
     ·cases q:aJ3 ks G ft fe ds ρ with
      | none=>rw[q] at h;cases h
      | some z=>
       cases z with
       | error c'=>exact aLi q
       | ok z=>rw[q] at h;cases h
     ·cases h
    ·cases h
   ·exact aLi h
   ·cases h
theorem aJr: ∀(a b:List D),aCo (a++b)=(aCo a&&aCo b)
 | [],b=>by simp[aCo]
 | d::a,b=>by
  show (d.imm&&aCo (a++b))=((d.imm&&aCo a)&&aCo b);rw[aJr a b,Bool.and_assoc]
theorem aJn: ∀{ks:List Nat} {σ:St} {vs:List V},(aUd σ ks vs).length=σ.length
 | [],σ,vs=>by cases vs<;>rfl
 | k::ks,σ,[]=>rfl
 | k::ks,σ,v::vs=>by
  show (aUd (σ.set k (some v)) ks vs).length=_;rw[aJn,Q3]
theorem aMm: ∀{ks:List Nat} {σ:St} {vs:List V} {i:Nat},i∉ks->(aUd σ ks vs)[i]? =σ[i]?
 | [],σ,vs,i,_=>by cases vs<;>rfl
 | k::ks,σ,[],i,_=>rfl
 | k::ks,σ,v::vs,i,h=>by
  show (aUd (σ.set k (some v)) ks vs)[i]? =_;rw[aMm (fun z=>h (Qm _ z)),Qh (fun z=>h (by rw[z];exact Qq))]
def Shr (K:Qa)(H:Hp)(ρ:Rho)(σ:St):Prop:=ρ.length=σ.length/\∀(i:Nat) (sv:SV),ρ[i]? =some (some sv)->∃d v,sv= .sh d/\σ[i]? =some (some v)/\Is K H d v
theorem Shr.rel {K:Qa}{H:Hp}{ρ:Rho}{σ:St}(h:Shr K H ρ σ):Rel K H ρ σ H:=by
 have e0:Off H (fun _=>none)=H:=by funext b;unfold Off;rw[if_neg (fun⟨i,e⟩=>nomatch e)]
 refine⟨fun _=>none,(by intro _ _ _ q;cases q),(by intro _ _ q;cases q),by rw[e0];exact Same.refl _,h.1,fun i sv q=> ?_⟩;obtain⟨d,v,rfl,e1,e2⟩:=h.2 i sv q;exact⟨v,e1,by rw[e0];exact e2⟩
theorem Shr.mono {K:Qa}{H H':Hp}{ρ:Rho}{σ:St}(e:Same H H')(h:Shr K H ρ σ):Shr K H' ρ σ:=⟨h.1,fun i sv q=>by
 obtain⟨d,v,e0,e1,e2⟩:=h.2 i sv q;exact⟨d,v,e0,e1,e2.mono e⟩⟩
theorem Shr.free {K:Qa}{B H:Hp}{ρ:Rho}{σ:St}(r:Rel K B ρ σ H):Shr K H (free ρ) σ:=by
 refine⟨?_,fun i sv q=> ?_⟩
 ·obtain⟨_,_,_,_,hl,_⟩:=r.freed;exact hl
 ·unfold PU.free at q
  rw[Zm] at q;obtain⟨o,e1,e2⟩:=Option.map_eq_some_iff.mp q;cases o with
  | none=>cases e2
  | some sv0=>
   have e2':sv0.rel=sv:=Option.some.inj e2;subst e2';obtain⟨v,e3,e4⟩:=r.get e1;exact⟨sv0.cur,v,by cases sv0<;>rfl,e3,e4⟩
theorem Shr.more {K:Qa}{H:Hp}{ρ:Rho}{σ:St}(m:Nat)(h:Shr K H ρ σ):Shr K H (ext m ρ) (σ++Q9 m none):=by
 refine⟨by unfold ext;simp[h.1],fun i sv e=> ?_⟩;have e':ρ[i]? =some (some sv):=by
  unfold ext at e;by_cases hi:i<ρ.length
  ·rw[Ze hi] at e;exact e
  ·rw[Zi (by omega),Yd] at e
   split at e<;>cases e
 have hi:i<σ.length:=by rw[<-h.1];exact (List.getElem?_eq_some_iff.mp e').1
 obtain⟨d,v,e0,e1,e2⟩:=h.2 i sv e';exact⟨d,v,e0,by rw[Ze hi];exact e1,e2⟩
theorem Shr.set {K:Qa}{H:Hp}{ρ:Rho}{σ:St}{k:Nat}{d:D}{v:V}(h:Shr K H ρ σ)(i:Is K H d v):Shr K H (ρ.set k (some (.sh d))) (σ.set k (some v)):=by
 refine⟨by rw[Q3,Q3,h.1],fun j sv e=> ?_⟩;by_cases q:j=k
 ·subst q
  have hj:j<ρ.length:=by
   have:=(List.getElem?_eq_some_iff.mp e).1
   rwa [Q3] at this
  rw[Q6 hj] at e;have e':=Option.some.inj (Option.some.inj e);exact⟨d,v,e'.symm,Q6 (by rw[<-h.1];exact hj),i⟩
 ·rw[Qh (Ne.symm q)] at e
  obtain⟨d',v',e0,e1,e2⟩:=h.2 j sv e;exact⟨d',v',e0,by rw[Qh (Ne.symm q)];exact e1,e2⟩
theorem Shr.bGr {K:Qa}{H:Hp}: ∀{ks:List Nat} {ρ:Rho} {σ:St} {ds:List D} {vs:List V},Shr K H ρ σ->IsL K H ds vs->Shr K H (bDw ρ ks ds) (aUd σ ks vs)
 | [],ρ,σ,ds,vs,h,i=>by cases i<;>exact h
 | k::ks,ρ,σ,_,_,h,.nil=>h
 | k::ks,ρ,σ,d::ds,v::vs,h,.cons i r=>by
  show Shr K H (bDw (ρ.set k (some (.sh d))) ks ds) (aUd (σ.set k (some v)) ks vs);exact Shr.bGr (ks:=ks) (h.set (k:=k) i) r
section
variable {X:Cx}{B:Hp}{scope:Scope}{cl:List (Str×Addr)}{N':List Str}{m:Nat}
theorem aWe {env:Env}(hf:aVu cl (relabel scope env)=true){x:Str}{k:NameKind}(hk:(relabel scope env).names.lookup x=some k)(hc:k= .cell\/k= .free): ∃c,cl.lookup x=some c:=by
 have h:=List.all_eq_true.mp hf _ (lookup_mem hk)
 dsimp only at h
 rw[Z1] at h;rcases h with h | h
 ·rcases hc with rfl | rfl<;>simp at h
 ·exact Option.isSome_iff_exists.mp h
theorem aP6 {pins:List (Addr×Obj)}{σ:St}{H:Hp}{s:Qe}{fp:List Addr}{h₁:Heap}{tk:Nat}(I:Inv X pins σ H s)(hkind:scope.kind= .function)(hcl:aOp cl X.env=true)(hnm:aYc X.N N' (relabel scope X.env)=true)(hf:aVu cl (relabel scope X.env)=true)(hl:N'.length=X.N.length+m)
  (hfp: ∀b∈fp,bC6 X pins H b/\b<s.heap.objs.size) (hk: ∀b o,s.heap.get? b=some o->h₁.get? b=some o) {mm:Str->Option Qc} (hns:h₁.Ns s.heap.objs.size mm):
  Inv (cxC X scope cl N' s.heap.objs.size s H fp) [] (σ++Q9 m none) H {s with heap:=h₁,toks:=tk}:=by
 have sub: ∀x c,cl.lookup x=some c->X.env.cells.lookup x=some c/\(X.env.kindOf x=some .cell\/X.env.kindOf x=some .free):=fun x c e=>by
  have h:=List.all_eq_true.mp hcl _ (lookup_mem e)
  dsimp only at h
  rw[Qw,Z1] at h;exact⟨beq_iff_eq.mp h.1,h.2.elim (fun z=> .inl (beq_iff_eq.mp z)) fun z=> .inr (beq_iff_eq.mp z)⟩
 have bKc: ∀b∈fp,b∉frs X.stack:=fun b hb z=>by
  rcases List.mem_cons.mp (I.aSj b z) with e | e
  ·exact (hfp b hb).1.2.1 e
  ·exact (hfp b hb).1.2.2.1 e
 refine⟨⟨I.ok.mod,hkind,I.ok.glob,I.ok.blt,Qr _,fun x y c h1 h2=>I.ok.inj x y c (sub x c h1).1 (sub y c h2).1,fun x hx=> ?_,(fun x c h=>by cases h),I.ok.hd,I.ok.frames,.inl rfl,fun b hb=> ?_,I.bs,Z2 I.ok.bsz I.sz,fun b o e hb=> ?_,bKc,I.stack,I.aKy⟩,
  rfl,I.bare,Un.kept hk,⟨mm,hns,fun i x v h1 h2 h3=> ?_⟩,fun x c e=> ?_,I.hok.fresh (Qr _),fun x c e=>I.aHz x c (sub x c e).1,(fun p hp=>by cases hp),I.hok.kept hk,?_⟩
 ·rcases hx with hx | hx
  ·exact aWe hf hx (.inl rfl)
  ·exact aWe hf hx (.inr rfl)
 ·exact⟨Q1 (hfp b hb).2,fun x c e=>(hfp b hb).1.2.2.2.2.1 x c (sub x c e).1⟩
 ·rcases (hfp b hb).1.2.2.2.1 with z | z
  ·exact I.ok.bG4 b o e z
  ·exact absurd (Q2 (Qo e) (Z2 I.ok.bsz z)) (Jn _)
 ·--a name of the outer def
  have hi:i<σ.length:=by
   by_cases hi:i<σ.length
   ·exact hi
   ·rw[Zi (by omega),Yd] at h2
    split at h2<;>cases h2
  rw[Ze hi] at h2;have hiN:i<X.N.length:=by rw[<-I.len];exact hi
  have hn:=List.all_eq_true.mp hnm i (List.mem_range.mpr hiN)
  (try dsimp only at h1)
  (try dsimp only at hn)
  rw[h1] at hn
  (try dsimp only at hn)
  rw[Z1] at hn;have bSt: ∃k,(relabel scope X.env).names.lookup x=some k:=by
   rcases h3 with h | h | h
   ·exact⟨_,h⟩
   ·exact⟨_,h⟩
   ·exact⟨_,h⟩
  obtain⟨kx,hkx⟩:=bSt;rcases hn with hn | hn
  ·rw[Qw,Z1] at hn
   have hXN:X.N[i]? =some x:=beq_iff_eq.mp hn.1;have hcf:(relabel scope X.env).names.lookup x=some .cell\/(relabel scope X.env).names.lookup x=some .free:=hn.2.elim (fun z=> .inl (beq_iff_eq.mp z)) fun z=> .inr (beq_iff_eq.mp z)
   obtain⟨c,hc⟩: ∃c,cl.lookup x=some c:=hcf.elim (fun z=>aWe hf z (.inl rfl)) fun z=>aWe hf z (.inr rfl)
   obtain⟨m0,hm0,lk⟩:=I.loc;have hk0:=(sub x c hc).2;obtain⟨u,ru,lu⟩:=lk i x v hXN h2 (hk0.elim (fun z=> .inr (.inl z)) fun z=> .inr (.inr z));refine⟨u,ru,.inr ⟨hcf,c,hc,?_⟩⟩;rcases lu with⟨z1,_⟩ |⟨_,c',e1,o,ho,hd⟩
   ·rcases hk0 with z | z<;>rw[z] at z1<;>cases z1
   ·rw[(sub x c hc).1] at e1
    cases e1;exact⟨o,hk _ _ ho,hd⟩
  ·have e:=beq_iff_eq.mp hn
   rw[hkx] at e;cases e
 ·obtain⟨v,z⟩:=I.cell x c (sub x c e).1
  obtain⟨o,ho,hd⟩:=z;exact⟨v,o,hk _ _ ho,hd⟩
 ·show (σ++Q9 m none).length=N'.length
  rw[Ql,J4,I.len,hl]
variable {x:Str}{tg iter elt:Expr}{ifs:List Expr}{pos:Pos}{ks:List Nat}{G:D->Option (List D)}{ft:Rho->M Bool}{fe:Rho->M D}{it:Rho->M (List D)}
def PIt (X:Cx)(B:Hp)(tg iter:Expr)(it:Rho->M (List D)):Prop:=
 ∀(pins:List (Addr×Obj)) (s:Qe) (σ:St) (H:Hp) (R:It->Hp->Prop) (ρ:Rho),Inv X pins σ H s->Rel X.K B ρ σ H->
  Res X σ H (fun ds=> ∀J H1,Same H H1->ItD X.K J ds H1->R J H1) (it ρ)->
  Qs (Qp X.prog X.w) X.A (eval iter X.env) (fun v s1=>Qs (Qp X.prog X.w) X.A (pyIter v) (PIE X pins σ tg R) X.xe s1) X.xe s
def bQ2 (X:Cx)(pins:List (Addr×Obj))(C:Addr):Prop:=(C∈X.ex\/X.s₀.heap.objs.size<=C)/\C≠X.env.locals/\(∀x c,X.env.cells.lookup x=some c->c≠C)/\∀p∈X.pn++pins,p.1≠C
theorem none_of {H H':Hp}{a:Addr}(e:Same H H')(h:H' a=none):H a=none:=by
 cases q:H a with
 | none=>rfl
 | some o=>rw[e _ _ q] at h;cases h
theorem bCl (hclos:closureFor scope X.env=pure cl)(hcell: ∀y∈scope.names,y.2≠ .cell)(hkind:scope.kind= .function)(hnames: ∀y∈scope.names,y.2= .local->scope.names.lookup y.1=some .local)(hcl:aOp cl X.env=true)
  (hnm:aYc X.N N' (relabel scope X.env)=true) (hf:aVu cl (relabel scope X.env)=true) (hl:N'.length=X.N.length+m) (hks: ∀k∈ks,X.N.length<=k) (hcm:X.calm=true) (hi:PIt X B tg iter it)
  (hg: ∀C s₀ H₀ ex,PDH (cxC X scope cl N' C s₀ H₀ ex) tg ks G) (ht: ∀C s₀ H₀ ex B,PIf (cxC X scope cl N' C s₀ H₀ ex) B ifs ft) (he: ∀C s₀ H₀ ex B,PD (cxC X scope cl N' C s₀ H₀ ex) B elt fe)
  (hs: ∀x,Zp iter X.env x=pure x) {p0:Pos} {use:Option (Qc->Sem Unit)} {Q':Qc->Qe->Prop} {Kp:List D->Prop} {pins:List (Addr×Obj)} {s:Qe} {σ:St} {H:Hp} {ρ:Rho} (I:Inv X pins σ H s) (r:Rel X.K B ρ σ H) (h:Res X σ H (fun d=> ∀rs,d= .lst rs->Kp rs) (cmp m it ks G ft fe ρ))
  (fin: ∀(Dd Cc:Addr) (s3:Qe) (Hj:Hp) (rs:List D),(∀h',Yw Cc s3.heap h'->Inv X pins σ Hj {s3 with heap:=h'})->(∃m,s3.heap.Ns Cc m)->bQ2 X pins Cc->Hj Cc=none->Same H Hj->H Dd=none->aCo rs=true->(∃vs,Hj Dd=some (.lst vs)/\IsL X.K Hj rs vs)->Kp rs->
   compPost (Qp X.prog X.w) X.A X.xe use Q' (.ref Dd) Cc (.ok .next) s3):
  Qs (Qp X.prog X.w) X.A (comprehension (.ListComp elt [⟨tg,iter,ifs,0⟩] scope pos) scope X.env p0 (newList []) false (eval iter X.env) use) Q' X.xe s:=by
 refine wpAny_comprehension_free (use:=use) rfl hs hclos hkind hnames ?_;show Qs (Qp X.prog X.w) X.A (eval iter X.env) _ X.xe s;refine thn (hi pins s σ H (fun J H1=> ∃ds,Same H H1/\ItD X.K J ds H1/\ds.length<=1000000/\∃rs,aJ3 ks G ft fe ds (ext m (free ρ))=ok rs/\Kp rs) ρ I r ((Res.bind h).imp fun ds h1 J H1 e1 i1=> ?_)) fun v s1 h1=>thn h1 fun itv s2 h2=> ?_
 ·split at h1
  ·rename_i hlen
   refine⟨ds,e1,i1,hlen,?_⟩;have h2:=Res.bind h1;cases q:aJ3 ks G ft fe ds (ext m (free ρ)) with
   | none=>rw[q] at h2;exact Qd h2
   | some z=>
    cases z with
    | error c=>exact absurd q aLi
    | ok rs=>rw[q] at h2;exact⟨rs,rfl,h2 rs rfl⟩
  ·exact Qd h1
 obtain⟨ia,fp,tn,J,H2,rfl,I2,T,st2,f2,ds,e1,hJ,hlen,rs,hrs,hQ⟩:=h2;have bR2:Shr X.K H2 (ext m (free ρ)) (σ++Q9 m none):=((Shr.free r).mono e1).more m;have fpl: ∀b∈fp,b<s2.heap.objs.size:=fun b hb=>let ⟨o,ho,_⟩:=T.obj 0 _ st2 b hb;Qo ho
 refine Yp (wpAny_newFunctionEnv hcell (by intro y hy;simp at hy) (fun h₁ hns₁ hsb₁=> ?_) hkind)
 dsimp only at hns₁ hsb₁⊢
 have I0:Inv X pins σ (upd H2 s2.heap.objs.size (.lst [])) {s2 with heap:=s2.heap.push {cls:= .type "list",dict:=none,data:= .seq ([]:List Qc).toArray}}:=I2.bP8 (t':=s2.toks) (its:=[]) .nil (Ye _);have hsz:(s2.heap.push {cls:= .type "list",dict:=none,data:= .seq ([]:List Qc).toArray}).objs.size=s2.heap.objs.size+1:=Heap.size_push _ _;generalize hP:s2.heap.push {cls:= .type "list",dict:=none,data:= .seq ([]:List Qc).toArray}=P2 at hns₁ hsb₁ I0 hsz⊢;generalize hD:s2.heap.objs.size=Dd at*;generalize hC:P2.objs.size=Cc at*;have bSk:Dd≠Cc:=by omega
 have bJ9: ∀b o,P2.get? b=some o->h₁.get? b=some o:=fun b o e=>hsb₁.extBut b o (Q1 (by rw[<-hC];exact Qo e)) (Qg _ e)
 have bJ8: ∀b o,s2.heap.get? b=some o->P2.get? b=some o:=fun b o e=>by rw[<-hP];exact Qg _ e
 have nD2:H2 Dd=none:=I2.hok.fresh (by omega);have nC2:H2 Cc=none:=I2.hok.fresh (by omega);have sm0:Same H2 (upd H2 Dd (.lst [])):=aA5 nD2 _;have fp0: ∀b∈fp,bC6 X pins (upd H2 Dd (.lst [])) b/\b<P2.objs.size:=fun b hb=>by
  have hb':=fpl b hb;obtain⟨f0,f1⟩:=f2 b hb;exact⟨⟨by rw[aAv (Q1 hb')];exact f0,f1⟩,by rw[hC,hsz];exact Ul hb'⟩
 have IC:=aP6 (tk:=s2.toks+([]:List (Str×Qc)).length) I0 hkind hcl hnm hf hl fp0 bJ9 (by rw[hC];exact hns₁);rw[hC] at IC;have loop: ∀s₄:Qe,s₄={s2 with heap:=h₁,toks:=s2.toks+([]:List (Str×Qc)).length}->
   codeAny (Qp X.prog X.w) X.A (.compLoop (.ListComp elt [⟨tg,iter,ifs,0⟩] scope pos) 0 (.ref ia) (.ref Dd) (compEnvC scope cl Cc X.env)) (compPost (Qp X.prog X.w) X.A X.xe use Q' (.ref Dd) Cc) s₄:=by
  rintro s₄ rfl
  refine aGy (fun n s'=> ∃j Hj vs rj rest,n=ds.length+1-j/\j<=ds.length/\Inv (cxC X scope cl N' Cc {s2 with heap:=P2} (upd H2 Dd (.lst [])) fp) [] (σ++Q9 m none) Hj s'/\tn j s'.heap/\(∀b∈fp,Hj b=none)/\
   Hj Dd=some (.lst vs)/\IsL X.K Hj rj vs/\aCo rj=true/\rj.length<=j/\Same H2 Hj/\aJ3 ks G ft fe (ds.drop j) (ext m (free ρ))=ok rest/\rs=rj++rest) ?_ (ds.length+1)
   ⟨0,_,[],[],rs,rfl,Ye _,IC,T.keep _ _ _ st2 fun b hb o e=>bJ9 _ _ (bJ8 _ _ e),fun b hb=>(fp0 b hb).1.1,aAy,.nil,rfl,Qr _,sm0,by simpa using hrs,rfl⟩
  rintro n s' ⟨j,Hj,vs,rj,rest,rfl,hj,IJ,stj,frj,hDj,ilj,imj,hlj,smj,hrest,bQe⟩
  have fpX: ∀{H':Hp},(∀b∈fp,H' b=none)->∀b∈fp,bC6 (cxC X scope cl N' Cc {s2 with heap:=P2} (upd H2 Dd (.lst [])) fp) [] H' b:=fun hn b hb=>
   ⟨hn b hb,(IJ.ok.exf b hb).1,IJ.ok.bFs b hb,.inl hb,(IJ.ok.exf b hb).2,(fun p hp=>by cases hp)⟩
  by_cases hlt:j<ds.length
  ·have hd:ds.drop j=ds[j]::ds.drop (j+1):=Jv hlt
   rw[hd] at hrest;obtain⟨q0,q1,q2,q3⟩:(∃es,G ds[j]=some es)/\True/\True/\True:=by
    refine⟨?_,trivial,trivial,trivial⟩;cases q:G ds[j] with
    | none=>unfold aJ3 at hrest;rw[q] at hrest;cases hrest
    | some es=>exact⟨es,rfl⟩
   obtain⟨es,hG⟩:=q0;unfold aJ3 at hrest;rw[hG] at hrest
   dsimp only at hrest
   refine thn (T.item (cxC X scope cl N' Cc {s2 with heap:=P2} (upd H2 Dd (.lst [])) fp) rfl rfl rfl hcm j [] s' _ Hj (fun _ _=>False) IJ (fpX frj) stj (hJ.go j Hj smj hlt)) fun r s3 ⟨u,hr,h4⟩=> ?_
   subst hr;refine thn h4 fun _ s5 ⟨xv,H5,I5,r5,y5,st5,fr5⟩=> ?_
   obtain⟨e5,d,e6,e7⟩:=hJ.yld j Hj xv H5 smj y5 hlt
   replace hDj:=e5 _ _ hDj
   replace ilj:=IsL.mono e5 ilj
   replace smj:=smj.trans e5
   have ed:ds[j]=d:=by rw[Qj hlt] at e6;exact Option.some.inj e6
   rw[ed] at hG;have I5':=I5.pinned (fpX fr5) (T.obj _ _ st5);rw[List.nil_append] at I5';refine thn (hg Cc {s2 with heap:=P2} (upd H2 Dd (.lst [])) fp _ s5 _ H5 xv u (fun σ6 H6=>H6=H5/\∃vs',IsL X.K H5 es vs'/\σ6=aUd (σ++Q9 m none) ks vs') I5' r5 ⟨d,es,e7,hG,fun vs' iv' _=>⟨rfl,vs',iv',rfl⟩⟩) fun _ s6 ⟨σ6,H6,I6,q6⟩=> ?_
   obtain⟨rfl,vs',iv',rfl⟩:=q6;have bRb:Rel X.K H6 (bDw (ext m (free ρ)) ks es) (aUd (σ++Q9 m none) ks vs') H6:=(Shr.bGr (bR2.mono smj) iv').rel;have turn: ∀(s7:Qe) (H7:Hp) (vs7:List V) (r7 bD6:List D),Inv (cxC X scope cl N' Cc {s2 with heap:=P2} (upd H2 Dd (.lst [])) fp) (aPt fp s5.heap) (aUd (σ++Q9 m none) ks vs') H7 s7->H7 Dd=some (.lst vs7)->IsL X.K H7 r7 vs7->aCo r7=true->r7.length<=j+1->Same H2 H7->
     aJ3 ks G ft fe (ds.drop (j+1)) (ext m (free ρ))=ok bD6->rs=r7++bD6->∃k,k<ds.length+1-j/\∃j' Hj vs rj rest,k=ds.length+1-j'/\j'<=ds.length/\Inv (cxC X scope cl N' Cc {s2 with heap:=P2} (upd H2 Dd (.lst [])) fp) [] (σ++Q9 m none) Hj s7/\tn j' s7.heap/\(∀b∈fp,Hj b=none)/\
     Hj Dd=some (.lst vs)/\IsL X.K Hj rj vs/\aCo rj=true/\rj.length<=j'/\Same H2 Hj/\aJ3 ks G ft fe (ds.drop j') (ext m (free ρ))=ok rest/\rs=rj++rest:=by
    intro s7 H7 vs7 r7 bD6 I7 a1 a2 a3 a4 a5 a6 a7;have pin: ∀b∈fp,∀o,s5.heap.get? b=some o->s7.heap.get? b=some o/\H7 b=none:=fun b hb o e=>
     let z:=I7.pin (b,o) (Zd _ (aIq hb e));⟨z.1,z.2.1⟩
    refine⟨ds.length+1-(j+1),by omega,j+1,H7,vs7,r7,bD6,rfl,hlt,?_,T.keep _ _ _ st5 fun b hb o e=>(pin b hb o e).1,fun b hb=> ?_,a1,a2,a3,a4,a5,a6,a7⟩
    ·have I8:Inv (cxC X scope cl N' Cc {s2 with heap:=P2} (upd H2 Dd (.lst [])) fp) [] (aUd (σ++Q9 m none) ks vs') H7 s7:=I7.aQw (fun p hp=>by cases hp)
     refine I8.weak (by rw[aJn]) fun i v e=> ?_
     rw[aMm]
     ·exact e
     ·intro hi
      have:=hks i hi;rw[Zi (by rw[I2.len];exact this),Yd] at e;split at e<;>cases e
    ·obtain⟨o,ho,_⟩:=T.obj _ _ st5 b hb
     exact (pin b hb o ho).2
   have tst:Qs (Qp X.prog X.w) X.A (forIn ifs true fun c r=>if r=true then do let ok<-isTrue c (compEnvC scope cl Cc X.env) (eval c (compEnvC scope cl Cc X.env));pure (ForInStep.yield ok) else pure (ForInStep.yield r))
     (fun bb s7=> ∃H7,Inv (cxC X scope cl N' Cc {s2 with heap:=P2} (upd H2 Dd (.lst [])) fp) (aPt fp s5.heap) (aUd (σ++Q9 m none) ks vs') H7 s7/\Same H6 H7/\ft (bDw (ext m (free ρ)) ks es)=ok bb) (fun _ _=>False) s6:=by
    rcases ht Cc {s2 with heap:=P2} (upd H2 Dd (.lst [])) fp H6 with⟨rfl,hft⟩ |⟨c,rfl,hft⟩
    ·exact wpAny_tests_nil ⟨H6,I6,Same.refl _,by rw[hft]⟩
    ·cases qt:ft (bDw (ext m (free ρ)) ks es) with
     | none=>rw[qt] at hrest;cases hrest
     | some z=>
      cases z with
      | error ce=>rw[qt] at hrest;cases hrest
      | ok bb=>
       refine wpAny_tests_one (thn (hft _ s6 _ H6 (fun b H7=>Same H6 H7/\b=bb) I6 ⟨_,bRb,by rw[qt];exact fun H7 e=>⟨e,rfl⟩⟩) fun b s7 ⟨H7,I7,e,eb⟩=> ?_);subst eb;exact⟨H7,I7,e,rfl⟩
   refine thn tst fun bb s7 ⟨H7,I7,sm7,hbb⟩=> ?_
   rw[hbb] at hrest;cases bb with
   | false=>
    rw[if_neg (by decide)];exact turn s7 H7 vs rj rest I7 (sm7 _ _ hDj) (ilj.mono sm7) imj (by omega) (smj.trans sm7) hrest bQe
   | true=>
    rw[if_pos rfl]
    dsimp only[ok] at hrest
    cases qe:fe (bDw (ext m (free ρ)) ks es) with
    | none=>rw[qe] at hrest;cases hrest
    | some z=>
     cases z with
     | error ce=>rw[qe] at hrest;cases hrest
     | ok rr=>
      rw[qe] at hrest
      dsimp only at hrest
      split at hrest
      ·rename_i him
       obtain⟨rest',er,er2⟩:=bCx hrest;have er3:=aCr er2;refine thn (he Cc {s2 with heap:=P2} (upd H2 Dd (.lst [])) fp H6 _ s7 _ H7 (fun v H8=>Same H7 H8/\Is X.K H8 rr v) I7 ⟨_,bRb.mono sm7,by rw[qe];exact fun v H8 e i=>⟨e,i⟩⟩) fun u8 s8 ⟨v8,H8,I8,rv8,sm8,i8⟩=> ?_
       have hD8:H8 Dd=some (.lst vs):=sm8 _ _ (sm7 _ _ hDj);have hlv:vs.length=rj.length:=ilj.length.symm;have il8:=(ilj.mono sm7).mono sm8;have al: ∀o,(∀b xs,H8 b=some (.tup xs)->upd H8 Dd (.lst o) b=some (.tup xs))/\(∀b oo u,H8 b=some (.frz oo u)->upd H8 Dd (.lst o) b=some (.frz oo u)):=fun o=>
        ⟨fun b xs e=>by rw[aAv (fun z=>by subst z;rw[hD8] at e;cases e)];exact e,fun b oo u e=>by rw[aAv (fun z=>by subst z;rw[hD8] at e;cases e)];exact e⟩
       refine thn (aNj _ s8 _ H8 (.ref Dd) [v8] (.ref Dd) [u8] (fun v9 H9=>H9=upd H8 Dd (.lst (vs++ [v8]))) I8 rfl (.cons rv8 .nil) ⟨Dd,vs,v8,rfl,rfl,hD8,by have:=sizeLine_eq;omega,rfl⟩) fun u9 s9 ⟨v9,H9,I9,_,e9⟩=> ?_
       subst e9;refine turn s9 _ (vs++ [v8]) (rj++ [rr]) rest' I9 aAy ((IsL.alike (al _).1 (al _).2 imj il8).append (.cons (Is.alike (al _).1 (al _).2 him i8) .nil)) ?_ (by rw[Ql];simp only[Zc,Wk];omega) ?_ er (by rw[bQe,<-er3,We];rfl)
       ·rw[aJr,imj]
        show (rr.imm&&true)=true;rw[him];rfl
       ·intro b o e
        rw[aAv (aA7 e nD2)];exact sm8 _ _ (sm7 _ _ (smj _ _ e))
      ·cases hrest
  ·have ej:j=ds.length:=by omega
   subst ej;rw[W1 (Qr _)] at hrest;have er:=aCr hrest;refine thn (T.done (cxC X scope cl N' Cc {s2 with heap:=P2} (upd H2 Dd (.lst [])) fp) rfl rfl rfl hcm ds.length [] s' _ Hj (fun _ _=>False) IJ (fpX frj) stj (hJ.stop _ Hj smj (Qr _))) fun r s3 ⟨hr,I3⟩=> ?_
   subst hr;obtain⟨mm,hmm,_⟩:=I3.loc;have nCj:Hj Cc=none:=I3.free;have zC:=I2.bHl (b:=Cc) (H':=H2) (by rw[hD,hsz];exact J2 _) nC2;have ers:rs=rj:=by rw[bQe,<-er,Z3]
   refine fin Dd Cc s3 Hj rs ?_ ⟨mm,hmm⟩ ⟨zC.2.2.2.1,zC.2.1,zC.2.2.2.2.1,zC.2.2.2.2.2⟩ nCj (e1.trans smj) (none_of e1 nD2) (by rw[ers];exact imj) ⟨_,hDj,by rw[ers];exact ilj⟩ hQ;intro h' hsb;have U1:Un (frs X.stack) (Cc::fp) H2 (upd H2 Dd (.lst [])) s2.heap P2:=Un.laid bJ8 (by rw[hD];exact Qr _) nD2;have U2:Un (frs X.stack) (Cc::fp) (upd H2 Dd (.lst [])) Hj P2 s3.heap:=I3.base.mono (fun _ z=>z) (fun b z=>Qm _ z);have kp: ∀b o,b≠Cc->s3.heap.get? b=some o->h'.get? b=some o:=fun b o hb e=>hsb.extBut b o hb e
   have nc: ∀b,b∉Cc::fp->b≠Cc:=fun b hb z=>hb (by rw[z];exact Qq)
   have U3:Un (frs X.stack) (Cc::fp) Hj Hj s3.heap h':=⟨fun b o e _ _ hx=>kp b o (nc b hx) e,fun b o e _ _ hx=>⟨o.slots,kp b o (nc b hx) e⟩,fun _ _ _ n _=>n,fun b o e hx=>⟨o,kp b o (nc b hx) e⟩,fun _ _ e=>e,fun _ _ _ e=>e,fun b ps e=>e⟩;have hok':HOk X.prog X.w Hj h':=fun b u e=>(I3.hok b u e).stay (fun c v hc q=>kp c v (fun z=>by
    rcases hc with hc | hc
    ·rw[hc] at z;rw[z,nCj] at e;cases e
    ·rw[z,nCj] at hc;cases hc) q) (fun _ q=>q) fun _ _ q=>q
   have IX:Inv X pins σ Hj {s3 with heap:=h'}:=I2.call' (ch:=Cc::fp) I3.os ((U1.trans U2).trans U3) hok' I3.bare fun b hb=>by
    rcases List.mem_cons.mp hb with rfl | hb
    ·have z:=I2.bHl (b:=b) (H':=H2) (by rw[hD,hsz];exact J2 _) nC2
     exact⟨z.2.2.2.1,z.2.1,z.2.2.2.2.1,z.2.2.2.2.2⟩
    ·obtain⟨z0,z1,z2,z3,z4,z5⟩:=f2 b hb
     exact⟨z3,z1,z4,z5⟩
   exact IX
 exact codeAny_compStart_list (loop _ rfl) (T.self _ 0 _ _ _ (T.keep _ _ _ st2 fun b hb o e=>bJ9 _ _ (bJ8 _ _ e)) (loop _ rfl))
theorem bI6 (hclos:closureFor scope X.env=pure cl)(hcell: ∀y∈scope.names,y.2≠ .cell)(hkind:scope.kind= .function)(hnames: ∀y∈scope.names,y.2= .local->scope.names.lookup y.1=some .local)(hcl:aOp cl X.env=true)
  (hnm:aYc X.N N' (relabel scope X.env)=true) (hf:aVu cl (relabel scope X.env)=true) (hl:N'.length=X.N.length+m) (hks: ∀k∈ks,X.N.length<=k) (hcm:X.calm=true) (hi:PIt X B tg iter it)
  (hg: ∀C s₀ H₀ ex,PDH (cxC X scope cl N' C s₀ H₀ ex) tg ks G) (ht: ∀C s₀ H₀ ex B,PIf (cxC X scope cl N' C s₀ H₀ ex) B ifs ft) (he: ∀C s₀ H₀ ex B,PD (cxC X scope cl N' C s₀ H₀ ex) B elt fe)
  (hs: ∀x,Zp iter X.env x=pure x:=by intro _;rfl):PD X B (.ListComp elt [⟨tg,iter,ifs,0⟩] scope pos) (cmp m it ks G ft fe):=by
 intro pins s σ H Q I h;obtain⟨ρ,r,h⟩:=h;rw[eval_ListComp];refine bCl (use:=none) (Q':=EP X pins σ Q) (Kp:=fun rs=> ∀v H',Same H H'->Is X.K H' (.lst rs) v->Q v H') hclos hcell hkind hnames hcl hnm hf hl hks hcm hi hg ht he hs I r (h.imp fun d q rs e v H' sm i=>by subst e;exact q v H' sm i) ?_;intro Dd Cc s3 Hj rs IX ⟨mm,hmm⟩ _ _ sm _ _ ⟨vs,is1,is2⟩ hQ;have is:Is X.K Hj (.lst rs) (.ref Dd):= .lst (SqL.of is1) is2;exact⟨mm,hmm,fun h' hsb=>⟨.ref Dd,Hj,IX h' hsb,rfl,hQ _ Hj sm is⟩⟩
theorem Inv.offC {pins:List (Addr×Obj)}{s:Qe}{σ:St}{H:Hp}{C:Addr}{h':Heap}(I:Inv X pins σ H s)(f:bQ2 X pins C)(hC:H C=none)(hsb:Yw C s.heap h'):Inv X pins σ H {s with heap:=h'}:=by
 have kp: ∀b o,b≠C->s.heap.get? b=some o->h'.get? b=some o:=fun b o hb e=>hsb.extBut b o hb e
 have nc: ∀b,b∉[C]->b≠C:=fun b hb z=>hb (by rw[z];exact Qq)
 have U:Un (frs X.stack) [C] H H s.heap h':=⟨fun b o e _ _ hx=>kp b o (nc b hx) e,fun b o e _ _ hx=>⟨o.slots,kp b o (nc b hx) e⟩,fun _ _ _ n _=>n,fun b o e hx=>⟨o,kp b o (nc b hx) e⟩,fun _ _ e=>e,fun _ _ _ e=>e,fun b ps e=>e⟩;have hok':HOk X.prog X.w H h':=fun b u e=>(I.hok b u e).stay (fun c v hc q=>kp c v (fun z=>by
  rcases hc with hc | hc
  ·rw[hc] at z;rw[z,hC] at e;cases e
  ·rw[z,hC] at hc;cases hc) q) (fun _ q=>q) fun _ _ q=>q
 exact I.call' (s':={s with heap:=h'}) (ch:=[C]) rfl U hok' I.bare fun b hb=>by
  rw[Ys] at hb;subst hb;exact f
end
section
variable {l:List Env}{H1 H:Hp}{h1 h h5 Bs base:Heap}
theorem bHm (un:Un (frs l) [] H1 H h1 h)(old: ∀b o o',h1.get? b=some o'->b∉frs l->h.get? b=some o->Bs.get? b=some o)(st:Bs.StaysIn h5)(sl:h.UpToSlots h5)(ff:h1.FunFrames base l)(hf: ∀b∈frs l,H1 b=none):
  Un (frs l) [] H1 H h1 h5 where
 keep:=fun b o q n hb hx=>st b o (old b o o q hb (un.keep b o q n hb hx))
 slot:=fun b o q n hb hx=>by
  obtain⟨s1,e1⟩:=un.slot b o q n hb hx;obtain⟨_,o2,e2,nf⟩:=ff.mem hb;rw[q] at e2;cases e2;obtain⟨s2,e3⟩:=sl b _ e1 nf;exact⟨s2,e3⟩
 free:=un.free
 there:=fun b o q hx=>by
  obtain⟨o1,e1⟩:=un.there b o q hx;by_cases hb:b∈frs l
  ·obtain⟨_,o2,e2,nf⟩:=ff.mem hb
   rw[q] at e2;cases e2;obtain⟨s1,e3⟩:=un.slot b o q (hf b hb) hb hx;obtain⟨s2,e4⟩:=sl b _ e3 nf;exact⟨_,e4⟩
  ·exact⟨o1,st b o1 (old b o1 o q hb e1)⟩
 tups:=un.tups
 aOy:=un.aOy
 aLs:=un.aLs
end
section
variable {X:Cx}{pins:List (Addr×Obj)}{σ:St}{H H1:Hp}{c ea:Addr}{e a0:Qc}{s s1:Qe}{Bs h':Heap}
theorem bBs (I:Inv X pins σ H1 s1)(os:s.os=s1.os)(bare:AllBare s.gens)(un:Un (frs X.stack) [] H1 H s1.heap s.heap)(old: ∀b o o',s1.heap.get? b=some o'->b∉frs X.stack->s.heap.get? b=some o->Bs.get? b=some o)
  (hok:HOk X.prog X.w H Bs) (st:Bs.StaysIn h') (sl:s.heap.UpToSlots h'):Inv X pins σ H {s with heap:=h'}:=
 Inv.call' (s':={s with heap:=h'}) (ch:=[]) I os (bHm un old st sl I.stack I.aKy) (hok.kept st) bare (fun b z=>absurd z (by simp))
def Left (X:Cx)(H:Hp)(c:Addr)(e:Qc)(s':Qe):Prop:=
 ∃ea,e= .ref ea/\s'.os=X.s₀.os/\AllBare s'.gens/\Un (frs X.outer) [] X.H₀ H X.s₀.heap s'.heap/\Fly X.prog X.w X.outer X.s₀ ea c H s'
theorem aW2 (hex:X.ex=[])(I:Inv X pins σ H1 s1)(os:s.os=s1.os)(bare:AllBare s.gens)(un:Un (frs X.stack) [] H1 H s1.heap s.heap)(old: ∀b o o',s1.heap.get? b=some o'->b∉frs X.stack->s.heap.get? b=some o->Bs.get? b=some o)
  (hok:HOk X.prog X.w H Bs) (fl:Heap.FlyingW Bs X.outer ea (.ref c) a0 h') (sl:s.heap.UpToSlots h'):Left X H c (.ref ea) {s with heap:=h'}:=by
 have I':=bBs I os bare un old hok fl.1 sl;have ib:=I'.base;rw[hex] at ib;have ib1:=I.base;rw[hex] at ib1;refine⟨ea,rfl,I'.os,I'.bare,ib,Bs,a0,fl,fun b o o' q nb eb=> ?_,hok⟩;obtain⟨o1,e1⟩:=ib1.there b o' q (by simp);obtain⟨o2,e2⟩:=un.there b o1 e1 (by simp);have nb':b∉frs X.stack:=fun z=>by
  rcases List.mem_cons.mp (I.aSj b z) with y | y
  ·have:=Q2 (Qo q) I.ok.above
   rw[y] at this;exact absurd this (Jn _)
  ·exact nb y
 have e3:=old b o2 o1 e1 nb' e2;have e4:=fl.1 b o2 e3;have eb':h'.get? b=some o:=eb;rw[eb'] at e4;cases e4;exact e3
theorem aW3 (hst:X.stack=X.env::X.outer)(hf:X.env.frame=some X.env.locals)(hex:X.ex=[]){Q:Unit->Qe->Prop}{E:Qc->Qe->Prop}(x:Exc X pins σ H c e s)(k: ∀s',Left X H c e s'->Q () s'):
  Qs (Qp X.prog X.w) X.A (leaving X.env e) Q E s:=by
 obtain⟨ea,rfl,⟨h,args,hm,I⟩ |⟨s1,H1,I,os,bare,un,Bs,a0,fl,old,hok⟩⟩:=x
 ·have ff:h.FunFrames X.base X.stack:=I.stack
  refine wpAny_leaves_madeW (base:=Yz h (frs X.stack)) (h:=h) (by rw[I.ok.frames,hst]) hf (fun b o q=>Ub _ q) (by rw[<-hst];exact Wq ff fun env he a ha=>List.mem_filterMap.mpr ⟨env,he,ha⟩) hm fun h' t x1 x2 x3 x4=>k _ ?_
  refine aW2 (s1:={s with heap:=h}) hex I rfl I.bare (Un.kept hm.keeps) (fun b o o' q nb eb=> ?_) (fun a o ea'=> ?_) x1 x4
  ·have:=hm.keeps b o' q
   rw[eb] at this;cases this;exact Jt _ q nb
  ·refine (I.hok a o ea').stay (fun b u hb q=>Jt _ q fun z=> ?_) (fun _ q=>q) fun _ _ q=>q
   have hn:=I.aKy b z;rcases hb with rfl | hb
   ·rw[hn] at ea';cases ea'
   ·rw[hn] at hb;cases hb
 ·have fl':Heap.FlyingW Bs (X.env::X.outer) ea (.ref c) a0 s.heap:=by rw[<-hst];exact fl
  refine wpAny_leaves_onW (by rw[I.ok.frames,hst]) hf fl' fun h' x1 x2=>k _ (aW2 hex I os bare un old hok x1 x2)
end
section
variable {P:Qv}{w:Q8}{K:Qa}{mg:Str->Option Qc}{base:Heap}
abbrev cxX (P:Qv)(w:Q8)(K:Qa)(mg:Str->Option Qc)(base:Heap)(N:List Str)(qual:Str)(scope:Scope)(f:Addr)(cd:Qc)(A:Zb)(outer:List Env)(s:Qe)(H:Hp)(E:XK):Cx:=
 bKq (CXD P w) P w K mg base N qual scope f cd A outer s H E
theorem bLh {N:List Str}{qual:Str}{scope:Scope}{f:Addr}{cd:Qc}{A:Zb}{outer:List Env}{s₀:Qe}{H₀:Hp}{E:XK}{pins:List (Addr×Obj)}{σ:St}{H:Hp}{c:Addr}{e:Qc}{s:Qe}
  (x:Exc (cxX P w K mg base N qual scope f cd A outer s₀ H₀ E) pins σ H c e s) (hE:E (.ref c) none H):(cxX P w K mg base N qual scope f cd A outer s₀ H₀ E).xe e s:=by
 refine aW3 (X:=cxX P w K mg base N qual scope f cd A outer s₀ H₀ E) rfl rfl rfl x fun s' hl=> ?_
 obtain⟨ea,e1,e2,e3,e4,e5⟩:=hl;exact⟨c,ea,H,e1,e2,e3,e4,e5,hE⟩
theorem bLd {x qual:Str}{st:Stmt}{f:Addr}{fd:Z9}{N ps:List Str}{k:Nat}{F:List D->M D}(Fu:Fun K x qual st f fd)(S:aBg N ps (aAp st))(hL: ∀ds r,F ds=some r->ds.length=ps.length)
  (hbody: ∀(cdv:Qc) (A:Zb) (outer:List Env) (s:Qe) (H:Hp) (E:XK),aFz k (A.deeper (envOfC qual (aAp st) s.heap.objs.size f cdv))->
   ∃F',(∀B,PDB (cxX P w K mg base N qual (aAp st) f cdv A outer s H E) B (aCu st) F')/\∀ds r,F ds=some r->aA0 (F' (aBu N ds))=some r):FnD P w K mg base (k+1) f fd ps F:=by
 obtain⟨oc,od,kV,doc,pm,an,cdv,ct,osl,rfl,lk,hcd⟩:=Fu.ex;refine bFo lk hcd S (fun vs H Q E ⟨ds,i,hl,_⟩=>hl) fun A outer s H vs Q E hr hsp=> ?_
 obtain⟨F',hF,hq⟩:=hbody cdv A outer s H E hr;refine⟨_,hF H,?_⟩;obtain⟨ds,i,hl,h⟩:=hsp;have hn:ps.length<=N.length:=by have:=congrArg J1 S.pre;rw[Za] at this;omega
 cases q:F ds with
 | none=>rw[q] at h;exact Qd h
 | some r=>
  rw[q] at h;have e:=hq ds r q;refine⟨aBu N ds,aH9 i (by rw[i.length,hl];exact hn),?_⟩;cases qf:F' (aBu N ds) with
  | none=>rw[qf] at e;cases e
  | some o=>
   rw[qf] at e;cases o with
   | rt d'=>cases e;exact fun v H' s' i'=>h v H' s' i'
   | nx ρ=>cases e;exact fun σ' H' r'=>h _ H' r'.kept .non
   | bk ρ=>cases e
   | ct ρ=>cases e
   | ex c ρ=>cases e;exact fun pins s' σ' H' ev r' x=>bLh x (h H' r'.kept)
end
theorem bKj {K:Qa}{h:Heap}{C:Addr}{bmB:List Qc}{nid:String}(kin:K.In h)(q:Jg K C bmB nid=true):
  ∃tl N nm qn bs hd sn sub ab col dd k0 k1 k2 k3 k5 mN,h.get? C=some (excClassObj nm qn C N bs tl hd sn sub ab col dd k0 k1 k2 k3 k5 nid)/\h.Ns N mN/\mN "__init__"=none/\OwnTail h bmB tl:=by
 unfold Jg at q;split at q
 ·rename_i d1 c1 s1 lk
  split at q
  ·rename_i C2 tl j0 j1 j2 j3 n2 j5 em es
   rw[Qw,Qw,Qw,Qw,Qw] at q;obtain⟨⟨⟨⟨⟨a1,a2⟩,a3⟩,a4⟩,a5⟩,a6⟩:=q;have b1:=beq_iff_eq.mp a1;have b2:=beq_iff_eq.mp a2;have b6:=beq_iff_eq.mp a6;have b3:c1.hasDel=false:=by simpa using a3
   cases c1 with
   | mk nm bs mro ns qn hd sn sub ab col del=>
    have b1':C2=C:=b1;have b2':n2=nid:=b2;have b3':del=false:=b3;have em':mro= .ref C2::tl:=em;have e5:s1= #[j0,j1,j2,j3,some (.builtin n2),j5]:=by
     cases s1 with
     | mk li=>exact congrArg Array.mk es
    rw[e5,em',b3',b1',b2'] at lk;exact⟨tl,ns,nm,qn,bs,hd,sn,sub,ab,col,d1,j0,j1,j2,j3,j5,_,kin _ _ lk,.of_isNs (PySem.W.isNs_of_in kin a5),PySem.W.nsMap_none_of_in kin a5 b6,PySem.W.tail_of_in kin a4⟩
  ·exact nomatch q
 ·exact nomatch q
section
variable {X:Cx}{B:Hp}{e:Expr}{es:List Expr}{ga:Rho->M (List D)}{np cpos pos:Pos}{x:Str}{C:Addr}{bmB:List Qc}{nid iid B0:String}
def aEj (C:Addr)(g:Rho->M (List D)):Rho->Option Out:=fun ρ=>lft (g ρ) ρ fun ds=>if ds.length<=1000 then some (.ex C ρ) else none
theorem aE2 (FB:ExcBaseFacts B0 nid iid bmB)(hq:Jg X.K C bmB nid=true)(hm:X.mg x=some (.ref C))(hg:Gl X x)(hc:X.calm=true)(ha:PDA X B (e::es) ga)(hdb:(x==("__debug__":Str))=false:=by decide)
  (he:Qu (e::es) X.env=(false,eval e X.env)::Qu es X.env:=by exact aBf rfl) (hpl:(backTo cpos (Qu es X.env)).any (·.1)=false:=by rfl):PDS X B (.Raise (some (.Call (.Name x np) (e::es) [] cpos)) none pos) (aEj C ga):=by
 intro pins s σ H E I h;obtain⟨ρ,r,h⟩:=h;obtain⟨tl,N,nm,q,bs,hd,sn,sub,ab,col,dd,k0,k1,k2,k3,k5,mN,hC,hN,hni,T⟩:=bKj (h:=X.base) I.ok.mod.kin hq;refine wpAny_Raise_call_subT (C:=C) (nm:=nm) (q:=q) (N:=N) (bs:=bs) (bm:=tl) (hdct:=hd) (sn:=sn) (sub:=sub) (ab:=ab) (col:=col) (dd:=dd) (k0:=k0) (k1:=k1) (k2:=k2) (k3:=k3) (k5:=k5)
  FB (mN:=mN) (T.hasType FB.hasBase) (I.ok.hd hc) (by rw[he];show (false ||(backTo cpos (Qu es X.env)).any (·.1))=false;rw[hpl];rfl) hni (aK3 I hg hm ⟨rfl,?_⟩ hdb)
 have hx:=ha cpos pins s σ H (fun vs H1=>vs.length<=1000/\Same H H1/\Good X B E (.ex C ρ)) I ⟨ρ,r,(aCh r h).imp fun ds h1 vs H1 e1 i1=>by
  split at h1
  ·rename_i hl;exact⟨by rw[<-i1.length];exact hl,e1,h1⟩
  ·exact Qd h1⟩
 rw[he] at hx⊢;refine Calls.evalArgs_plain (Yq hx (fun us s2 ⟨vs,H2,I2,rv,hl,e2,gd⟩=>⟨rfl,by show us.length<=Q0;rw[<-rv.length];exact aVd hl,I2.bk _ _ hC,hN.keeps I2.bk,T.keeps I2.bk,fun h' ea hm'=> ?_⟩) fun _ _ y=>y);exact gd pins {s2 with heap:=h'} σ H2 (.ref ea) (r.mono e2) ⟨ea,rfl,.inl ⟨s2.heap,us,hm',I2⟩⟩
end
theorem bE8 {K:Qa}{a C:Addr}{c:Qc}(e:Qy K (.ref C) c=some true):Answers (fun s=>K.In s.heap/\excAt a C s.heap) (.ref a) c true:=by
 intro dp tk P w A R s ⟨⟨kin,o,ho,hc⟩,hq⟩;cases s with
 | mk h0 g d tt os=>
  have lt:Yg (Qp P w) h0 (typeOf (.ref a)) (.ref C):=by rw[<-hc];exact (Jw ho).andThen .now
  unfold Qy at e;by_cases q:(Z7 C==c)=true
  ·unfold Builtin.«isinstance.nested»
   refine Qb (lt.at ?_);simp only[q,if_true]
   first | exact Qb (wpAny_rule (Qf (hq tt))) | exact Qb (wpAny_rule (hq tt)) | exact Qf (hq tt)
  ·simp only[q] at e
   obtain⟨h1,h2,h3⟩:=Va (M:=Qp P w) kin e;have li:Yg (Qp P w) h0 (isInstance (.ref a) c) true:=lt.andThen h3;unfold Builtin.«isinstance.nested»;refine Qb (lt.at ?_);simp only[q];refine Qb (h1.at ?_);simp only[beq_self_eq_true,if_true]
   k_delta "plainIsInstance"
   refine Qb (Qb (h2.at ?_));simp only[Wc,Jy,if_false];refine Qb (li.at ?_);simp only[if_true]
   first | exact Qf (hq tt) | exact Qf (Qf (hq tt)) | exact Qb (Qf (Qf (hq tt)))
section
variable {X:Cx}{B:Hp}{e:Expr}{fa:Rho->M D}{pos p p2:Pos}
def exs (m:Addr->Bool)(f:Rho->M D):Rho->M D:=fun ρ=>bnd (f ρ) fun d=>match d with
 | .exc C=>if m C=true then ok (.bl true) else none
 | _=>none
theorem bF7 {cv:Qc}{c:V}{m:Addr->Bool}(rc:RelV c cv)(hu: ∀u,RelV c u->u=cv)(hm: ∀C,m C=true->Qy X.K (.ref C) cv=some true):
  aHk X (.builtin "isinstance") (fun xs H Q=> ∃C y,xs=[y,c]/\Is X.K H (.exc C) y/\m C=true/\Q (.bl true) H):=by
 intro pins s σ H xs us Q I r h;obtain⟨C,y,rfl,i,hC,q⟩:=h;obtain⟨u,w',rfl,r1,r2⟩:=vals2 r;rw[hu _ r2];cases i with
 | exc hh=>
  cases r1;obtain⟨hx,_,_⟩:=(show aCe X.prog X.w H s.heap _ (.ext _) from I.hok _ _ hh);exact call_isinstance (S:=fun _ R s=>(X.K.In s.heap/\excAt _ C s.heap)/\∀tk,R (.ok (.ret (.bool true))) {s with toks:=tk})
   (fun P w A R s hs=>isinstance_outer (bE8 (hm C hC) 0 _ P w A R s hs) (fun z=>nomatch z)) ⟨⟨I.kIn,hx⟩,fun tk=>⟨.bl true,H,I.tok _,rfl,q⟩⟩
theorem bI5 {x:Str}{T:String}{m:Addr->Bool}(hg:Gl X "isinstance")(hb:X.mg "isinstance"=none)(hg2:Gl X x)(hm2:X.mg x=none)(hv:Jd x=some (.type T))(hm: ∀C,m C=true->Qy X.K (.ref C) (.type T)=some true)(ha:PD X B e fa)(hn:x≠"__name__":=by decide)(hd:(x==("__debug__":Str))=false:=by decide)
  (he:Qu [e,.Name x p2] X.env=[(false,eval e X.env),(false,eval (.Name x p2) X.env)]:=by exact aOb rfl rfl) (he2:Qu [.Name x p2] X.env=[(false,eval (.Name x p2) X.env)]:=by exact aHy rfl):PD X B (.Call (.Name "isinstance" p) [e,.Name x p2] [] pos) (exs m fa):=by
 refine PE.of (aF2 (bF7 (c:=V.ty T) rfl (fun u r=>r) hm) hg hb boot_isinstance (aBx ha (aBx (bAm hg2 hm2 hv (v:=V.ty T) rfl hn hd) aD4 he2) (by rw[he,he2])) (he:=by rw[he,he2]) (hpl:=by rw[he2];rfl)) fun σ H Q h=> ?_
 obtain⟨ρ,r1,h⟩:=h;refine⟨ρ,r1,(Res.bind h).imp fun d h1 v H1 e1 i1=> ?_⟩;split at h1
 ·rename_i C
  split at h1
  ·rename_i hC;exact⟨C,v,rfl,i1,hC,h1 _ H1 e1 (.bl _)⟩
  ·exact Qd h1
 ·exact Qd h1
end
def aQb (X:Cx)(pins:List (Addr×Obj))(σ:St)(H:Hp)(ea c:Addr)(s:Qe):Prop:=
 ∃s1 H1,Inv X pins σ H1 s1/\s.os=s1.os/\AllBare s.gens/\Un (frs X.stack) [] H1 H s1.heap s.heap/\Fly X.prog X.w X.stack s1 ea c H s
abbrev Cx.hand (X:Cx)(e:Qc):Cx:={X with A:=X.A.mark (some e),calm:=false,xe:=fun _ _=>False}
section
variable {X:Cx}{pins:List (Addr×Obj)}{σ:St}{H:Hp}{c ea:Addr}{s:Qe}{e:Qc}
theorem aW7 (I:Inv X pins σ H s)(e:Qc):Inv (Cx.hand X e) pins σ H s:=
 ⟨⟨I.ok.mod,I.ok.kind,I.ok.glob,I.ok.blt,I.ok.above,I.ok.inj,I.ok.has,I.ok.cab,(fun z=>Q5 z),I.ok.frames,I.ok.stk,I.ok.exf,I.ok.bs,I.ok.bsz,I.ok.bG4,I.ok.bFs,I.ok.aRq,I.ok.frf⟩,I.os,I.bare,I.base,I.loc,I.cell,I.free,I.aHz,I.pin,I.hok,I.len⟩
theorem aIs (h0:X.Ok)(I:Inv (Cx.hand X e) pins σ H s):Inv X pins σ H s:=⟨h0,I.os,I.bare,I.base,I.loc,I.cell,I.free,I.aHz,I.pin,I.hok,I.len⟩
theorem aQb.inv (f:aQb X pins σ H ea c s):Inv X pins σ H s:=by
 obtain⟨s1,H1,I,os,bare,un,Bs,a0,fl,old,hok⟩:=f;exact Inv.call' (ch:=[]) I os un (hok.kept fl.1) bare (fun b z=>absurd z (by simp))
theorem aQb.moved {h':Heap}{s1:Qe}{H1:Hp}{Bs:Heap}{a0:Qc}(I:Inv X pins σ H1 s1)(os:s.os=s1.os)(bare:AllBare s.gens)(un:Un (frs X.stack) [] H1 H s1.heap s.heap)
  (old: ∀b o o',s1.heap.get? b=some o'->b∉frs X.stack->s.heap.get? b=some o->Bs.get? b=some o) (hok:HOk X.prog X.w H Bs) (fl:Heap.FlyingW Bs X.stack ea (.ref c) a0 h') (sl:s.heap.UpToSlots h'):aQb X pins σ H ea c {s with heap:=h'}:=by
 refine⟨s1,H1,I,os,bare,bHm un old fl.1 sl I.stack I.aKy,Bs,a0,fl,fun b o o' q nb eb=> ?_,hok⟩;obtain⟨o2,e2⟩:=un.there b o' q (by simp);have e3:=old b o2 o' q nb e2;have e4:=fl.1 b o2 e3;have eb':h'.get? b=some o:=eb;rw[eb'] at e4;cases e4;exact e3
theorem aQb.lands (f:aQb X pins σ H ea c s){A:Zb}{Q:Unit->Qe->Prop}{E:Qc->Qe->Prop}(k: ∀h',aQb X pins σ H ea c {s with heap:=h'}->Q () {s with heap:=h'}):Qs (Qp X.prog X.w) A (setFlight (.ref ea) none) Q E s:=by
 obtain⟨s1,H1,I,os,bare,un,Bs,a0,fl,old,hok⟩:=f;exact lands_againW fl fun h' x1 x2=>k h' (aQb.moved I os bare un old hok x1 x2)
theorem aQb.looks (hst:X.stack=X.env::X.outer)(hf:X.env.frame=some X.env.locals)(f:aQb X pins σ H ea c s){Q:Unit->Qe->Prop}{E:Qc->Qe->Prop}(k: ∀h',aQb X pins σ H ea c {s with heap:=h'}->Q () {s with heap:=h'}):
  Qs (Qp X.prog X.w) X.A (noteFrame (.ref ea) X.env) (fun _ s2=>Qs (Qp X.prog X.w) X.A (setFlight (.ref ea) none) Q E s2) E s:=by
 obtain⟨s1,H1,I,os,bare,un,Bs,a0,fl,old,hok⟩:=f;have fl':Heap.FlyingW Bs (X.env::X.outer) ea (.ref c) a0 s.heap:=by rw[<-hst];exact fl
 refine wpAny_looks_onW (by rw[I.ok.frames,hst]) hf fl' fun h4 x1 x2=>wpAny_landsW x1 fun h5 y1 y2=>k h5 ?_
 rw[<-hst] at y1;exact aQb.moved I os bare un old hok y1 (x2.trans y2)
theorem aQb.at_ (f:aQb X pins σ H ea c s):excAt ea c s.heap:=by
 obtain⟨s1,H1,I,os,bare,un,Bs,a0,fl,old,hok⟩:=f;exact fl.there
theorem aU9 {P:Qv}{w:Q8}{H:Hp}{h:Heap}{a:Addr}{o:HO}(x:aCe P w H h a o): ∃u,h.get? a=some u:=by
 cases o with
 | lst xs=>obtain⟨_,_,_,_,e⟩:=x;exact⟨_,e⟩
 | tup xs=>obtain⟨_,_,_,o,e,_⟩:=x;exact⟨_,e⟩
 | dK kvs=>obtain⟨_,_,_,_,o,_,_,e,_⟩:=x;exact⟨_,e⟩
 | dT kvs=>obtain⟨_,_,_,_,o,_,_,e,_⟩:=x;exact⟨_,e⟩
 | set S n=>obtain⟨⟨o,_,_,_,e,_⟩,_⟩:=x;exact⟨_,e⟩
 | ins C dx fs=>obtain⟨_,_,_,e,_⟩:=x;exact⟨_,e⟩
 | own y=>exact x
 | xd fs=>obtain⟨_,⟨_,_,_,e,_⟩,_⟩:=x;exact⟨_,e⟩
 | rng lo hi=>obtain⟨_,_,_,e⟩:=x;exact⟨_,e⟩
 | frz ob u=>obtain⟨e,_⟩:=x;exact⟨_,e⟩
 | tbl ps=>exact (let ⟨tb,e,_⟩:=x;⟨_,e⟩)
 | met f y=>exact⟨_,x⟩
 | ext φ=>obtain⟨_,e,_⟩:=x;exact e
theorem aQb.track (f:aQb X pins σ H ea c s):H ea=none/\Inv X pins σ (upd H ea (.ext (excAt ea c))) s:=by
 have ha:=f.at_;obtain⟨s1,H1,I,os,bare,un,Bs,a0,fl,old,hok⟩:=f;have hn:H ea=none:=by
  cases q:H ea with
  | none=>rfl
  | some o=>
   obtain⟨u,eu⟩:=aU9 (hok ea o q);rw[fl.2.1] at eu;cases eu
 have hf:ea∉frs X.stack:=fun z=>by
  obtain⟨_,o,eo,nf⟩:=fl.2.2.1.mem z;obtain⟨oe,vs,he,_,hd,_⟩:=fl.first;rw[eo] at he;cases he;exact nf _ hd
 have h1: ∀o,s1.heap.get? ea=some o->False:=fun o q=>by
  obtain⟨oe,_,he,_⟩:=fl.first;have:=old ea oe o q hf he;rw[fl.2.1] at this;cases this
 have sm:=aA5 hn (.ext (excAt ea c));refine⟨hn,Inv.call' (ch:=[]) I os ⟨un.keep,un.slot,fun b o q n hx=> ?_,un.there,fun b xs q=>sm _ _ (un.tups b xs q),fun b o u q=>sm _ _ (un.aOy b o u q),fun b ps q=> ?_⟩ (fun b o q=> ?_) bare (fun b z=>absurd z (by simp))⟩
 ·have nb:b≠ea:=fun z=>h1 o (by rw[<-z];exact q)
  rw[aAv nb];exact un.free b o q n hx
 ·exact sm _ _ (un.aLs b ps q)
 ·by_cases nb:b=ea
  ·subst nb
   rw[aAy] at q;cases q;obtain⟨o,e1,e2⟩:=ha;exact⟨⟨o,e1,e2⟩,⟨o,e1⟩,fun h1 h2 ⟨o',z1,z2⟩ k=>⟨o',k o' z1,z2⟩⟩
  ·rw[aAv nb] at q
   exact ((hok.kept fl.1) b o q).stay (fun _ _ _ z=>z) (fun _ z=>sm _ _ z) (fun _ _ z=>sm _ _ z) fun _ _ z=>sm _ _ z
end
structure HD where
 m:Addr->Option Bool
 i:Nat
 G:Rho->Option Out
def aft (i:Nat):Option Out->Option Out
 | some (.nx ρ)=>some (.nx (ρ.set i none))
 | some (.bk ρ)=>some (.bk (ρ.set i none))
 | some (.ct ρ)=>some (.ct (ρ.set i none))
 | some (.rt d)=>some (.rt d)
 | _=>none
def hands:List HD->Addr->Rho->Option Out
 | [],_,_=>none
 | h::r,c,ρ=>match h.m c with
  | some true=>aft h.i (h.G (ρ.set h.i (some (.sh (.exc c)))))
  | some false=>hands r c ρ
  | none=>none
def bIf (F:Rho->Option Out)(hs:List HD):Rho->Option Out:=fun ρ=>match F ρ with
 | some (.ex c ρ')=>hands hs c ρ'
 | o=>o
section
variable {X:Cx}{pins:List (Addr×Obj)}{σ:St}{H B:Hp}{s:Qe}{ρ:Rho}
theorem Rel.unset {K:Qa}{i:Nat}(r:Rel K B ρ σ H):Rel K B (ρ.set i none) (σ.set i none) H:=by
 obtain⟨O,h1,ho,h2,hl,h3⟩:=r;by_cases hi:i<σ.length
 case neg=>
  have s1: ∀x:Option SV,ρ.set i x=ρ:=fun x=>Zg (by omega)
  have s2: ∀x:Option V,σ.set i x=σ:=fun x=>Zg (by omega)
  rw[s1,s2];exact⟨O,h1,ho,h2,hl,h3⟩
 have hO: ∀(j:Nat) (a:Addr),(if j=i then none else O j)=some a->O j=some a:=fun j a q=>by
  split at q
  ·cases q
  ·exact q
 have less:Same (Off H O) (Off H fun j=>if j=i then none else O j):=Off.less fun j a q=>⟨j,hO j a q⟩
 refine⟨fun j=>if j=i then none else O j,fun j k a q1 q2=>h1 j k a (hO j a q1) (hO k a q2),fun j a q=>ho j a (hO j a q),h2.trans less,by rw[Q3,Q3,hl],fun j sv q=> ?_⟩;have e:j≠i:=fun e=>by
  subst e;by_cases hj:j<ρ.length
  ·rw[Q6 hj] at q;cases q
  ·rw[Jo (by rw[Q3];omega)] at q;cases q
 rw[Qh (Ne.symm e)] at q;have z:=h3 j sv q;cases sv with
 | sh d'=>obtain⟨v',e1,e2⟩:=z;exact⟨v',by rw[Qh (Ne.symm e)];exact e1,e2.mono less⟩
 | own ds=>obtain⟨a,vs,e1,e2,e3,e4⟩:=z;exact⟨a,vs,by show (if j=i then none else O j)=some a;rw[if_neg e];exact e1,by rw[Qh (Ne.symm e)];exact e2,e3,e4.mono less⟩
 | oin a C dx fs=>obtain⟨e1,e2,e3,vs,e4,e5⟩:=z;exact⟨by show (if j=i then none else O j)=some a;rw[if_neg e];exact e1,by rw[Qh (Ne.symm e)];exact e2,e3,vs,e4,e5.mono less⟩
 | ow o=>obtain⟨a,w,e1,e2,e3,e4⟩:=z;exact⟨a,w,by show (if j=i then none else O j)=some a;rw[if_neg e];exact e1,by rw[Qh (Ne.symm e)];exact e2,e3,e4.mono less⟩
 | tk ks=>obtain⟨a,e1,e2⟩:=z;exact⟨a,by rw[Qh (Ne.symm e)];exact e1,less _ _ e2⟩
 | nl kd ls=>exact NL.move (by rw[Q3]) (Qh (Ne.symm e)) (fun m b w hm e1 e2=>⟨by show (if m=i then none else O m)=some b;rw[if_neg (by rcases hm with h | h<;>omega)];exact e1,e2⟩) less z
theorem aWh {i:Nat}{n:Str}{pos:Pos}{E:Qc->Qe->Prop}{Q:Unit->Qe->Prop}(I:Inv X pins σ H s)(hN:X.N.Nodup)(hi:X.N[i]? =some n)(hloc:X.env.scope.names.lookup n=some .local)(k: ∀s',Inv X pins (σ.set i none) H s'->Q () s'):
  Qs (Qp X.prog X.w) X.A (do bindName X.env n .none;unbindBehindTheSuite X.env n pos) Q E s:=by
 have hcls:(X.env.scope.kind== .class ||(X.env.scope.kind== .module&&X.env.locals !=X.env.globals))=false:=by rw[I.ok.kind];rfl
 refine Qb (wpAny_bindName (aJ5 I hN hi (.inl hloc) (v:= .non) rfl (fun s1 I1=> ?_) (.inr hloc)));have hiσ:i<σ.length:=by rw[I.len];exact (List.getElem?_eq_some_iff.mp hi).1
 obtain⟨m,hn,hl⟩:=id I1.loc;obtain⟨u,ru,l⟩:=hl i n .non hi (Q6 hiσ) (.inl hloc);have hv:m n=some u:=by
  rcases l with⟨_,e⟩ |⟨k,_⟩
  ·exact e
  ·have k':X.env.scope.names.lookup n=some .cell\/X.env.scope.names.lookup n=some .free:=k
   rw[hloc] at k';rcases k' with z | z<;>cases z
 unfold unbindBehindTheSuite;refine wpAny_onRaise (wpAny_unbindName_local hloc hn hv hcls fun h' u' hn' hs=>k _ ?_);have neL: ∀b o,X.s₀.heap.get? b=some o->b≠X.env.locals:=fun b o e=>Q1 (Q2 (Qo e) I1.ok.above)
 refine⟨I1.ok,I1.os,I1.bare,⟨fun b o e n hb hx=>(hs.2 b (neL b o e)).trans (I1.base.keep b o e n hb hx),fun b o e n hb hx=> ?_,I1.base.free,fun b o e hx=> ?_,I1.base.tups,I1.base.aOy,I1.base.aLs⟩,
  ⟨_,hn',fun j y v' e1 e2 e3=> ?_⟩,fun y c e=> ?_,I1.free,I1.aHz,fun p hp=> ?_,fun b ob e=> ?_,by rw[Q3];exact I.len⟩
 ·obtain⟨sl,e1⟩:=I1.base.slot b o e n hb hx
  exact⟨sl,(hs.2 b (neL b o e)).trans e1⟩
 ·obtain⟨o',e1⟩:=I1.base.there b o e hx
  exact⟨o',(hs.2 b (neL b o e)).trans e1⟩
 ·have hj:j≠i:=fun z=>by
   subst z;rw[Q6 hiσ] at e2;cases e2
  rw[Qh (Ne.symm hj)] at e2;obtain⟨w',r',q⟩:=hl j y v' e1 (by rw[Qh (Ne.symm hj)];exact e2) e3;refine⟨w',r',?_⟩;rcases q with⟨k1,e⟩ |⟨k1,c,e,z⟩
  ·have ny:y≠n:=fun z=>hj (aRc hN e1 (z▸hi))
   exact .inl ⟨k1,by show (if y=n then u' else m y)=some w';rw[if_neg ny];exact e⟩
  ·exact .inr ⟨k1,c,e,z.sameBut hs (I1.cne y c e)⟩
 ·obtain⟨w',z⟩:=I1.cell y c e
  exact⟨w',z.sameBut hs (I1.cne y c e)⟩
 ·obtain⟨e,n0,ne,nf,d⟩:=I1.pin p hp
  exact⟨(hs.2 p.1 ne).trans e,n0,ne,nf,d⟩
 ·refine (I1.hok b ob e).stay (fun c' w' hc q=>(hs.2 c' ?_).trans q) (fun _ q=>q) fun _ _ q=>q
  rintro rfl
  have hf:=I1.free;rcases hc with z | z
  ·rw[<-z,hf] at e;cases e
  ·rw[hf] at z;cases z
end
def bO6 (X:Cx)(B:Hp)(hl:List ExceptHandler)(hs:List HD):Prop:= ∀(pins:List (Addr×Obj)) (σ:St) (H:Hp) (c ea:Addr) (s:Qe) (E:Ends) (ρ:Rho),aQb X pins σ H ea c s->Rel X.K B ρ σ H->aLn X B E (hands hs c ρ)->
 Qs (Qp X.prog X.w) X.A (handleBy (.ref ea) X.env hl) (SP X pins E) X.xe s
section
variable {X:Cx}{B:Hp}{x n:Str}{i:Nat}{C:Addr}{np pos:Pos}{b₀:Stmt}{body:List Stmt}{rest:List ExceptHandler}{m:Addr->Option Bool}{G:Rho->Option Out}{hs:List HD}
theorem bIw:bO6 X B [] []:=fun _ _ _ _ _ _ _ _ _ _ h=>Qd h
theorem bEr (hg:Gl X x)(hm2:X.mg x=some (.ref C))(hm: ∀c b,m c=some b->Zk X.K (.ref c) (.ref C)=some b)(hN:X.N.Nodup)(hi:X.N[i]? =some n)(hloc:X.env.scope.names.lookup n=some .local)(hb: ∀e B,PDB (Cx.hand X e) B (b₀::body) G)(hr:bO6 X B rest hs)
  (hdb:(x==("__debug__":Str))=false:=by decide):bO6 X B (.ExceptHandler (some (.Name x np)) (some n) (b₀::body) pos::rest) (⟨m,i,G⟩::hs):=by
 intro pins σ H c ea s E ρ f r h;have I:=f.inv;refine wpAny_handleBy_cons (codeAny_handlers_test (aK3 (aW7 I (.ref ea)) hg hm2 ?_ hdb)) (by intro q;cases q);unfold hands at h
 dsimp only at h
 cases q:m c with
 | none=>rw[q] at h;exact Qd h
 | some b=>
  rw[q] at h;have lt:Yg (Qp X.prog X.w) s.heap (typeOf (.ref ea)) (.ref c):=by
   obtain⟨o,ho,hc⟩:=f.at_;rw[<-hc];exact (Jw ho).andThen .now
  refine (PySem.W.exm_one (M:=Qp X.prog X.w) I.kIn lt (hm c b q)).here ?_;cases b with
  | false=>exact hr pins σ H c ea s E ρ f r h
  | true=>
   refine codeAny_handlers_suite_as ?_;refine f.lands fun h6 f6=> ?_
   obtain⟨hn,I6⟩:=f6.track;refine aJ5 (X:=Cx.hand X (.ref ea)) (aW7 I6 _) hN hi (.inl hloc) (v:=V.ref ea) rfl (fun s7 I7=> ?_) (.inr hloc);have bR4:Rel X.K B (ρ.set i (some (.sh (.exc c)))) (σ.set i (some (.ref ea))) (upd H ea (.ext (excAt ea c))):=by
    obtain⟨O,h1,ho,h2,hl,h3⟩:=r.mono (aA5 hn (.ext (excAt ea c)));refine Rel.aWl O h1 ho h2 hl (fun j sv e _=>h3 j sv e) (.exc (Off.of aAy fun j z=> ?_));obtain⟨u,w,m⟩:=ho j ea z;rw[aAy] at w;cases w;cases m
   refine Yq (hb (.ref ea) B pins s7 _ _ {nx:=fun σ' H'=>E.nx (σ'.set i none) H',rt:=E.rt,bk:=fun σ' H'=>E.bk (σ'.set i none) H',ct:=fun σ' H'=>E.ct (σ'.set i none) H'} I7 ⟨_,bR4,?_⟩) (fun fl s8 hq=> ?_) (fun _ _ z=>Qd z)
   ·dsimp only at h
    cases qg:G (ρ.set i (some (.sh (.exc c)))) with
    | none=>rw[qg] at h;exact Qd h
    | some o=>
     rw[qg] at h;cases o with
     | nx ρ'=>exact fun σ' H' r'=>h _ H' r'.unset
     | bk ρ'=>exact fun σ' H' r'=>h _ H' r'.unset
     | ct ρ'=>exact fun σ' H' r'=>h _ H' r'.unset
     | rt d=>exact h
     | ex c' ρ'=>exact Qd h
   ·have ok:=I.ok
    show Qs (Qp X.prog X.w) X.A (do bindName X.env n .none;unbindBehindTheSuite X.env n pos) (fun _ s3=>SP X pins E fl s3) X.xe s8;cases fl with
    | next=>obtain⟨σ',H',I8,q8⟩:=hq;exact aWh (aIs ok I8) hN hi hloc fun s9 I9=>⟨_,_,I9,q8⟩
    | brk=>obtain⟨σ',H',I8,q8⟩:=hq;exact aWh (aIs ok I8) hN hi hloc fun s9 I9=>⟨_,_,I9,q8⟩
    | cont=>obtain⟨σ',H',I8,q8⟩:=hq;exact aWh (aIs ok I8) hN hi hloc fun s9 I9=>⟨_,_,I9,q8⟩
    | ret u=>obtain⟨v,σ',H',I8,rv,q8⟩:=hq;exact aWh (aIs ok I8) hN hi hloc fun s9 I9=>⟨v,_,_,I9,rv,q8⟩
abbrev Cx.tri (X:Cx)(pins:List (Addr×Obj))(hl:List ExceptHandler)(Q:Flow->Qe->Prop):Cx:=
 {X with pn:=X.pn++pins,xe:=fun e s=>Qs (Qp X.prog X.w) X.A (noteFrame e X.env) (fun _ s2=>Qs (Qp X.prog X.w) X.A (setFlight e none) (fun _ s3=>Qs (Qp X.prog X.w) X.A (handleBy e X.env hl) Q X.xe s3) X.xe s2) X.xe s}
variable {pins aX5:List (Addr×Obj)}{σ:St}{H:Hp}{s:Qe}{hl:List ExceptHandler}{Q:Flow->Qe->Prop}{c ea:Addr}{e:Qc}
theorem bNb (ok:X.Ok):(Cx.tri X pins hl Q).Ok:=
 ⟨ok.mod,ok.kind,ok.glob,ok.blt,ok.above,ok.inj,ok.has,ok.cab,ok.hd,ok.frames,ok.stk,ok.exf,ok.bs,ok.bsz,ok.bG4,ok.bFs,ok.aRq,ok.frf⟩
theorem bEw (ok:(Cx.tri X pins hl Q).Ok):X.Ok:=
 ⟨ok.mod,ok.kind,ok.glob,ok.blt,ok.above,ok.inj,ok.has,ok.cab,ok.hd,ok.frames,ok.stk,ok.exf,ok.bs,ok.bsz,ok.bG4,ok.bFs,ok.aRq,ok.frf⟩
theorem bJ4 (I:Inv X pins σ H s):Inv (Cx.tri X pins hl Q) [] σ H s:=⟨bNb I.ok,I.os,I.bare,I.base,I.loc,I.cell,I.free,I.aHz,fun p hp=>I.pin p (by rwa [Z3] at hp),I.hok,I.len⟩
theorem aGx (I:Inv (Cx.tri X pins hl Q) aX5 σ H s):Inv X pins σ H s:=⟨bEw I.ok,I.os,I.bare,I.base,I.loc,I.cell,I.free,I.aHz,fun p hp=>I.pin p (Yy _ hp),I.hok,I.len⟩
theorem bCa (hst:X.stack=X.env::X.outer)(hf:X.env.frame=some X.env.locals)(x:Exc (Cx.tri X pins hl Q) aX5 σ H c e s){R:Unit->Qe->Prop}{E:Qc->Qe->Prop}
  (k: ∀ea h',e= .ref ea->aQb X pins σ H ea c {s with heap:=h'}->R () {s with heap:=h'}):
  Qs (Qp X.prog X.w) X.A (noteFrame e X.env) (fun _ s2=>Qs (Qp X.prog X.w) X.A (setFlight e none) R E s2) E s:=by
 obtain⟨ea,rfl,⟨h,args,hm,I'⟩ |⟨s1,H1,I',os,bare,un,fl⟩⟩:=x
 ·have I:=aGx I'
  have ff:h.FunFrames X.base X.stack:=I.stack;obtain⟨t,he,htn,ht⟩:=hm.there;have fresh: ∀b,h.get? b=none->(Yz h (frs X.stack)).get? b=none:=fun b hb=>by
   cases q:(Yz h (frs X.stack)).get? b with
   | none=>rfl
   | some o=>have:=Ub _ q;rw[hb] at this;cases this
  have fh:h.FunFrames (Yz h (frs X.stack)) X.stack:=Wq ff fun env he a ha=>List.mem_filterMap.mpr ⟨env,he,ha⟩
  have fs:s.heap.FunFrames (Yz h (frs X.stack)) X.stack:=fh.of_keeps fun b o hb _=>⟨o,hm.keeps b o hb,rfl⟩
  unfold noteFrame;simp only[hf];refine Qb (wpAny_field he rfl (x:=Value.none) rfl ?_);rw[if_neg (by decide)];have fs':s.heap.FunFrames (Yz h (frs X.stack)) (X.env::X.outer):=hst▸fs;refine wpAny_entryW (base:=Yz h (frs X.stack)) (a0:= .ref t) (by rw[I.ok.frames,hst]) fs' hf he (fun b o hb=>hm.keeps b o (Ub _ hb)) (fresh ea hm.new) rfl (by show 1<6;decide) rfl fun h4 hN=> ?_
  obtain⟨n1,n2,n3,n4⟩:=hN;refine wpAny_landsW ⟨n1,fresh ea hm.new,n2,n3⟩ fun h5 y1' y2=>k ea h5 rfl ?_
  have y1:Heap.FlyingW (Yz h (frs X.stack)) X.stack ea (.ref c) (.ref t) h5:=by
   obtain⟨z1,z2,z3,z4⟩:=y1';exact⟨z1,z2,by rw[hst];rw[hst] at z3;exact z3,z4⟩
  refine aQb.moved (s1:={s with heap:=h}) I rfl I.bare (Un.kept hm.keeps) (fun b o o' q nb eb=> ?_) (fun a o ea'=> ?_) y1 (Heap.UpToSlots.trans n4 y2)
  ·have:=hm.keeps b o' q
   rw[eb] at this;cases this;exact Jt _ q nb
  ·refine (I.hok a o ea').stay (fun b u hb q=>Jt _ q fun z=> ?_) (fun _ q=>q) fun _ _ q=>q
   have hn:=I.aKy b z;rcases hb with rfl | hb
   ·rw[hn] at ea';cases ea'
   ·rw[hn] at hb;cases hb
 ·exact aQb.looks hst hf ⟨s1,H1,aGx I',os,bare,un,fl⟩ fun h' f=>k ea h' rfl f
theorem bIu {tb:List Stmt}{F:Rho->Option Out}{h₀:ExceptHandler}{pos:Pos}(hst:X.stack=X.env::X.outer)(hf:X.env.frame=some X.env.locals)(hb: ∀pins Q,PDB (Cx.tri X pins (h₀::hl) Q) B tb F)(hh:bO6 X B (h₀::hl) hs):
  PDS X B (.Try tb (h₀::hl) [] [] pos) (bIf F hs):=by
 intro pins s σ H E I h;obtain⟨ρ,r,h⟩:=h;refine wpAny_Try_except (Yq (hb pins (SP X pins E) [] s σ H E (bJ4 I) ⟨ρ,r,?_⟩) (fun fl s1 q=> ?_) fun e s1 z=>z)
 ·unfold bIf at h
  cases q:F ρ with
  | none=>rw[q] at h;exact Qd h
  | some o=>
   rw[q] at h;cases o with
   | nx ρ'=>exact h
   | rt d=>exact h
   | bk ρ'=>exact h
   | ct ρ'=>exact h
   | ex c ρ'=>exact fun aX5 s' σ' H' e r' x=>bCa hst hf x fun ea h' ee f=>by subst ee;exact hh pins σ' H' c ea _ E ρ' f r' h
 ·cases fl with
  | next=>obtain⟨σ',H',I',q'⟩:=q;exact wpAny_execs_nil ⟨σ',H',aGx I',q'⟩
  | brk=>obtain⟨σ',H',I',q'⟩:=q;exact⟨σ',H',aGx I',q'⟩
  | cont=>obtain⟨σ',H',I',q'⟩:=q;exact⟨σ',H',aGx I',q'⟩
  | ret u=>obtain⟨v,σ',H',I',rv,q'⟩:=q;exact⟨v,σ',H',aGx I',rv,q'⟩
end
section
variable {X:Cx}{B:Hp}{tg iter c:Expr}{fa:Rho->M D}{ft:Rho->M Bool}{pos p:Pos}{x y:Str}{k k2:Nat}
def itE (f:Rho->M D):Rho->M (List D):=fun ρ=>bnd (f ρ) itD
theorem bEc (h:PD X B iter fa):PIt X B tg iter (itE fa):=by
 intro pins s σ H R ρ I r q;refine bOv (tg:=tg) h pins s σ H R I ⟨ρ,r,(Res.bind q).imp fun d q1 v H1 e1 i1=> ?_⟩;cases i1 with
 | lst hh rr=>exact .inl ⟨_,rfl,⟨_,hh⟩,q1 _ H1 e1 (aMr hh rr)⟩
 | tup hh rr=>exact .inr ⟨_,rfl,⟨_,hh.sq⟩,q1 _ H1 e1 (aRg hh rr)⟩
 | _=>exact Qd q1
def bOu:D->M (List D)
 | .int j=>if-(2^62)<=j/\j<2^62 then ok (rng 0 j.toNat) else none
 | _=>none
def itR (f:Rho->M D):Rho->M (List D):=fun ρ=>bnd (f ρ) bOu
theorem bAj (hg:Gl X "range")(hm:X.mg "range"=none)(h:PD X B c fa)(hs:aDn c=true:=by rfl):PIt X B tg (.Call (.Name "range" p) [c] [] pos) (itR fa):=by
 intro pins s σ H R ρ I r q;refine aM8 (tg:=tg) hg hm (aBx h aD4 (aBf hs)) (aHy hs) pins s σ H R I ⟨ρ,r,(Res.bind q).imp fun d q1 v H1 e1 i1=> ?_⟩;cases i1 with
 | int j=>
  dsimp only[bOu] at q1
  split at q1
  ·rename_i hb;exact⟨_,rfl,hb.1,hb.2,q1 _ H1 e1 (aVj 0 _ H1)⟩
  ·exact Qd q1
 | _=>exact Qd q1
def h1:D->Option (List D):=fun d=>some [d]
theorem aSv (hN:X.N.Nodup)(hi:X.N[k]? =some x)(hx:Loc X.env.scope x)(hf:X.fn x=true\/X.env.scope.names.lookup x=some .local:=by first | exact .inl rfl | exact .inr rfl | assumption):PDH X (.Name x pos) [k] h1:=by
 intro pins s σ H v u Q I r h;obtain⟨d,es,i,e,q⟩:=h;cases e;exact aQx hN hi hx hf pins s σ H v u Q I r (q [v] (.cons i .nil) rfl)
def h2:D->Option (List D)
 | .tup [a,b]=>some [a,b]
 | _=>none
theorem aKg:PIf X B [] (fun _=>ok true):= .inl ⟨rfl,rfl⟩
theorem aWp (h:PDT X B c ft):PIf X B [c] ft:= .inr ⟨c,rfl,h⟩
end
section
variable {X:Cx}{B:Hp}{e:Expr}{fa:Rho->M D}{pos p:Pos}
def toT:D->M D
 | .lst ds=>ok (.tup ds)
 | .tup ds=>ok (.tup ds)
 | _=>none
def toL:D->M D
 | .lst ds=>ok (.lst ds)
 | .tup ds=>ok (.lst ds)
 | _=>none
theorem aFd (hg:Gl X "tuple")(hm:X.mg "tuple"=none)(ha:PD X B e fa)(hs:aDn e=true:=by rfl):PD X B (.Call (.Name "tuple" p) [e] [] pos) (f1 toT fa):=by
 refine PE.of (aIa aR0 hg hm boot_tuple (aBx ha aD4 (aBf hs)) (he:=aBf hs) (hpl:=by rfl)) fun σ H Q h=> ?_
 obtain⟨ρ,r1,h⟩:=h;refine⟨ρ,r1,(Res.bind h).imp fun d q1 v H1 e1 i1=> ?_⟩;cases i1 with
 | lst hh rr=>exact⟨_,_,rfl,.inl ⟨hh,fun l hl=>q1 _ _ (e1.trans (aA5 hl _)) (.tup (TQ.of aAy) (rr.mono (aA5 hl _)))⟩⟩
 | tup hh rr=>exact⟨_,_,rfl,.inr ⟨hh.sq,q1 _ H1 e1 (.tup hh rr)⟩⟩
 | _=>exact Qd q1
theorem bI1 (hg:Gl X "list")(hm:X.mg "list"=none)(ha:PD X B e fa)(hs:aDn e=true:=by rfl):PD X B (.Call (.Name "list" p) [e] [] pos) (f1 toL fa):=by
 refine PE.of (aIa aL3 hg hm boot_list (aBx ha aD4 (aBf hs)) (he:=aBf hs) (hpl:=by rfl)) fun σ H Q h=> ?_
 obtain⟨ρ,r1,h⟩:=h;refine⟨ρ,r1,(Res.bind h).imp fun d q1 v H1 e1 i1=> ?_⟩;cases i1 with
 | lst hh rr=>exact⟨_,_,rfl,.inl hh,fun l hl=>q1 _ _ (e1.trans (aA5 hl _)) (.lst (SqL.of aAy) (rr.mono (aA5 hl _)))⟩
 | tup hh rr=>exact⟨_,_,rfl,.inr hh,fun l hl=>q1 _ _ (e1.trans (aA5 hl _)) (.lst (SqL.of aAy) (rr.mono (aA5 hl _)))⟩
 | _=>exact Qd q1
end
def flD:D->Option V
 | .non=>some .non
 | .bl b=>some (.bl b)
 | .int i=>some (.int i)
 | .str x=>some (.str x)
 | _=>none
def flL:List D->Option (List V)
 | []=>some []
 | d::ds=>match flD d,flL ds with
  | some v,some vs=>some (v::vs)
  | _,_=>none
def bPk:D->Option (List D)
 | .lst ds=>some ds
 | .tup ds=>some ds
 | _=>none
def gIn (neg:Bool)(x y:D):M D:=match flD x,(bPk y).bind flL with
 | some v,some vs=>ok (.bl (if neg then !inV v vs else inV v vs))
 | _,_=>none
section
variable {K:Qa}{H:Hp}
theorem bOa {d:D}{v v':V}(i:Is K H d v)(h:flD d=some v'):v=v'/\aOz v=true:=by
 cases i with
 | non=>cases h;exact⟨rfl,rfl⟩
 | bl b=>cases h;exact⟨rfl,rfl⟩
 | int b=>cases h;exact⟨rfl,rfl⟩
 | str b=>cases h;exact⟨rfl,rfl⟩
 | _=>cases h
theorem bB4: ∀{ds:List D} {vs vs':List V},IsL K H ds vs->flL ds=some vs'->vs=vs'/\vs.all aOz=true
 | _,_,_,.nil,h=>by cases h;exact⟨rfl,rfl⟩
 | _,_,_,.cons (d:=d) (ds:=ds) i r,h=>by
  unfold flL at h;split at h
  ·rename_i v0 vs0 h1 h2
   cases h;obtain⟨e1,f1⟩:=bOa i h1;obtain⟨e2,f2⟩:=bB4 r h2;exact⟨by rw[e1,e2],by rw[Zo,f1,f2];rfl⟩
  ·cases h
end
section
variable {X:Cx}{B:Hp}{a b:Expr}{fa fb:Rho->M D}{pos:Pos}
theorem bRc (neg:Bool):aO2 X (rIn X.K neg) (gIn neg):=by
 intro H x y dx dy d Q ix iy e q;unfold gIn at e;split at e
 ·rename_i v vs h1 h2
  cases e;obtain⟨e1,f1⟩:=bOa ix h1;subst e1;cases iy with
  | lst hh rr=>
   obtain⟨e2,f2⟩:=bB4 rr h2;subst e2;exact⟨_,_,rfl,.inl hh,f1,f2,q _ H (Same.refl H) (.bl _)⟩
  | tup hh rr=>
   obtain⟨e2,f2⟩:=bB4 rr h2;subst e2;exact⟨_,_,rfl,.inr hh,f1,f2,q _ H (Same.refl H) (.bl _)⟩
  | _=>cases h2
 ·cases e
theorem aW8 (neg:Bool):aHd (gIn neg):=fun x y c h=>by
 unfold gIn at h;split at h
 ·cases h
 ·cases h
theorem bGy (ha:PD X B a fa)(hb:PD X B b fb)(hm:Y8 .In b=false:=by rfl):PDT X B (.Compare a [.In] [b] pos) (aAm (b2 (gIn false) fa fb)):=aEn bAz (bRc false) (aW8 false) ha hb hm
theorem aGu (ha:PD X B a fa)(hb:PD X B b fb)(hm:Y8 .NotIn b=false:=by rfl):PDT X B (.Compare a [.NotIn] [b] pos) (aAm (b2 (gIn true) fa fb)):=aEn aSx (bRc true) (aW8 true) ha hb hm
theorem aXe (ss:List Str):flL (ss.map D.str)=some (ss.map V.str):=by
 induction ss with
 | nil=>rfl
 | cons x r ih=>rw[Q4,flL,ih];rfl
theorem aW9 (x:Str)(ss:List Str):inV (.str x) (ss.map V.str)=ss.contains x:=by
 unfold inV
 induction ss with
 | nil=>rfl
 | cons y r ih=>
  rw[Q4,Jm,ih,Vd];show ((decide (y=x)) || _)=_;by_cases e:x=y
  ·subst e;simp
  ·have e':¬y=x:=fun z=>e z.symm
   simp[e,e']
end
theorem aL1 {env:Env}:aOp [] env=true:=rfl
theorem aIf {env:Env}{x:Str}{c:Addr}{cl:List (Str×Addr)}(h1:env.cells.lookup x=some c)(h2:env.kindOf x=some .cell\/env.kindOf x=some .free)(r:aOp cl env=true):aOp ((x,c)::cl) env=true:=by
 unfold aOp at r⊢;rw[Zo,r,Bool.and_true]
 dsimp only
 rw[h1];rcases h2 with h2 | h2<;>rw[h2]<;>simp
section
variable {X:Cx}{B:Hp}{scope:Scope}{cl:List (Str×Addr)}{N':List Str}{m:Nat}{tg iter elt:Expr}{ifs:List Expr}{pos:Pos}{ks:List Nat}{G:D->Option (List D)}{ft:Rho->M Bool}{fe:Rho->M D}{it:Rho->M (List D)}
theorem aG3 (hclos:closureFor scope X.env=pure cl)(hcell:scope.names.all (fun y=>y.2 != .cell)=true)(hkind:scope.kind= .function)(hnames:scope.names.all (fun y=>y.2 != .local || scope.names.lookup y.1==some .local)=true)(hcl:aOp cl X.env=true)
  (hnm:aYc X.N N' (relabel scope X.env)=true) (hf:aVu cl (relabel scope X.env)=true) (hl:N'.length=X.N.length+m) (hks:ks.all (fun k=>decide (X.N.length<=k))=true) (hcm:X.calm=true) (hi:PIt X B tg iter it)
  (hg: ∀C s₀ H₀ ex,PDH (cxC X scope cl N' C s₀ H₀ ex) tg ks G) (ht: ∀C s₀ H₀ ex B,PIf (cxC X scope cl N' C s₀ H₀ ex) B ifs ft) (he: ∀C s₀ H₀ ex B,PD (cxC X scope cl N' C s₀ H₀ ex) B elt fe)
  (hs: ∀x,Zp iter X.env x=pure x:=by intro _;rfl):PD X B (.ListComp elt [⟨tg,iter,ifs,0⟩] scope pos) (cmp m it ks G ft fe):=
 bI6 hclos (fun y hy=>by have:=List.all_eq_true.mp hcell y hy;simpa using this) hkind
  (fun y hy z=>by have:=List.all_eq_true.mp hnames y hy;rw[z] at this;simpa using this) hcl hnm hf hl
  (fun k hk=>of_decide_eq_true (List.all_eq_true.mp hks k hk)) hcm hi hg ht he hs
end
section
variable {X:Cx}{B:Hp}{a b:Expr}{fa fb:Rho->M D}{pos:Pos}
theorem OpR.or {f:Qc->Qc->Sem Qc}{r r':R2}(h:OpR X f r)(h':OpR X f r'):OpR X f (fun x y H Q=>r x y H Q\/r' x y H Q):=by
 intro pins s σ H x y v u Q I rx ry q;rcases q with q | q
 ·exact h pins s σ H x y v u Q I rx ry q
 ·exact h' pins s σ H x y v u Q I rx ry q
def bL9 (K:Qa):R2:=fun x y H Q=> ∃a b ys,x= .ref a/\y= .ref b/\SqT K H a []/\SqT K H b ys/\Q (.ref b) H
theorem bJg:OpR X (binaryOp .Add) (bL9 X.K):=by
 intro pins s σ H x y v u Q I rx ry h;obtain⟨a,b,ys,rfl,rfl,ha,hb,q⟩:=h;cases rx;cases ry;obtain⟨its,r1,p1,_⟩:=I.tuple ha;obtain⟨its2,r2,p2,_⟩:=I.tuple hb;have e1:its=[]:=r1.aRe.mpr rfl;subst e1;obtain⟨⟨c1,d1,x1,l1⟩,o1,k1,n1,z1⟩:=p1;obtain⟨⟨c2,d2,x2,l2⟩,o2,k2,n2,z2⟩:=p2
 dsimp only at k1 z1 k2 z2
 subst k1 z1 k2 z2;exact concat_meets ⟨_,o1,rfl⟩ ⟨_,o2,rfl⟩ noFill_tuple_add seq_tuple_add Uo Ui (Ug _ _)
  (tuple_addW0 a b _ _ n1 n2 d1 d2 l1 l2 rfl) ⟨o1,o2,⟨.ref b,H,I,rfl,q⟩⟩
def bL8 (K:Qa):R2:=fun x y H Q=> ∃a b xs ys,x= .ref a/\y= .ref b/\SqL K H a xs/\SqL K H b ys/\xs.length+ys.length<=Q0/\∀p,H p=none->Q (.ref p) (upd H p (.lst (xs++ys)))
theorem bJf:OpR X (binaryOp .Add) (bL8 X.K):=by
 intro pins s σ H x y v u Q I rx ry h;obtain⟨a,b,xs,ys,rfl,rfl,ha,hb,hz,q⟩:=h;cases rx;cases ry;obtain⟨its,r1,p1,_⟩:=I.list ha;obtain⟨its2,r2,p2,_⟩:=I.list hb;have hl1:=r1.length;have hl2:=r2.length;obtain⟨⟨c1,d1,x1,l1⟩,n1,o1,k1,_,z1⟩:=p1;obtain⟨⟨c2,d2,x2,l2⟩,n2,o2,k2,_,z2⟩:=p2
 dsimp only at k1 z1 k2 z2
 subst k1 z1 k2 z2;refine concat_meets ⟨_,o1,rfl⟩ ⟨_,o2,rfl⟩ noFill_list_add seq_list_add PySem.F.slot_list_add PySem.F.entry_list_add (PySem.F.args_list_add_2 _ _)
  (list_addW a b _ _ n1 n2 d1 d2 l1 l2 (by rw[Qk,Qk,<-hl1,<-hl2];exact hz)) ⟨o1,o2,?_⟩
 have ea:its.toArray++its2.toArray=(its++its2).toArray:=by simp
 rw[ea];exact⟨.ref _,_,I.bP8 (t':=s.toks) (r1.append r2) (by rw[Ql];exact hz),rfl,q _ I.fresh⟩
def aCc:D->D->M D
 | .int i,.int j=>ok (.int (i+j))
 | .str i,.str j=>if i.length+j.length<=100000 then ok (.str (i++j)) else none
 | .tup xs,.tup ys=>if xs.length+ys.length<=100000 then ok (.tup (xs++ys)) else none
 | .lst xs,.lst ys=>if xs.length+ys.length<=100000 then ok (.lst (xs++ys)) else none
 | _,_=>none
theorem bNe:aHd aCc:=by
 intro x y c h;unfold aCc at h
 (repeat' split at h)<;>cases h
theorem aRf {n:Nat}(h:n<=100000):n<=Q0:=Z2 h (by decide)
def bL5 (K:Qa):R2:=fun x y H Q=>(∃i j,x= .int i/\y= .int j/\Q (.int (i+j)) H)\/(∃i j,x= .str i/\y= .str j/\i.length+j.length<=Q0/\Q (.str (i++j)) H)\/bL9 K x y H Q\/bL7 K x y H Q\/bL8 K x y H Q
theorem bI9:OpR X (binaryOp .Add) (bL5 X.K):=OpR.or bNa (OpR.or aYa (OpR.or bJg (OpR.or bJe bJf)))
theorem bLy:aO2 X (bL5 X.K) aCc:=by
 intro H x y dx dy d Q ix iy e q;unfold aCc at e;split at e
 ·cases ix;cases iy;cases e
  exact .inl ⟨_,_,rfl,rfl,q _ H (Same.refl H) (.int _)⟩
 ·split at e
  ·rename_i hz
   cases ix;cases iy;cases e;exact .inr (.inl ⟨_,_,rfl,rfl,aRf hz,q _ H (Same.refl H) (.str _)⟩)
  ·cases e
 ·split at e
  ·rename_i hz
   cases ix with
   | tup h1 r1=>
    cases iy with
    | tup h2 r2=>
     cases e;rw[r1.length,r2.length] at hz;cases r1 with
     | nil=>exact .inr (.inr (.inl ⟨_,_,_,rfl,rfl,h1,h2.sq,q _ H (Same.refl H) (.tup h2 r2)⟩))
     | cons i1 r1=>
      refine .inr (.inr (.inr (.inl ⟨_,_,_,_,rfl,rfl,h1,h2,by simp,aRf hz,fun z=> ?_,fun z p hp=> ?_⟩)))
      ·subst z
       cases r2;exact q _ H (Same.refl H) (by rw[Z3];exact .tup h1 (.cons i1 r1))
      ·exact q _ _ (aA5 hp _) (.tup (TQ.of aAy) ((IsL.append (.cons i1 r1) r2).mono (aA5 hp _)))
  ·cases e
 ·split at e
  ·rename_i hz
   cases ix with
   | lst h1 r1=>
    cases iy with
    | lst h2 r2=>
     cases e;rw[r1.length,r2.length] at hz;exact .inr (.inr (.inr (.inr ⟨_,_,_,_,rfl,rfl,h1,h2,aRf hz,fun p hp=>q _ _ (aA5 hp _) (.lst (SqL.of aAy) ((IsL.append r1 r2).mono (aA5 hp _)))⟩)))
  ·cases e
 ·cases e
theorem aC5 (ha:PD X B a fa)(hb:PD X B b fb):PD X B (.BinOp a .Add b pos) (b2 aCc fa fb):=aX8 bI9 bLy bNe ha hb
end
section
variable {X:Cx}{B:Hp}{a b:Expr}{fa fb:Rho->M D}{pos:Pos}
def aUu (x:Str)(n:Nat):Str:=⟨(Q9 n x.cps).foldl (· ++ ·) #[]⟩
def bPq:R2:=fun x y H Q=> ∃z k,x= .str z/\y= .int k/\0<=k/\z.length<=1000/\k<=1000/\Q (.str (aUu z k.toNat)) H
theorem rep0 (x:Str):aUu x 0=Zl:=rfl
theorem rep1 (x:Str):aUu x 1=x:=by
 unfold aUu;simp
theorem bR3 {x:Str}(h:x.length=0)(n:Nat):aUu x n=x:=by
 obtain⟨c⟩:=x;have e:c= #[]:=Array.size_eq_zero_iff.mp h;subst e;unfold aUu
 congr 1
 induction n with
 | zero=>rfl
 | succ n ih=>rw[U6,Ua];exact ih
theorem bAa (x:Str)(n:Nat):(aUu x n).length=n*x.length:=by
 have g: ∀(m:Nat) (a:Array Nat),((Q9 m x.cps).foldl (· ++ ·) a).size=a.size+m*x.cps.size:=by
  intro m
  induction m with
  | zero=>intro a;simp
  | succ m ih=>intro a;rw[U6,Ua,ih,Vf,Nat.succ_mul];omega
 show ((Q9 n x.cps).foldl (· ++ ·) #[]).size=n*x.cps.size;rw[g];simp
theorem bJc:OpR X (binaryOp .Mult) bPq:=by
 intro pins s σ H x y v u Q I rx ry h;obtain⟨z,k,rfl,rfl,h0,hz,hk,q⟩:=h;obtain⟨t,rfl⟩:=rx;obtain⟨t',rfl⟩:=ry;refine P.mul_str ?_ (fun h1 h2=> ?_) (fun h1 h2=> ?_) ?_
 ·have e1:decide (k< -(2^63:Int))=false:=decide_eq_false (by omega)
  have e2:decide (k≥2^63)=false:=decide_eq_false (by omega);rw[e1,e2];rfl
 ·have h3:(1001:Int)<=(2^63-1)/k:=by
   refine Int.le_ediv_of_mul_le (by omega) ?_;have:(1001:Int)*k<=1001*1000:=by omega
   omega
  omega
 ·have h3:z.length*k.toNat<=1000*1000:=Nat.mul_le_mul hz (by omega)
  exact decide_eq_false (by unfold Q0;omega)
 ·by_cases k0:k<1
  ·have ek:k.toNat=0:=by omega
   rw[if_pos k0];rw[ek,rep0] at q;exact⟨by decide,⟨.str Zl,H,I.tok _,⟨_,rfl⟩,q⟩⟩
  ·rw[if_neg k0]
   split
   ·rename_i hh
    have e:aUu z k.toNat=z:=by
     simp only[Z1,beq_iff_eq] at hh;rcases hh with hh | hh
     ·have ek:k.toNat=1:=by omega
      rw[ek,rep1]
     ·exact bR3 hh _
    rw[e] at q;exact⟨.str z,H,I,⟨t,rfl⟩,q⟩
   ·have hl:(aUu z k.toNat).length<=Q0:=by
     rw[bAa];have:k.toNat*z.length<=1000*1000:=Nat.mul_le_mul (by omega) hz;unfold Q0;omega
    exact⟨hl,⟨.str (aUu z k.toNat),H,I.tok _,⟨_,rfl⟩,q⟩⟩
def aD5:D->D->M D
 | .int i,.int j=>bO2 (.int i) (.int j)
 | .str z,.int k=>if 0<=k/\z.length<=1000/\k<=1000 then ok (.str (aUu z k.toNat)) else none
 | _,_=>none
theorem bJl:aHd aD5:=by
 intro x y c h;unfold aD5 bO2 at h
 (repeat' split at h)<;>cases h
theorem aIo (ha:PD X B a fa)(hb:PD X B b fb):PD X B (.BinOp a .Mult b pos) (b2 aD5 fa fb):=by
 refine aX8 (OpR.or bJd bJc) ?_ bJl ha hb;intro H x y dx dy d Q ix iy e q;unfold aD5 at e;split at e
 ·dsimp only[bO2] at e
  split at e
  ·rename_i h
   cases ix;cases iy;cases e;exact .inl ⟨_,_,rfl,rfl,h,q _ H (Same.refl H) (.int _)⟩
  ·cases e
 ·split at e
  ·rename_i h
   cases ix;cases iy;cases e;exact .inr ⟨_,_,rfl,rfl,h.1,h.2.1,h.2.2,q _ H (Same.refl H) (.str _)⟩
  ·cases e
 ·cases e
end
section
variable {K:Qa}{H₀ H:Hp}{ρ:Rho}{σ:St}
theorem Rel.bAx {i:Nat}{a:Addr}{ds:List D}{vs:List V}(r:Rel K H₀ ρ σ H)(hf:H a=none)(im:aCo ds=true)(iv:IsL K H ds vs):Rel K H₀ (ρ.set i (some (.own ds))) (σ.set i (some (.ref a))) (upd H a (.lst vs)):=by
 obtain⟨O,h1,ho,h2,hl,h3⟩:=id r;by_cases hi:i<σ.length
 case neg=>
  have s1: ∀x:Option SV,ρ.set i x=ρ:=fun x=>Zg (by omega)
  have s2: ∀x:Option V,σ.set i x=σ:=fun x=>Zg (by omega)
  rw[s1,s2];exact r.mono (aA5 hf _)
 have na: ∀j b,O j=some b->b≠a:=fun j b q e=>by
  subst e;obtain⟨u,w,m⟩:=ho j b q;rw[w] at hf;cases hf
 let O':Nat->Option Addr:=fun j=>if j=i then some a else O j
 have Oi:O' i=some a:=if_pos rfl;have On: ∀j,j≠i->O' j=O j:=fun j e=>if_neg e
 have hO':aSb (upd H a (.lst vs)) O':=fun j b q=>by
  by_cases e:j=i
  ·subst e
   rw[Oi] at q;cases q;exact⟨_,aAy,rfl⟩
  ·rw[On j e] at q
   have nb:=na j b q;obtain⟨u,w,m⟩:=ho j b q;exact⟨u,by rw[aAv nb];exact w,m⟩
 have sm:Same (Off H O) (Off (upd H a (.lst vs)) O'):=fun b o q=>by
  have qh:=Off.same H O b o q;have nb:b≠a:=fun e=>by subst e;rw[hf] at qh;cases qh
  refine Off.of (by rw[aAv nb];exact qh) fun j z=> ?_
  by_cases e:j=i
  ·subst e
   rw[Oi] at z;cases z;exact nb rfl
  ·rw[On j e] at z
   exact Off.not q j z
 refine⟨O',fun j k b q1 q2=> ?_,hO',h2.trans sm,by rw[Q3,Q3,hl],fun j sv q=> ?_⟩
 ·by_cases e1:j=i
  ·by_cases e2:k=i
   ·rw[e1,e2]
   ·subst e1
    rw[Oi] at q1;cases q1;rw[On k e2] at q2;exact absurd rfl (na k _ q2)
  ·by_cases e2:k=i
   ·subst e2
    rw[Oi] at q2;cases q2;rw[On j e1] at q1;exact absurd rfl (na j _ q1)
   ·rw[On j e1] at q1
    rw[On k e2] at q2;exact h1 j k b q1 q2
 ·by_cases e:j=i
  ·subst e
   have hj:j<ρ.length:=by
    have:=(List.getElem?_eq_some_iff.mp q).1
    rwa [Q3] at this
   rw[Q6 hj] at q;have q':=Option.some.inj (Option.some.inj q);subst q';exact⟨a,vs,Oi,Q6 (by rw[<-hl];exact hj),aAy,aIp hO' im (iv.mono (aA5 hf _))⟩
  ·rw[Qh (Ne.symm e)] at q
   have z:=h3 j sv q;cases sv with
   | sh d'=>obtain⟨v',e1,e2⟩:=z;exact⟨v',by rw[Qh (Ne.symm e)];exact e1,e2.mono sm⟩
   | own ds'=>
    obtain⟨b,ws,e1,e2,e3,e4⟩:=z;exact⟨b,ws,by rw[On j e];exact e1,by rw[Qh (Ne.symm e)];exact e2,by rw[aAv (na j b e1)];exact e3,e4.mono sm⟩
   | oin b C dx fs=>
    obtain⟨e1,e2,e3,ws,e4,e5⟩:=z;exact⟨by rw[On j e];exact e1,by rw[Qh (Ne.symm e)];exact e2,e3,ws,by rw[aAv (na j b e1)];exact e4,e5.mono sm⟩
   | ow o=>
    obtain⟨b,u,e1,e2,e3,e4⟩:=z;exact⟨b,u,by rw[On j e];exact e1,by rw[Qh (Ne.symm e)];exact e2,by rw[aAv (na j b e1)];exact e3,e4.mono sm⟩
   | tk ks=>obtain⟨b,e1,e2⟩:=z;exact⟨b,by rw[Qh (Ne.symm e)];exact e1,sm _ _ e2⟩
   | nl kd ls=>exact NL.move (by rw[Q3]) (Qh (Ne.symm e)) (fun m b w hm e1 e2=>⟨by rw[On m (by rcases hm with h | h<;>omega)];exact e1,by rw[aAv (na m b e1)];exact e2⟩) sm z
theorem Rel.aNb {i:Nat}{a:Addr}{ds ds':List D}{vs':List V}(O:Nat->Option Addr)(h1: ∀i j a,O i=some a->O j=some a->i=j)(ho:aSb H O)(h2:Same H₀ (Off H O))(hl:ρ.length=σ.length)
  (h3: ∀i sv,ρ[i]? =some (some sv)->Slot K H O σ i sv) (q:ρ[i]? =some (some (.own ds))) (z1:O i=some a) (z2:σ[i]? =some (some (.ref a))) (iv:IsL K (Off H O) ds' vs'):Rel K H₀ (ρ.set i (some (.own ds'))) σ (upd H a (.lst vs')):=by
 have eo:Off (upd H a (.lst vs')) O=Off H O:=Off.upd z1;refine⟨O,h1,fun j b qj=> ?_,by rw[eo];exact h2,by rw[Q3,hl],fun j sv qj=> ?_⟩
 ·by_cases e:b=a
  ·subst e;exact⟨_,aAy,rfl⟩
  ·obtain⟨u,w,m⟩:=ho j b qj
   exact⟨u,by rw[aAv e];exact w,m⟩
 ·by_cases e:j=i
  ·subst e
   have hj:j<ρ.length:=(List.getElem?_eq_some_iff.mp q).1;rw[Q6 hj] at qj;have q':=Option.some.inj (Option.some.inj qj);subst q';exact⟨a,vs',z1,z2,aAy,by rw[eo];exact iv⟩
  ·rw[Qh (Ne.symm e)] at qj
   have z:=h3 j sv qj;cases sv with
   | sh d'=>obtain⟨v',e1,e2⟩:=z;exact⟨v',e1,by rw[eo];exact e2⟩
   | own es=>
    obtain⟨b,ws,e1,e2,e3,e4⟩:=z;have nb:b≠a:=fun w=>e (h1 j i a (by rw[<-w];exact e1) z1)
    exact⟨b,ws,e1,e2,by rw[aAv nb];exact e3,by rw[eo];exact e4⟩
   | oin b C' dx' fs'=>
    obtain⟨e1,e2,e3,ws,e4,e5⟩:=z;have nb:b≠a:=fun w=>e (h1 j i a (by rw[<-w];exact e1) z1)
    exact⟨e1,e2,e3,ws,by rw[aAv nb];exact e4,by rw[eo];exact e5⟩
   | ow o=>
    obtain⟨b,u,e1,e2,e3,e4⟩:=z;have nb:b≠a:=fun w=>e (h1 j i a (by rw[<-w];exact e1) z1)
    exact⟨b,u,e1,e2,by rw[aAv nb];exact e3,by rw[eo];exact e4⟩
   | tk ks=>obtain⟨b,e1,e2⟩:=z;exact⟨b,e1,by rw[eo];exact e2⟩
   | nl kd ls=>
    have hi:i<σ.length:=by have:=(List.getElem?_eq_some_iff.mp q).1;omega
    exact NL.move rfl rfl (fun m b w hm e1 e2=>⟨e1,by rw[aAv (fun z=>absurd (h1 m i a (by rw[<-z];exact e1) z1) (by rcases hm with h | h<;>omega))];exact e2⟩) (by rw[eo];exact Same.refl _) z
end
section
variable {X:Cx}{B:Hp}{e e':Expr}{es:List Expr}{fa fb:Rho->M D}{ga:Rho->M (List D)}{pos pos' p p2 apos cpos:Pos}{x:Str}{i:Nat}
def sNew (i:Nat)(g:Rho->M (List D)):Rho->Option Out:=fun ρ=>lft (g ρ) ρ fun ds=>if aCo ds=true/\ds.length<=1000 then some (.nx (ρ.set i (some (.own ds)))) else none
theorem aQ1 (hN:X.N.Nodup)(hi:X.N[i]? =some x)(hx:Loc X.env.scope x)(he:PDA X B es ga)(hs:Yr (.List es p) (some (.Name x pos')) pos.line X.env=pure false:=by rfl)(hf:X.fn x=true\/X.env.scope.names.lookup x=some .local:=by first | exact .inl rfl | exact .inr rfl | assumption):
  PDS X B (.Assign [.Name x pos'] (.List es p) pos) (sNew i ga):=by
 refine PS.of (aM7 hN hi hx (bGw he) hs hf) fun E σ H h=> ?_
 obtain⟨ρ,r,h⟩:=h;refine⟨ρ,r,(aCh r h).imp fun ds h1 vs H1 e1 i1=> ?_⟩;split at h1
 ·rename_i hh
  refine⟨by rw[<-i1.length];exact Z2 hh.2 (by decide),fun l hl=> ?_⟩;exact h1 _ _ ((r.mono e1).bAx hl hh.1 i1)
 ·exact Qd h1
def aQr (G:List D->List D->Option (List D))(i:Nat)(g:Rho->M (List D)):Rho->Option Out:=fun ρ=>match ρ[i]? with
 | some (some (.own ds))=>lft (g ρ) ρ fun as=>if aCo as=true/\ds.length<100000 then (match G ds as with | some ds'=>some (.nx (ρ.set i (some (.own ds')))) | none=>none) else none
 | _=>none
def bQ5 (r:V->List V->Hp->VK->Prop)(G:List D->List D->Option (List D)):Prop:=
 ∀(K:Qa) (H0 H1:Hp) (l:Addr) (ds as ds':List D) (vs us:List V) (Q:VK),IsL K H0 ds vs->IsL K H0 as us->H1 l=some (.lst vs)->ds.length<100000->G ds as=some ds'->(∀vs',IsL K H0 ds' vs'->Q .non (upd H1 l (.lst vs')))->r (.ref l) us H1 Q
theorem bAq {id:String}{name:Str}{r:V->List V->Hp->VK->Prop}{G:List D->List D->Option (List D)}(slot:W8 "list" name id)(hty:typeOf (.builtin id)=pure (.type "method_descriptor"))(hm:MtM X id r)(hr:bQ5 r G)
  (hN:X.N[i]? =some x) (hv:Vis X.env.scope x) (ha:PDA X B (e::es) ga)
  (hfew:((backTo cpos (Qu (e::es) X.env)).all (fun x=> !x.1)&&(backToKw cpos (keywordEach [] X.env)).all (fun x=>x.1.isSome)
   &&decide ((e::es).length+([]:List Keyword).length+(if ([]:List Keyword).isEmpty then 0 else 1)<30))=true)
  (hs:Qu (e::es) X.env=(false,eval e X.env)::Qu es X.env) (hplain:(backTo cpos (Qu es X.env)).any (·.1)=false)
  (hline:(apos.endLine==cpos.line)=true:=by rfl)
  (hsw:Yr (.Call (.Attribute (.Name x p) name apos) (e::es) [] cpos) none pos.line X.env=pure false:=by rfl)
  (hd:(x==("__debug__":Str))=false:=by decide) (hcd:(x==("__classdict__":Str))=false:=by decide):
  PDS X B (.Expr (.Call (.Attribute (.Name x p) name apos) (e::es) [] cpos) pos) (aQr G i ga):=by
 refine PS.of (aQv (bMp Jb slot hty hm (aHo hN hv hd hcd) ha (hbase:=rfl) (hfew:=hfew) (hline:=hline) (hs:=hs) (hplain:=hplain)) hsw) fun E σ H h=> ?_
 obtain⟨ρ,r1,h⟩:=h;unfold aQr at h;split at h
 ·rename_i ds q
  obtain⟨O,h1,ho,h2,hl,h3⟩:=(show Rel X.K B ρ σ H from r1);obtain⟨a,vs,z1,z2,z3,z4⟩:=h3 i _ q;refine⟨.ref a,z2,.inl ⟨rfl,_,SqL.of z3⟩,ρ,r1,(aCh r1 h).imp fun as k1 us H1 e1 i1=> ?_⟩;split at k1
  ·rename_i hh
   split at k1
   ·rename_i ds' hG
    have ho1:=ho.mono e1;refine hr X.K (Off H1 O) H1 a ds as ds' vs us _ (z4.mono (Off.mono e1)) (aIp ho1 hh.1 i1) (e1 _ _ z3) hh.2 hG fun vs' i'=> ?_
    exact k1 _ _ (Rel.aNb O h1 ho1 (h2.trans (Off.mono e1)) hl (fun j sv qj=>(h3 j sv qj).mono e1) q z1 z2 i')
   ·exact Qd k1
  ·exact Qd k1
 ·exact Qd h
def aYf (ds:List D):List D->Option (List D)
 | [d]=>some (ds++ [d])
 | _=>none
theorem bNm:bQ5 bAf aYf:=by
 intro K H0 H1 l ds as ds' vs us Q i1 i2 hl hn hG q;unfold aYf at hG;split at hG
 ·cases hG
  cases i2 with
  | cons id1 rest=>
   cases rest;exact⟨l,vs,_,rfl,rfl,hl,by rw[<-i1.length];exact Q2 hn (by decide),q _ (i1.append (.cons id1 .nil))⟩
 ·cases hG
theorem aPv (hN:X.N[i]? =some x)(hv:Vis X.env.scope x)(ha:PD X B e fa)(hs:aDn e=true:=by rfl)(hline:(apos.endLine==cpos.line)=true:=by rfl)
  (hsw:Yr (.Call (.Attribute (.Name x p) "append" apos) [e] [] cpos) none pos.line X.env=pure false:=by rfl)
  (hd:(x==("__debug__":Str))=false:=by decide) (hcd:(x==("__classdict__":Str))=false:=by decide):
  PDS X B (.Expr (.Call (.Attribute (.Name x p) "append" apos) [e] [] cpos) pos) (aQr aYf i (aAb fa aAn)):=
 bAq PySem.F.slot_list_append PySem.F.type_list_append aNj bNm hN hv (aAa ha aAg (aBf hs)) (by rw[aHy hs];rfl) (aBf hs) rfl hline hsw hd hcd
def aUe {α:Type}(xs:List α)(k:Nat)(y:α):List α:=xs.take k++y::xs.drop k
def bE4 (ds:List D):List D->Option (List D)
 | [.int k,d]=>if 0<=k/\k<=100000 then some (aUe ds (min k.toNat ds.length) d) else none
 | _=>none
def bAe:V->List V->Hp->VK->Prop:=fun x vs H Q=> ∃l xs k y,x= .ref l/\vs=[.int k,y]/\H l=some (.lst xs)/\xs.length<Q0/\0<=k/\k<=100000/\Q .non (upd H l (.lst (aUe xs (min k.toNat xs.length) y)))
theorem bA5:MtM X "list.insert" bAe:=by
 intro pins s σ H x vs v us Q I rx rv h;obtain⟨l,xs,k,y,rfl,rfl,hH,hz,k0,k1,q⟩:=h;cases rx;obtain⟨u1,u,rfl,⟨t,rfl⟩,ru⟩:=rv.two;obtain⟨z,its,n,r,hl,e⟩:=I.bNj hH;have hfit:¬(!Builtin.List.listFitsIndex k)=true:=by
  have:Builtin.List.listFitsIndex k=true:=fitsIndex_both (by omega) (by omega);rw[this]
  decide
 refine call_meets F.slot_list_insert ⟨_,e,rfl⟩ F.entry_list_insert (F.args_list_insert_3 _ _ _) (AutoListH.list_insert_list_int_val_1 l its.toArray n k t u hfit (by rw[Qk];omega)) ⟨e,?_⟩;refine⟨.non,_,I.bNk (its':=aUe its (min k.toNat xs.length) u) hH e ?_ ?_ ?_,rfl,q⟩
 ·have hk:¬k<0:=by omega
  simp only[hk,if_false,Qk,<-hl];unfold aUe;simp;exact Ur (by rw[Z5];omega)
 ·unfold aUe
  exact (r.take _).append (.cons ru (r.drop _))
 ·unfold aUe
  rw[Ql,Zc,Za,Z5];omega
theorem bNl:bQ5 bAe bE4:=by
 intro K H0 H1 l ds as ds' vs us Q i1 i2 hl hn hG q;unfold bE4 at hG;split at hG
 ·rename_i k d
  split at hG
  ·rename_i hk
   cases hG;cases i2 with
   | cons ik rest=>
    cases ik;cases rest with
    | cons id1 rest=>
     cases rest;have hn':=hn;rw[i1.length] at hn';refine⟨l,vs,k,_,rfl,rfl,hl,Q2 hn' (by decide),hk.1,hk.2,q _ ?_⟩;unfold aUe;rw[i1.length];exact (i1.take _).append (.cons id1 (i1.drop _))
  ·cases hG
 ·cases hG
theorem aX7 (hN:X.N[i]? =some x)(hv:Vis X.env.scope x)(ha:PD X B e fa)(hb:PD X B e' fb)(hs:aDn e=true:=by rfl)(hs':aDn e'=true:=by rfl)(hline:(apos.endLine==cpos.line)=true:=by rfl)
  (hsw:Yr (.Call (.Attribute (.Name x p) "insert" apos) [e,e'] [] cpos) none pos.line X.env=pure false:=by rfl)
  (hd:(x==("__debug__":Str))=false:=by decide) (hcd:(x==("__classdict__":Str))=false:=by decide):
  PDS X B (.Expr (.Call (.Attribute (.Name x p) "insert" apos) [e,e'] [] cpos) pos) (aQr bE4 i (aAb fa (aAb fb aAn))):=
 bAq PySem.F.slot_list_insert PySem.F.type_list_insert bA5 bNl hN hv (aAa ha (aAa hb aAg (aBf hs')) (aBf hs)) (by rw[aOb hs hs'];rfl) (aBf hs) (by rw[aHy hs'];rfl) hline hsw hd hcd
end
section
variable {X:Cx}{B:Hp}{e:Expr}{es:List Expr}{fa:Rho->M D}{pos p:Pos}
def PJ (X:Cx)(B:Hp)(es:List Expr)(g:Rho->Str->M Str):Prop:=
 ∀(pins:List (Addr×Obj)) (s:Qe) (σ:St) (H:Hp) (ρ:Rho) (acc:Str) (Q:Str->Qe->Prop),Inv X pins σ H s->Rel X.K B ρ σ H->
  Res X σ H (fun out=>out.length<=Q0->∀s' H',Same H H'->Inv X pins σ H' s'->Q out s') (g ρ acc)->Joins (Qp X.prog X.w) X.A X.xe (evalEach es X.env) acc Q s
def aSa:Rho->Str->M Str:=fun _ acc=>if acc.length<=100000 then ok acc else none
def aMq (y:Str)(g:Rho->Str->M Str):Rho->Str->M Str:=fun ρ acc=>if (acc++y).length<=100000 then g ρ (acc++y) else none
def aTe (f:Rho->M D)(g:Rho->Str->M Str):Rho->Str->M Str:=fun ρ acc=>bnd (f ρ) fun d=>match d with
 | .str x=>if (Zz x).length<=100000/\(acc++Zz x).length<=100000 then g ρ (acc++Zz x) else none
 | _=>none
theorem aPs:PJ X B [] aSa:=by
 intro pins s σ H ρ acc Q I r h;unfold aSa at h;split at h
 ·rename_i hz
  exact h (aRf hz) s H (Same.refl H) I
 ·exact Qd h
theorem aKf {y:Str}{j:Nat}{g:Rho->Str->M Str}(hg:PJ X B es g):PJ X B (.Constant (.str y) j pos::es) (aMq y g):=by
 intro pins s σ H ρ acc Q I r h;unfold aMq at h;split at h
 ·rename_i hz
  refine thn (bGv (X:=X) (x:=y) (j:=j) (pos:=pos) pins s σ H (fun v H1=>v= .str y/\H1=H) I ⟨rfl,rfl⟩) fun v s1 ⟨x,H1,I1,r1,e1,e2⟩=> ?_
  subst e1 e2;obtain⟨t,rfl⟩:=r1;exact⟨y,t,rfl,aRf hz,hg pins s1 σ _ ρ (acc++y) Q I1 r h⟩
 ·exact Qd h
theorem aPr {g:Rho->Str->M Str}(he:PD X B e fa)(hg:PJ X B es g):PJ X B (.FormattedValue e 114 none pos::es) (aTe fa g):=by
 intro pins s σ H ρ acc Q I r h;show Qs _ _ (eval (.FormattedValue e 114 none pos) X.env) _ _ s;refine wpAny_FormattedValue_repr ?_;refine thn (he pins s σ H (fun v H1=> ∃x,v= .str x/\Same H H1/\((Zz x).length<=100000/\(acc++Zz x).length<=100000)/\Res X σ H (fun out=>out.length<=Q0->∀s' H',Same H H'->Inv X pins σ H' s'->Q out s') (g ρ (acc++Zz x))) I ⟨ρ,r,(Res.bind h).imp fun d h1 v H1 e1 i1=> ?_⟩) fun v s1 ⟨x',H1,I1,r1,x,e1,sm,hz,h1⟩=> ?_
 ·cases i1<;>first |(exact Qd h1) | skip
  rename_i x
  dsimp only at h1
  split at h1
  ·rename_i hz
   exact⟨x,rfl,e1,hz,h1⟩
  ·exact Qd h1
 ·subst e1
  obtain⟨t,rfl⟩:=r1;refine PySem.wpAny_pyReprObj_str ?_ (aRf hz.1);have fin: ∀(t:Tok) (k:Nat),Joins (Qp X.prog X.w) X.A X.xe (evalEach es X.env) (acc++Zz x) Q {s1 with toks:=k}:=fun t k=>
   hg pins {s1 with toks:=k} σ H1 ρ (acc++Zz x) Q (I1.tok _) (r.mono sm) (h1.mono sm fun out q hz s' H' e' I'=>q hz s' H' (sm.trans e') I')
  exact wpAny_formatField_str ⟨_,_,rfl,aRf hz.2,fin 0 _⟩ ⟨_,_,rfl,aRf hz.2,fin 0 _⟩ (aRf hz.1)
def jnd (g:Rho->Str->M Str):Rho->M D:=fun ρ=>bnd (g ρ Zl) fun x=>ok (.str x)
theorem aGv {e1 e2:Expr}{g:Rho->Str->M Str}(hg:PJ X B (e1::e2::es) g):PD X B (.JoinedStr (e1::e2::es) pos) (jnd g):=by
 intro pins s σ H Q I h;obtain⟨ρ,r,h⟩:=h;refine wpAny_JoinedStr (hg pins s σ H ρ Zl _ I r ((Res.bind h).imp fun x h1 hz s' H' e' I'=> ?_));exact⟨hz,⟨.str x,H',I'.tok _,⟨_,rfl⟩,h1 _ H' e' (.str x)⟩⟩
end
section
variable {X:Cx}{B:Hp}{e a b:Expr}{fa fb:Rho->M D}{pos p p2 pos2:Pos}
def bGo:List D->Option (List Str)
 | []=>some []
 | .str x::ds=>match bGo ds with | some xs=>some (x::xs) | none=>none
 | _::_=>none
theorem aG2 (xs:List Str):bGo (xs.map D.str)=some xs:=by
 induction xs with
 | nil=>rfl
 | cons x r ih=>rw[Q4];unfold bGo;rw[ih]
theorem aUm: ∀(ds:List D) {xs:List Str},bGo ds=some xs->ds=xs.map D.str
 | [],_,h=>by cases h;rfl
 | .str x::ds,_,h=>by
  unfold bGo at h;split at h
  ·rename_i xs hx
   cases h;rw[aUm ds hx];rfl
  ·cases h
 | .non::_,_,h=>nomatch h
 | .bl _::_,_,h=>nomatch h
 | .int _::_,_,h=>nomatch h
 | .tup _::_,_,h=>nomatch h
 | .lst _::_,_,h=>nomatch h
 | .obj _ _::_,_,h=>nomatch h
 | .dk _::_,_,h=>nomatch h
 | .dt _::_,_,h=>nomatch h
 | .exc _::_,_,h=>nomatch h
 | .set _::_,_,h=>nomatch h
theorem aZr {K:Qa}{H:Hp}: ∀{xs:List Str} {vs:List V} {its:List Qc},IsL K H (xs.map D.str) vs->Vals vs its->∀(i:Nat) (v:Qc),its[i]? =some v->∃t,v=Je (xs.getD i Zl) t
 | [],_,_,.nil,r,i,v,h=>by cases r;simp at h
 | x::xs,_,_,.cons i1 r1,r,i,v,h=>by
  cases i1;cases r with
  | cons q r=>
   obtain⟨t,rfl⟩:=q;cases i with
   | zero=>simp at h;subst h;exact⟨t,rfl⟩
   | succ i=>rw[List.getElem?_cons_succ] at h;exact aZr r1 r i v h
def toS:D->M D
 | .tup ds=>match bGo ds with | some xs=>if xs.length<=2000 then ok (.set (aDz xs)) else none | none=>none
 | .lst ds=>match bGo ds with | some xs=>if xs.length<=2000 then ok (.set (aDz xs)) else none | none=>none
 | _=>none
def bSe (K:Qa):List V->Hp->VK->Prop:=fun vs H Q=> ∃p ys xs,vs=[.ref p]/\(SqL K H p ys\/SqT K H p ys)/\IsL K H (xs.map D.str) ys/\xs.length<=2000/\∀l,H l=none->Q (.ref l) (upd H l (.set (fun k=>(aDz xs).contains k) (aDz xs).length))
theorem bCq (hc:X.calm=true):aHk X (.type "set") (bSe X.K):=by
 intro pins s σ H vs us Q I r h;obtain⟨p,ys,xs,rfl,hq,ix,hz,q⟩:=h;obtain⟨u,rfl,rx⟩:=vals1 r;cases rx;have hl:=ix.length;rw[Qi] at hl;have fin: ∀(its:List Qc),Vals ys its->∀(o:Obj) (n:Nat) (T:String),(T="list"\/T="tuple")->s.heap.get? p=some o->o.cls= .type T->o.data= .seq its.toArray n->Qs (Qp X.prog X.w) X.A (call (.type "set") [.ref p]) (EP X pins σ Q) X.xe s:=by
  intro its r' o n T hT ho hcl hd;have hlen:xs.length=its.toArray.size:=by rw[Qk,<-r'.length,hl]
  refine aTz hT (I.ok.hd hc) ho hcl hd (fun i v hv=>aZr ix r' i v (by simpa using hv)) hlen (by rw[<-hlen];show xs.length+1<4096;omega) fun h' tk z zt kp=> ?_
  exact⟨.ref s.heap.objs.size,_,I.laid (t':=tk) kp (Qr _) (show aCe X.prog X.w _ h' _ (.set _ _) from⟨z,zt⟩),rfl,q _ (I.hok.fresh (Qr _))⟩
 rcases hq with hq | hq
 ·obtain⟨its,r',⟨o,n,ho,hcl,_,hd⟩,_⟩:=I.list hq
  exact fin its r' o n "list" (.inl rfl) ho hcl hd
 ·obtain⟨its,r',⟨o,ho,hcl,n,hd⟩,_⟩:=I.tuple hq
  exact fin its r' o n "tuple" (.inr rfl) ho hcl hd
theorem boot_set:Jd "set"=some (.type "set"):=by decide+kernel
theorem aKj (hc:X.calm=true)(hg:Gl X "set")(hm:X.mg "set"=none)(ha:PD X B e fa)(hs:aDn e=true:=by rfl):PD X B (.Call (.Name "set" p) [e] [] pos) (f1 toS fa):=by
 refine PE.of (aIa (bCq hc) hg hm boot_set (aBx ha aD4 (aBf hs)) (he:=aBf hs) (hpl:=by rfl)) fun σ H Q h=> ?_
 obtain⟨ρ,r1,h⟩:=h;refine⟨ρ,r1,(Res.bind h).imp fun d q1 v H1 e1 i1=> ?_⟩;cases i1 with
 | lst hh rr=>
  dsimp only[toS] at q1
  split at q1
  ·rename_i xs hx
   have ed:=aUm _ hx;subst ed;split at q1
   ·rename_i hz
    exact⟨_,_,xs,rfl,.inl hh,rr,hz,fun l hl=>q1 _ _ (e1.trans (aA5 hl _)) (.set aAy)⟩
   ·exact Qd q1
  ·exact Qd q1
 | tup hh rr=>
  dsimp only[toS] at q1
  split at q1
  ·rename_i xs hx
   have ed:=aUm _ hx;subst ed;split at q1
   ·rename_i hz
    exact⟨_,_,xs,rfl,.inr hh,rr,hz,fun l hl=>q1 _ _ (e1.trans (aA5 hl _)) (.set aAy)⟩
   ·exact Qd q1
  ·exact Qd q1
 | _=>exact Qd q1
def bHb:D->M D
 | .set ss=>ok (.int ss.length)
 | d=>aJb d
theorem bCt:aHk X (.builtin "len") (fun xs H Q=> ∃p S n,xs=[.ref p]/\H p=some (.set S n)/\Q (.int n) H):=by
 intro pins s σ H xs us Q I r h;obtain⟨p,S,n,rfl,hp,q⟩:=h;obtain⟨u,rfl,rx⟩:=vals1 r;cases rx;obtain⟨⟨o,es,ep,t,ho,hex,hd,_,_,hb,hf,hn⟩,_⟩:=(show aCe X.prog X.w H s.heap p (.set S n) from I.hok p _ hp);refine call_len_set ho hex hd hf (by unfold scanBound at hb;omega) ⟨.int n,H,I.tok _,⟨_,by rw[hn]⟩,q⟩
theorem bAv (hg:Gl X "len")(hm:X.mg "len"=none)(ha:PD X B e fa)(hs:aDn e=true:=by rfl):PD X B (.Call (.Name "len" p) [e] [] pos) (f1 bHb fa):=by
 refine PE.of (aF2 (aHk.or aL4 bCt) hg hm PySem.boot_len (aBx ha aD4 (aBf hs)) (he:=aBf hs) (hpl:=by rfl)) fun σ H Q h=> ?_
 obtain⟨ρ,r1,h⟩:=h;refine⟨ρ,r1,(Res.bind h).imp fun d h1 v H1 e1 i1=> ?_⟩;cases i1 with
 | lst hh r=>exact .inl ⟨_,_,rfl,.inl hh,by rw[<-r.length];exact h1 _ H1 e1 (.int _)⟩
 | tup hh r=>exact .inl ⟨_,_,rfl,.inr hh,by rw[<-r.length];exact h1 _ H1 e1 (.int _)⟩
 | set hh=>exact .inr ⟨_,_,_,rfl,hh,h1 _ H1 e1 (.int _)⟩
 | _=>exact Qd h1
def bHi:D->D->M D
 | .set x,.set y=>ok (.bl (!(decide (x.length=y.length)&&x.all fun k=>y.contains k)))
 | _,_=>none
theorem bM3 (hu:X.A.units<cLine):OpR X (Yj .NotEq) (fun x y H Q=> ∃a b xs ys,x= .ref a/\y= .ref b/\H a=some (.set (fun k=>(xs:List Str).contains k) xs.length)/\H b=some (.set (fun k=>(ys:List Str).contains k) ys.length)/\Q (.bl (!(decide (xs.length=ys.length)&&xs.all fun k=>ys.contains k))) H):=by
 intro pins s σ H x y v u Q I rx ry h;obtain⟨a,b,xs,ys,rfl,rfl,ha,hb,q⟩:=h;cases rx;cases ry;have za:s.heap.SetOf (Qt X.prog X.w) a (fun k=>xs.contains k) xs.length:=(show aCe X.prog X.w H s.heap a (.set _ _) from I.hok a _ ha).1;have zb:s.heap.SetOf (Qt X.prog X.w) b (fun k=>ys.contains k) ys.length:=(show aCe X.prog X.w H s.heap b (.set _ _) from I.hok b _ hb).1;have ta:s.TypeIs (.ref a) "set":=by obtain⟨o,_,_,_,ho,hex,_⟩:=za;exact⟨o,ho,hex.1⟩
 have tb:s.TypeIs (.ref b) "set":=by obtain⟨o,_,_,_,ho,hex,_⟩:=zb;exact⟨o,ho,hex.1⟩
 show Qs _ _ (richCompare .NotEq (.ref a) (.ref b)) _ _ _;refine wpAny_richCompare_same_room ta tb F.slot_set_ne (Z6 F.slot_set_ne ta aTu (aUo za zb ?_) (F.args_set_ne_2 _ _)) hu;exact And.intro (fun z=>nomatch z) ⟨.bl _,H,I,rfl,q⟩
theorem bPp:aO2 X (fun x y H Q=> ∃a b xs ys,x= .ref a/\y= .ref b/\H a=some (.set (fun k=>(xs:List Str).contains k) xs.length)/\H b=some (.set (fun k=>(ys:List Str).contains k) ys.length)/\Q (.bl (!(decide (xs.length=ys.length)&&xs.all fun k=>ys.contains k))) H) bHi:=by
 intro H x y dx dy d Q ix iy e q;cases ix<;>cases iy<;>first |(cases e;done) | skip
 cases e;rename_i h1 _ _ h2;exact⟨_,_,_,_,rfl,rfl,h1,h2,q _ H (Same.refl H) (.bl _)⟩
theorem bP6:aHd bHi:=by intro x y c;cases x<;>cases y<;>(intro h;cases h)
theorem aUy {k:Nat}(hr:aFz k X.A)(ha:PD X B a fa)(hb:PD X B b fb):PDT X B (.Compare a [.NotEq] [b] pos) (aAm (b2 bHi fa fb)):=aEn (bM3 hr.bLi) bPp bP6 ha hb (aIe _)
theorem IsL.reverse {K:Qa}{H:Hp}: ∀{ds:List D} {vs:List V},IsL K H ds vs->IsL K H ds.reverse vs.reverse
 | _,_,.nil=> .nil
 | _,_,.cons i r=>by rw[Y0,Y0];exact IsL.append (IsL.reverse r) (.cons i .nil)
end
section
variable {X:Cx}{B:Hp}{e a b:Expr}{fa fb:Rho->M D}{pos p p2 pos2:Pos}
theorem bE9 {pins:List (Addr×Obj)}{σ:List (Option V)}{H:Hp}{s:Qe}(I:Inv X pins σ H s)(d:Drawn):Inv X pins σ H {s with drawn:=d}:=⟨I.ok,I.os,I.bare,I.base,I.loc,I.cell,I.free,I.aHz,I.pin,I.hok,I.len⟩
theorem bH8 {K:Qa}{H:Hp}: ∀{vs:List Qc} {xs:List Str},StrsAre vs xs->Vals (xs.map V.str) vs/\IsL K H (xs.map D.str) (xs.map V.str)
 | _,_,.nil=>⟨.nil,.nil⟩
 | _,_,.cons y t r=>⟨.cons ⟨t,rfl⟩ (bH8 (K:=K) (H:=H) r).1,.cons (.str y) (bH8 r).2⟩
def bLa:D->M D
 | .set ss=>if ss.length<64/\ss.Nodup then ok (.lst ((bDr ss).map .str)) else none
 | _=>none
theorem aTy (hc:X.calm=true):aHk X (.builtin "sorted") (fun xs H Q=> ∃p ss,xs=[.ref p]/\H p=some (.set (fun k=>(ss:List Str).contains k) ss.length)/\ss.length<64/\ss.Nodup/\∀l,H l=none->Q (.ref l) (upd H l (.lst ((bDr ss).map V.str)))):=by
 intro pins s σ H xs us Q I r h;obtain⟨p,ss,rfl,hp,h64,hn,q⟩:=h;obtain⟨u,rfl,rx⟩:=vals1 r;cases rx;obtain⟨z,zt⟩:=(show aCe X.prog X.w H s.heap p (.set _ _) from I.hok p _ hp);refine aXz (I.ok.hd hc) h64 hn z zt fun out l h' tk d m hS hl ho kp=> ?_
 have hlen:(bDr ss).length=ss.length:=(aMv ss).length_eq;have hs:Q0=16777216:=sizeLine_eq;exact⟨.ref l,_,(bE9 I d).laid (t':=tk) kp hl (show aCe X.prog X.w _ h' _ (.lst _) from⟨by rw[Qi];omega,out,m,(bH8 (K:=X.K) (H:=H) hS).1,ho⟩),rfl,q _ (I.hok.fresh hl)⟩
theorem boot_sorted:Jd "sorted"=some (.builtin "sorted"):=by decide+kernel
theorem bBj {K:Qa}{H:Hp}: ∀(xs:List Str),IsL K H (xs.map D.str) (xs.map V.str)
 | []=> .nil
 | x::xs=> .cons (.str x) (bBj xs)
theorem bAu (hc:X.calm=true)(hg:Gl X "sorted")(hm:X.mg "sorted"=none)(ha:PD X B e fa)(hs:aDn e=true:=by rfl):PD X B (.Call (.Name "sorted" p) [e] [] pos) (f1 bLa fa):=by
 refine PE.of (aF2 (aTy hc) hg hm boot_sorted (aBx ha aD4 (aBf hs)) (he:=aBf hs) (hpl:=by rfl)) fun σ H Q h=> ?_
 obtain⟨ρ,r1,h⟩:=h;refine⟨ρ,r1,(Res.bind h).imp fun d q1 v H1 e1 i1=> ?_⟩;cases i1 with
 | set hh=>
  dsimp only[bLa] at q1
  split at q1
  ·rename_i hz
   exact⟨_,_,rfl,hh,hz.1,hz.2,fun l hl=>q1 _ _ (e1.trans (aA5 hl _)) (.lst (SqL.of aAy) (bBj _))⟩
  ·exact Qd q1
 | _=>exact Qd q1
end
section
variable {X:Cx}{B:Hp}{e e':Expr}{es:List Expr}{fa fb:Rho->M D}{ga:Rho->M (List D)}{pos pos' p p2 apos cpos:Pos}{x:Str}{i:Nat}
def bSg (K:Qa):V->List V->Hp->VK->Prop:=fun x vs H Q=> ∃l b xs zs,x= .ref l/\vs=[.ref b]/\H l=some (.lst xs)/\SqL K H b zs/\xs.length+zs.length<=Q0/\Q .non (upd H l (.lst (xs++zs)))
theorem bNi:MtM X "list.extend" (bSg X.K):=by
 intro pins s σ H x vs v us Q I rx rv h;obtain⟨l,b,xs,zs,rfl,rfl,hH,hB,hz,q⟩:=h;cases rx;obtain⟨u,rfl,ru⟩:=rv.one;cases ru;obtain⟨z,its,n,r,hl,e⟩:=I.bNj hH;obtain⟨its2,r2,⟨o2,n2,ho2,hc2,_,hd2⟩,z2⟩:=I.list hB;have hl2:=r2.length;have hsz:its.toArray.size+its2.toArray.size<=Q0:=by rw[Qk,Qk];omega
 refine Z6 F.slot_list_extend ⟨_,e,rfl⟩ F.entry_list_extend ?_ (F.args_list_extend_2 _ _);show Qs _ _ (Zy (.ref l) (.ref b) .none) _ _ _;unfold Zy;refine Qb (wpAny_typeOf (T:="list") ⟨o2,ho2,hc2⟩ ?_);have ht:(Value.type "list"==Value.type "list")=true:=by rfl
 rw[if_pos (by rw[ht];simp)];refine Qb (listItems_at ho2 hd2 (Qb (listItems_at e rfl ?_)));rw[if_neg (by rw[bEy hsz,Bool.and_false];exact Q7)];refine Qb (listUpdate_at e rfl (Qf ⟨_,rfl,?_⟩) (by rw[Qk];omega) (by rw[Vf];omega));refine⟨.non,_,I.bNk (its':=its++its2) hH e (by simp) (r.append r2) ?_,rfl,q⟩;rw[Ql];omega
def bDc (i:Nat)(g:Rho->M (List D)):Rho->Option Out:=fun ρ=>match ρ[i]? with
 | some (some (.own ds))=>lft (g ρ) ρ fun as=>(match as with | [.lst es]=>if aCo es=true/\ds.length+es.length<=100000 then some (.nx (ρ.set i (some (.own (ds++es))))) else none | _=>none)
 | _=>none
theorem aPu (hN:X.N[i]? =some x)(hv:Vis X.env.scope x)(ha:PD X B e fa)(hs:aDn e=true:=by rfl)(hline:(apos.endLine==cpos.line)=true:=by rfl)
  (hsw:Yr (.Call (.Attribute (.Name x p) "extend" apos) [e] [] cpos) none pos.line X.env=pure false:=by rfl)
  (hd:(x==("__debug__":Str))=false:=by decide) (hcd:(x==("__classdict__":Str))=false:=by decide):
  PDS X B (.Expr (.Call (.Attribute (.Name x p) "extend" apos) [e] [] cpos) pos) (bDc i (aAb fa aAn)):=by
 refine PS.of (aQv (bMp Jb PySem.F.slot_list_extend PySem.F.type_list_extend bNi (aHo hN hv hd hcd) (aAa ha aAg (aBf hs)) (hbase:=rfl) (hfew:=by rw[aHy hs];rfl) (hline:=hline) (hs:=aBf hs) (hplain:=rfl)) hsw) fun E σ H h=> ?_
 obtain⟨ρ,r1,h⟩:=h;unfold bDc at h;split at h
 ·rename_i ds q
  obtain⟨O,h1,ho,h2,hl,h3⟩:=(show Rel X.K B ρ σ H from r1);obtain⟨a,vs,z1,z2,z3,z4⟩:=h3 i _ q;refine⟨.ref a,z2,.inl ⟨rfl,_,SqL.of z3⟩,ρ,r1,(aCh r1 h).imp fun as k1 us H1 e1 i1=> ?_⟩;split at k1
  ·rename_i es
   split at k1
   ·rename_i hh
    cases i1 with
    | cons id1 rest=>
     cases rest;cases id1 with
     | lst hq rr=>
      have ho1:=ho.mono e1;have il:=aIp ho1 hh.1 rr;have z4':=z4.mono (Off.mono e1 (O:=O));refine⟨a,_,vs,_,rfl,rfl,e1 _ _ z3,hq,?_,k1 _ _ (Rel.aNb O h1 ho1 (h2.trans (Off.mono e1)) hl (fun j sv qj=>(h3 j sv qj).mono e1) q z1 z2 (z4'.append il))⟩;rw[<-z4.length,<-rr.length];exact Z2 hh.2 (by decide)
   ·exact Qd k1
  ·exact Qd k1
 ·exact Qd h
end
def aLq (n:Nat)(f:List D->M D):List D->M D:=fun ds=>if ds.length=n then f ds else none
def aH1 (n:Nat)(f:List D->M D):List D->M D:=fun ds=>if ds.length=n then (match f ds with | some (.ok d)=>some (.ok d) | _=>none) else none
theorem aC2 {n:Nat}{f:List D->M D}: ∀ds r,aLq n f ds=some r->ds.length=n:=fun ds r h=>by
 unfold aLq at h;split at h
 ·assumption
 ·cases h
theorem aF1 {n:Nat}{f:List D->M D}: ∀ds r,aLq n f ds=some r->f ds=some r:=fun ds r h=>by
 unfold aLq at h;split at h
 ·exact h
 ·cases h
theorem aWf {n:Nat}{f:List D->M D}: ∀ds r,aH1 n f ds=some r->ds.length=n:=fun ds r h=>by
 unfold aH1 at h;split at h
 ·assumption
 ·cases h
theorem bGj {n:Nat}{f:List D->M D}: ∀ds r,aH1 n f ds=some r->∃d,r= .ok d/\f ds=ok d:=fun ds r h=>by
 unfold aH1 at h;split at h
 ·split at h
  ·rename_i d hd
   cases h;exact⟨d,rfl,hd⟩
  ·cases h
 ·cases h
theorem aD6 {n:Nat}{f:List D->M D}{ds:List D}{r:M D}(hl:ds.length=n)(h:f ds=r):aLq n f ds=r:=by unfold aLq;rw[if_pos hl,h]
theorem aA9 {n:Nat}{f:List D->M D}{ds:List D}{d:D}(hl:ds.length=n)(h:f ds=ok d):aH1 n f ds=ok d:=by unfold aH1;rw[if_pos hl,h];rfl
abbrev tS (xs:List Str):D:= .tup (xs.map D.str)
theorem aIh (xs:List Str):aCo (xs.map D.str)=true:=by
 induction xs with
 | nil=>rfl
 | cons x r ih=>rw[Q4,aCo,ih];rfl
theorem aHr (xs:List Str):(tS xs).imm=true:=aIh xs
theorem aOr (neg:Bool)(x:Str)(h:List Str):gIn neg (.str x) (tS h)=ok (.bl (if neg then !h.contains x else h.contains x)):=by
 unfold gIn;simp only[flD,bPk,Vc,aXe,aW9]
theorem aFv {k:Nat}{ft:Rho->M Bool}{fe:Rho->M D}{ρ:Rho}{p:Str->Bool}{g:Str->D}: ∀(l:List Str),(∀x∈l,ft (ρ.set k (some (.sh (.str x))))=ok (p x))->(∀x∈l,p x=true->fe (ρ.set k (some (.sh (.str x))))=ok (g x)/\(g x).imm=true)->
  aJ3 [k] h1 ft fe (l.map D.str) ρ=ok ((l.filter p).map g)
 | [],_,_=>rfl
 | x::l,h1',h2'=>by
  have ih:=aFv (p:=p) (g:=g) l (fun y hy=>h1' y (Qm _ hy)) (fun y hy=>h2' y (Qm _ hy));have e1:=h1' x Qq;rw[Q4];unfold aJ3;show (match ft (ρ.set k (some (.sh (.str x)))) with
   | some (.ok true)=>(match fe (ρ.set k (some (.sh (.str x)))) with
    | some (.ok r)=>if r.imm=true then bnd (aJ3 [k] h1 ft fe (l.map D.str) ρ) fun rs=>ok (r::rs) else none
    | _=>none)
   | some (.ok false)=>aJ3 [k] h1 ft fe (l.map D.str) ρ
   | _=>none)=_
  rw[e1,ih];cases hp:p x with
  | true=>
   obtain⟨e2,e3⟩:=h2' x Qq hp;rw[e2,Wv hp];show (if (g x).imm=true then bnd (ok ((l.filter p).map g)) fun rs=>ok (g x::rs) else none)=_;rw[if_pos e3];rfl
  | false=>
   rw[Ww (by simp[hp])];rfl
theorem aC4 {F G:Rho->Option Out}{ρ ρ':Rho}{c:Addr}(h:F ρ=some (.ex c ρ')):aAk F G ρ=some (.ex c ρ'):=by unfold aAk;rw[h]
theorem aM2 {C:Addr}{g:Rho->M (List D)}{ρ:Rho}{ds:List D}(h:g ρ=ok ds)(hl:ds.length<=1000):aEj C g ρ=some (.ex C ρ):=by
 unfold aEj;rw[h];show (if ds.length<=1000 then some (Out.ex C ρ) else none)=_;rw[if_pos hl]
theorem aN2 {f g:Rho->M Bool}{ρ:Rho}{a b:Bool}(h1:f ρ=ok a)(h2:g ρ=ok b):aYy f g ρ=ok (a&&b):=by
 unfold aYy;rw[h1,aBj];cases a
 ·rfl
 ·rw[if_pos rfl,h2];rfl
theorem aWw {f g:Rho->M Bool}{ρ:Rho}{a b:Bool}(h1:f ρ=ok a)(h2:g ρ=ok b):orB f g ρ=ok (a || b):=by
 unfold orB;rw[h1,aBj];cases a
 ·rw[if_neg (by decide),h2];rfl
 ·rfl
theorem aE3 {C:Addr}{f:Rho->M D}{ρ:Rho}{d:D}(h:f ρ=ok d):aAk (aEj C (aAb f aAn)) aAr ρ=some (.ex C ρ):=aC4 (aM2 (aAf h aBq) (by simp))
theorem len_app (a b:Str):(a++b).length=a.length+b.length:=W5 a b
theorem bOy {c x:Str}{f:Rho->M D}{ρ:Rho}(hc:c.length<=1000)(hx:(Zz x).length<=10000)(hf:f ρ=ok (.str x)): ∃z,jnd (aMq c (aTe f aSa)) ρ=ok (.str z):=by
 have e0:Str.empty.length=0:=rfl;have l1:(Zl++c).length<=100000:=by rw[len_app,e0];omega
 have l2:(Zz x).length<=100000/\(Zl++c++Zz x).length<=100000:=by rw[len_app,len_app,e0];omega
 refine⟨Zl++c++Zz x,?_⟩;unfold jnd aMq aTe aSa;rw[if_pos l1,hf];simp only[aBj];rw[if_pos l2,if_pos l2.2];rfl
theorem bOx {c c' x:Str}{f:Rho->M D}{ρ:Rho}(hc:c.length<=1000)(hc':c'.length<=1000)(hx:(Zz x).length<=10000)(hf:f ρ=ok (.str x)): ∃z,jnd (aMq c (aTe f (aMq c' aSa))) ρ=ok (.str z):=by
 have e0:Str.empty.length=0:=rfl;have l1:(Zl++c).length<=100000:=by rw[len_app,e0];omega
 have l2:(Zz x).length<=100000/\(Zl++c++Zz x).length<=100000:=by rw[len_app,len_app,e0];omega
 have l3:(Zl++c++Zz x++c').length<=100000:=by rw[len_app,len_app,len_app,e0];omega
 refine⟨Zl++c++Zz x++c',?_⟩;unfold jnd aMq aTe aSa;rw[if_pos l1,hf];simp only[aBj];rw[if_pos l2,if_pos l3,if_pos l3];rfl
def Sh (x:Str):Prop:=(Zz x).length<=10000
theorem sub_len: ∀(a b:List Str),a.Nodup->(∀x∈a,x∈b)->a.length<=b.length
 | [],_,_,_=>Ye _
 | x::a,b,hn,hs=>by
  rw[J9] at hn;have hx:=hs x Qq;have h1:=sub_len a (b.erase x) hn.2 (fun y hy=>(Ja (fun (e:y=x)=>hn.1 (e▸hy))).mpr (hs y (Qm _ hy)));rw[Yv hx] at h1;have:0<b.length:=Jh hx;rw[Zc];omega
theorem aZo {a b:List Str}(hn:a.Nodup)(hs: ∀x∈a,x∈b)(hl:b.length<=a.length): ∀y∈b,y∈a:=fun y hy=>Jq fun q=>by
 have h1:=sub_len a (b.erase y) hn (fun x hx=>(Ja (fun (e:x=y)=>q (e▸hx))).mpr (hs x hx));rw[Yv hy] at h1;have:0<b.length:=Jh hy;omega
theorem aTg {α:Type}(xs:List α)(k:Nat)(y:α):(aUe xs k y).Perm (y::xs):=by
 unfold aUe;have h:= @List.perm_middle α y (xs.take k) (xs.drop k);rw[W3] at h;exact h
theorem bFa {α β:Type}(f:α->β)(xs:List α)(k:Nat)(y:α):aUe (xs.map f) k (f y)=(aUe xs k y).map f:=by
 unfold aUe;rw[Z0,Q4,Wb,List.map_drop]
theorem bCj (ds:List D){j:Nat}(h:j<=ds.length):cutD ds none (some (j:Int))=ds.take j:=by
 unfold cutD;rw[HT.aKd,HT.aM3,U4,Ud,Uy h]
theorem aMs (ds:List D){j:Nat}(h:j<=ds.length):cutD ds (some (j:Int)) none=ds.drop j:=by
 unfold cutD;rw[HT.aKd,HT.aM3,Uy h];exact Ur (by rw[Z5];exact Qr _)
abbrev L (s:Str):List Nat:=s.cps.toList
theorem bOr (a b:Str):L (a++b)=L a++L b:=by
 show (a.cps++b.cps).toList=_;rw[W7]
theorem bJu (s:Str):s.length=(L s).length:=by simp[Str.length]
theorem bOq (z:Str)(lo hi:Option Int): ∀c∈L (aFa z lo hi),c∈L z:=fun c hc=>by
 have:c∈(z.cps.toList.drop (HT.sIx z.length 0 lo)).take (HT.sIx z.length z.length hi-HT.sIx z.length 0 lo):=by simpa[aFa] using hc
 exact W6 (J7 this)
theorem aRy (z:Str)(lo hi:Option Int):(aFa z lo hi).length<=z.length:=by
 rw[bJu,bJu];have e:L (aFa z lo hi)=(z.cps.toList.drop (HT.sIx z.length 0 lo)).take (HT.sIx z.length z.length hi-HT.sIx z.length 0 lo):=by simp[aFa]
 rw[e,Za,Z5];show _<=z.cps.toList.length;omega
theorem bQ4 (z:Str): ∀(n:Nat),∀c∈L (aUu z n),c∈L z:=by
 have g: ∀(m:Nat) (a:Array Nat),∀c∈((Q9 m z.cps).foldl (· ++ ·) a).toList,c∈a.toList\/c∈z.cps.toList:=by
  intro m
  induction m with
  | zero=>intro a c hc;exact .inl hc
  | succ m ih=>
   intro a c hc;rw[U6,Ua] at hc;rcases ih _ c hc with h | h
   ·rw[W7] at h
    exact List.mem_append.mp h
   ·exact .inr h
 intro n c hc;rcases g n #[] c hc with h | h
 ·simp at h
 ·exact h
theorem aMp {i j:Int}(h1:0<=i)(h2:i<1000000000000000000000000000000)(h3:0<=j)(h4:j<1000000000000000000000000000000):bG6 i j=true:=by
 have q: ∀z:Int,0<=z->z<1000000000000000000000000000000->z.natAbs<2^1048576:=fun z a b=>bEb (m:=100) (by omega) (by decide)
 exact bJo (q i h1 h2) (q j h3 h4)
theorem aW0 {f g:Rho->M D}{ρ:Rho}{i j:Int}(h1:f ρ=ok (.int i))(h2:g ρ=ok (.int j))(hj:0<j):b2 aYq f g ρ=ok (.int (i%j)):=by
 refine aAs h1 h2 ?_;show (if 0<j then ok (D.int (i%j)) else none)=_;rw[if_pos hj]
theorem aJf {f g:Rho->M D}{ρ:Rho}{i j:Int}(h1:f ρ=ok (.int i))(h2:g ρ=ok (.int j)):b2 aCc f g ρ=ok (.int (i+j)):=aAs h1 h2 rfl
theorem bOm {f g:Rho->M D}{ρ:Rho}{x y:List Str}(h1:f ρ=ok (tS x))(h2:g ρ=ok (tS y))(hx:x.length<=1000)(hy:y.length<=1000):b2 aCc f g ρ=ok (tS (x++y)):=by
 refine aAs h1 h2 ?_;show (if (x.map D.str).length+(y.map D.str).length<=100000 then ok (D.tup (x.map D.str++y.map D.str)) else none)=_;rw[if_pos (by rw[Qi,Qi];omega),<-Z0]
theorem aTt {f g:Rho->M D}{ρ:Rho}{i j:Int}(h1:f ρ=ok (.int i))(h2:g ρ=ok (.int j)):b2 gEq f g ρ=ok (.bl (decide (i=j))):=aAs h1 h2 rfl
theorem bF1 {f g:Rho->M D}{ρ:Rho}{x:List Str}{j:Nat}(h1:f ρ=ok (tS x))(h2:g ρ=ok (.int j))(hj:j<=x.length):aMt f aFq (aFe g) ρ=ok (tS (x.take j)):=by
 unfold aMt aFe aFq;rw[h1,h2];show ok (D.tup (cutD (x.map D.str) none (some (j:Int))))=_;rw[bCj _ (by rw[Qi];exact hj),<-Wb]
theorem aYv {f g:Rho->M D}{ρ:Rho}{x:List Str}{j:Nat}(h1:f ρ=ok (tS x))(h2:g ρ=ok (.int j))(hj:j<=x.length):aMt f (aFe g) aFq ρ=ok (tS (x.drop j)):=by
 unfold aMt aFe aFq;rw[h1,h2];show ok (D.tup (cutD (x.map D.str) (some (j:Int)) none))=_;rw[aMs _ (by rw[Qi];exact hj),<-List.map_drop]
theorem bA9 {f:Rho->M D}{ρ:Rho}{x:List Str}(h:f ρ=ok (tS x)):f1 aJb f ρ=ok (.int x.length):=by
 unfold f1;rw[h];show ok (D.int ((x.map D.str).length:Int))=_;rw[Qi]
theorem aAz {i:Nat}{f:Rho->M D}{ρ:Rho}{d:D}(h:f ρ=ok d)(hd:d.imm=true):aB6 i f ρ=some (.nx (ρ.set i (some (.sh d)))):=by rw[aUs h,aMl hd]
theorem aQq {i:Nat}{f:Rho->M D}{ρ:Rho}{d:D}(h:f ρ=ok d)(hf:free ρ=ρ):aB6 i f ρ=some (.nx (ρ.set i (some (.sh d)))):=by
 rw[aUs h];unfold aQl;split
 ·rfl
 ·rw[hf]
def Pw (m:Nat):Prop:=m=8\/m=16\/m=32\/m=64\/m=128
theorem above {n:Nat}(h:n<128):Pw (Yo n)/\n<Yo n:=by
 have g:(Zj 128).all (fun n=>decide ((Yo n=8\/Yo n=16\/Yo n=32\/Yo n=64\/Yo n=128)/\n<Yo n))=true:=by decide+kernel
 rw[Yt] at g;have:=g n (List.mem_range.mpr h);rw[decide_eq_true_eq] at this;exact this
theorem aRr {g:D->M D}{f:Rho->M D}{ρ:Rho}{d:D}{r:M D}(h:f ρ=ok d)(h2:g d=r):f1 g f ρ=r:=by unfold f1;rw[h];exact h2
theorem aAw {ds:List D}{j:Nat}{d:D}(h:ds[j]? =some d):gIx (.tup ds) (.int (j:Int))=ok d:=by
 show (match atI ds (j:Int) with | some d=>ok d | none=>none)=_;rw[aN0 h]
theorem aHq {ds:List D}{j:Nat}{d:D}(h:ds[j]? =some d):gIx (.lst ds) (.int (j:Int))=ok d:=by
 show (match atI ds (j:Int) with | some d=>ok d | none=>none)=_;rw[aN0 h]
theorem bBx {f g:Rho->M D}{ρ:Rho}{i j:Int}(h1:f ρ=ok (.int i))(h2:g ρ=ok (.int j)):b2 gGt f g ρ=ok (.bl (decide (j<i))):=aAs h1 h2 rfl
theorem bLp {f g:Rho->M D}{ρ:Rho}{i j:Int}(h1:f ρ=ok (.int i))(h2:g ρ=ok (.int j)):b2 bKa f g ρ=ok (.int (i-j)):=aAs h1 h2 rfl
theorem aWz {f g:Rho->M D}{ρ:Rho}{i j:Int}(h1:f ρ=ok (.int i))(h2:g ρ=ok (.int j))(hm:bG6 i j=true):b2 aD5 f g ρ=ok (.int (i*j)):=aAs h1 h2 (by simp[aD5,bO2,hm])
theorem aEa {G:D->Rho->Option Rho}{F:Rho->Option Out}{d:D}{ds:List D}{ρ ρ1 ρ2:Rho}(h1:G d ρ=some ρ1)(h2:F ρ1=some (.nx ρ2)):loop G F (d::ds) ρ=loop G F ds ρ2:=by
 (conv=>lhs;unfold loop)
 rw[h1]
 dsimp only
 rw[h2]
theorem bA3:typeLookup (.type "list_reverseiterator") (Yx "__len__")=pure none:=by rw[typeLookup_type,builtinLookup_eq_fast];kernel_rfl
theorem bFd:typeLookup (.type "list_reverseiterator") (Yx "__length_hint__")=pure (some (.builtin "list_reverseiterator.__length_hint__")):=by rw[typeLookup_type,builtinLookup_eq_fast];kernel_rfl
theorem bH7:isSubtype (.type "list_reverseiterator") (.type "list_reverseiterator")=pure true:=by rw[isSubtype_type];kernel_rfl
section
variable {prog:Qv}{w:Q8}{A:Zb}{E:Qc->Qe->Prop}{s:Qe}
theorem aR1 {it t:Addr}{items:Array Qc}{Q:Qc->Qe->Prop}(hh:A.handled=none)(ne:t≠it)(hi:s.heap.IsRevIter it t ((items.size:Int)-1))(ht:s.heap.IsList t items)(hz:items.size<=Q0)
  (hQ: ∀h' tk c,(∀b o,b≠it->s.heap.get? b=some o->h'.get? b=some o)->h'.get? s.heap.objs.size=some {cls:= .type "list",dict:=none,data:= .seq items.toList.reverse.toArray c,slots:= #[]}->Q (.ref s.heap.objs.size) {s with heap:=h',toks:=tk}):
  Qs (Qp prog w) A (call (.type "list") [.ref it]) Q E s:=by
 obtain⟨o,ho,hc,hd⟩:=id hi;have lti:=Qo ho;have ltt:t<s.heap.objs.size:=by obtain⟨u,e,_⟩:=ht;exact Qo e
 have nei:s.heap.objs.size≠it:=Ue lti;have net:s.heap.objs.size≠t:=Ue ltt;refine callType_codes (Q₁:=fun obj s₁=>obj= .ref s.heap.objs.size/\s₁={s with heap:=s.heap.push {cls:= .type "list",data:= .seq #[]}}) F.called_list (F.typeCall_list_1 _) F.entry_list_init
  (code_list_new _ ⟨rfl,rfl⟩) fun obj s₁ h₁=> ?_
 obtain⟨rfl,rfl⟩:=h₁;have hS:(s.heap.push {cls:= .type "list",data:= .seq #[]}).get? s.heap.objs.size=some {cls:= .type "list",data:= .seq #[]}:=Qx _ rfl;refine⟨⟨_,hS,rfl⟩,F.args_list_init_2 _ _,?_⟩;have W:=(Walks.listRev (prog:=prog) (w:=w) (A:=A.in1.in1) (by simp[hh]) it t ne items).toS;have off:s.heap.objs.size∉[it,t]:=by
  simp only[Yb,Z4,or_false,not_or];exact⟨nei,net⟩
 have fin: ∀(s1:Qe) (h2:Heap) (tk:Nat) (c:Nat) (R:Result->Qe->Prop),s1={s with heap:=h2,toks:=tk}->h2.get? s.heap.objs.size=some {cls:= .type "list",dict:=none,data:= .seq #[] c,slots:= #[]}->(∀b u,b≠s.heap.objs.size->s.heap.get? b=some u->h2.get? b=some u)->
   (∀h' tk c,(∀b o,b≠it->s.heap.get? b=some o->h'.get? b=some o)->h'.get? s.heap.objs.size=some {cls:= .type "list",dict:=none,data:= .seq items.toList.reverse.toArray c,slots:= #[]}->R (.ok (.ret .none)) {s with heap:=h',toks:=tk})->
   codeAny (Qp prog w) A.in1 (.builtin "list.extend.loop" ⟨[.ref s.heap.objs.size,.ref it,.none],[]⟩) R s1:=by
  intro s1 h2 tk c R es1 hg hk hR;subst es1;have st:0<=items.size/\h2.IsRevIter it t ((items.size:Int)-1-((0:Nat):Int))/\h2.IsList t items:=by
   refine⟨Ye _,⟨o,hk it o (Ne.symm nei) ho,hc,by rw[hd];simp⟩,?_⟩;exact ht.at fun u e=>hk t u (Ne.symm net) e
  refine codeAny_extend_loopS W hz _ off _ items.size 0 _ _ _ rfl (Ye _) st hg (ItemsOf.nil _) fun s' acc c' hm hS' hacc=> ?_
  obtain⟨h',g',d',tk',os'⟩:=s';have eg:g'=s.gens:=hm.gens;have ed:d'=s.drawn:=hm.drawn;have eo:os'=s.os:=hm.os;subst eg ed eo;have ea:acc=items.toList.reverse.toArray:=by
   have hsz:=hacc.1
   apply Array.toList_inj.mp
   apply List.ext_getElem?
   intro i;by_cases hi:i<items.size
   ·have hv:=hacc.2 i acc[i] (by simp[hsz,hi])
    rw[List.getElem?_reverse (by simpa using hi)];have e2:items.toList[items.toList.length-1-i]? =some acc[i]:=by
     rw[Zt,Ux];exact hv
    rw[e2,Ux];simp[hsz,hi]
   ·rw[Jo (by simp[hsz];omega),Jo (by simp;omega)]
  rw[ea] at hS';refine hR h' tk' c' (fun b u hb e=> ?_) hS';have lb:=Qo e;refine hm.heap b u ?_ (hk b u (Q1 lb) e);simp only[Yb,Z4,or_false,not_or];exact⟨Q1 lb,hb⟩
 show Qs _ A.in1.in1 (do let old<-Builtin.List.listItems (.ref s.heap.objs.size);Builtin.List.listUpdate (.ref s.heap.objs.size) (fun _=> #[]);letGo old.toList.reverse;Zy (.ref s.heap.objs.size) (.ref it) .none) _ _ _;refine Qb ?_;unfold Builtin.List.listItems;refine Qb (wpAny_seqItems hS rfl (Qf ?_));show Qs _ A.in1.in1 (updateSeq s.heap.objs.size (fun _=> #[])>>=fun _=>letGo (#[]:Array Qc).toList.reverse>>=fun _=>Zy (.ref s.heap.objs.size) (.ref it) .none) _ _ _;refine Qb (wpAny_updateSeq hS rfl ?_);have hS₂:=Y7 (Obj.mapSeq (fun _=>(#[]:Array Qc))) hS rfl;refine Qb (wpAny_letGo ?_);have kp2: ∀b u,b≠s.heap.objs.size->s.heap.get? b=some u->((s.heap.push {cls:= .type "list",data:= .seq #[]}).update s.heap.objs.size (Obj.mapSeq (fun _=>(#[]:Array Qc)))).get? b=some u:=fun b u hb e=>(Y5 _ _ (Ne.symm hb)).trans (Qg _ e)
 generalize ((s.heap.push {cls:= .type "list",data:= .seq #[]}).update s.heap.objs.size (Obj.mapSeq (fun _=>(#[]:Array Qc))))=h2 at hS₂ kp2⊢;have hi1:h2.IsRevIter it t ((items.size:Int)-1):=⟨o,kp2 it o (Ne.symm nei) ho,hc,hd⟩;have ht1:h2.IsList t items:=ht.at fun u e=>kp2 t u (Ne.symm net) e
 have hT:Shared.TypeIs {s with heap:=h2} (.ref it) "list_reverseiterator":=⟨o,kp2 it o (Ne.symm nei) ho,hc⟩;have h1:Builtin.List.listSameRef (.ref s.heap.objs.size) (.ref it)=false:=by simp[Builtin.List.listSameRef,nei]
 unfold Zy;refine Qb (wpAny_typeOf hT ?_);rw[if_neg (by rw[h1];decide)];refine Qb (wpAny_pyIter_revIter (s:={s with heap:=h2}) hi1 (Qb (Yn ?_)));unfold Builtin.List.listLengthHint;refine Qb (wpAny_specialOf hT bA3 ?_);show Qs _ A.in1.in1 (specialOf (Z7 it) (Yx "__length_hint__")>>=_) _ _ _;refine Qb (wpAny_specialOf hT bFd ?_);generalize hid:("list_reverseiterator.__length_hint__":String)=id0;(fail_if_success (clear hid id0));wp_delta;rw[show splitId id0=some ("list_reverseiterator","__length_hint__") from by subst hid;decide+kernel];subst hid;refine Qb (wpAny_isInstance (b:=true) hT bH7 ?_);rw[if_neg (by decide)]
 dsimp only
 rw[if_pos (by decide+kernel),if_neg (by decide+kernel)];refine Qf ?_;rw[if_neg (by decide)];exact Qf ⟨plainId_quiet F.plain_extend_loop _,fin _ _ _ _ _ rfl hS₂ kp2 fun h' tk' c' k1 k2=>⟨rfl,hQ h' tk' c' k1 k2⟩⟩
end
section
variable {X:Cx}{B:Hp}{e a b:Expr}{fa fb:Rho->M D}{pos p p2 pos2 pos':Pos}{x:Str}{i:Nat}
def bRa:D->M D
 | .lst ds=>ok (.lst ds.reverse)
 | _=>none
theorem bI0 (hc:X.calm=true)(hg:Gl X "list")(hm:X.mg "list"=none)(hg2:Gl X "reversed")(hm2:X.mg "reversed"=none)(ha:PD X B e fa)(hs:aDn e=true:=by rfl):
  PD X B (.Call (.Name "list" p) [.Call (.Name "reversed" p2) [e] [] pos2] [] pos) (f1 bRa fa):=by
 intro pins s σ H Q I h;obtain⟨ρ,r1,h⟩:=h;refine Yh (aL2 I hg hm boot_list ?_ (by decide) (by decide));refine Z8 ?_ (aBf rfl) rfl;show Qs _ _ (spliced [(false,eval (.Call (.Name "reversed" p2) [e] [] pos2) X.env)]) _ _ s;refine Calls.spliced_cons ?_;refine Yh (aL2 I hg2 hm2 PyProof.Rows.boot_reversed ?_ (by decide) (by decide));refine Z8 (thn (aBx ha aD4 (aBf hs) pos2 pins s σ H (fun vs H1=> ∃a xs ds,vs=[.ref a]/\SqL X.K H1 a xs/\IsL X.K H1 ds xs/\Same H H1/\∀v H',Same H H'->Is X.K H' (.lst ds.reverse) v->Q v H') I ⟨ρ,r1,(Res.bind h).imp fun d q1 v H1 e1 i1=> ?_⟩) fun us s1 ⟨vs,H1,I1,rv,a,xs,ds,ev,hq,il,sm,q⟩=> ?_) (aBf hs) rfl
 ·cases i1 with
  | lst hh rr=>exact⟨_,_,_,rfl,hh,rr,e1,q1⟩
  | _=>exact Qd q1
 ·subst ev
  obtain⟨u,rfl,rx⟩:=vals1 rv;cases rx;obtain⟨its,r',pl,hz⟩:=I1.list hq;have hsz:its.toArray.size<=Q0:=by rw[Qk,<-r'.length];exact hz
  have pl:=pl.isList;have lt:a<s1.heap.objs.size:=by obtain⟨o,e,_⟩:=pl;exact Qo e
  refine call_reversed_list pl ?_;refine Calls.spliced_nil ?_;refine aR1 (I1.ok.hd hc) (Q1 lt) (items:=its.toArray) ⟨_,Qx _ rfl,rfl,rfl⟩ (pl.at fun o e=>Qg _ e) hsz fun h' tk' c' kp hl=> ?_
  have kp': ∀b u,s1.heap.get? b=some u->h'.get? b=some u:=fun b u e=>kp b u (Q1 (Qo e)) (Qg _ e)
  have ea:its.toArray.toList.reverse.toArray=its.reverse.toArray:=by simp
  rw[ea] at hl;have le:s1.heap.objs.size<=(s1.heap.push (revObj a ((its.toArray.size:Int)-1))).objs.size:=by simp[Heap.push]
  have fr:H1 (s1.heap.push (revObj a ((its.toArray.size:Int)-1))).objs.size=none:=I1.hok.fresh le;refine⟨.ref _,_,I1.laid (t':=tk') kp' le (show aCe X.prog X.w _ h' _ (.lst xs.reverse) from⟨by rw[U7];exact hz,its.reverse,c',r'.reverse,hl⟩),rfl,q _ _ (sm.trans (aA5 fr _)) (.lst (SqL.of aAy) (il.reverse.mono (aA5 fr _)))⟩
def aZ1 (i:Nat)(f:Rho->M D):Rho->Option Out:=fun ρ=>lft (f ρ) ρ fun d=>match itD d with
 | some (.ok ds)=>if aCo ds=true/\ds.length<=1000 then some (.nx (ρ.set i (some (.own ds)))) else none
 | _=>none
theorem bEn (hg:Gl X "list")(hm:X.mg "list"=none)(hN:X.N.Nodup)(hi:X.N[i]? =some x)(hx:Loc X.env.scope x)(he:PD X B e fa)(hst:aDn e=true:=by rfl)(hs:Yr (.Call (.Name "list" p) [e] [] pos2) (some (.Name x pos')) pos.line X.env=pure false:=by rfl)(hf:X.fn x=true\/X.env.scope.names.lookup x=some .local:=by first | exact .inl rfl | exact .inr rfl | assumption):
  PDS X B (.Assign [.Name x pos'] (.Call (.Name "list" p) [e] [] pos2) pos) (aZ1 i fa):=by
 refine PS.of (aM7 hN hi hx (aIa aL3 hg hm boot_list (aBx he aD4 (aBf hst)) (he:=aBf hst) (hpl:=by rfl)) hs hf) fun E σ H h=> ?_
 obtain⟨ρ,r,h⟩:=h;refine⟨ρ,r,(aCh r h).imp fun d h1 v H1 e1 i1=> ?_⟩;split at h1
 ·rename_i ds hds
  split at h1
  ·rename_i hh
   obtain⟨a,vs,rfl,il,hq⟩:=aK4 i1 hds;exact⟨a,vs,rfl,hq,fun l hl=>h1 _ _ ((r.mono e1).bAx hl hh.1 il)⟩
  ·exact Qd h1
 ·exact Qd h1
end
def bDe:List Str->List Str->Bool
 | [],[]=>false
 | [],_::_=>true
 | _::_,[]=>false
 | x::xs,y::ys=>if x=y then bDe xs ys else decide (x.cps.toList<y.cps.toList)
end L2.PU
namespace L2.PU
open PySem PySem.Spec PyProof.Rows PySem.W
section
variable {prog:Qv}{w:Q8}{A:Zb}{E:Qc->Qe->Prop}{s:Qe}
theorem aRh {xs ys:List Str}:(xs.map (Y9:Str->Key)=ys.map .inr)↔xs=ys:=
 ⟨fun h=>by
  have:=congrArg (List.map fun k:Key=>match k with | .inr x=>x | .inl _=>Zl) h
  simpa[Yu,Function.comp_def] using this,fun h=>by rw[h]⟩
end
end L2.PU
namespace L2.PU
open PySem PySem.Spec PyProof.Rows
section
variable {K:Qa}{H₀ H:Hp}{ρ:Rho}{σ:St}
theorem Rel.bG2 {i:Nat}{a:Addr}{o:DO}{w:HO}(r:Rel K H₀ ρ σ H)(hf:H a=none)(iv: ∀H',Same H H'->IsO K H' o w)(hI: ∀O:Nat->Option Addr,aSb (upd H a w) O->IsO K (Off (upd H a w) O) o w):Rel K H₀ (ρ.set i (some (.ow o))) (σ.set i (some (.ref a))) (upd H a w):=by
 obtain⟨O,h1,ho,h2,hl,h3⟩:=id r;by_cases hi:i<σ.length
 case neg=>
  have s1: ∀x:Option SV,ρ.set i x=ρ:=fun x=>Zg (by omega)
  have s2: ∀x:Option V,σ.set i x=σ:=fun x=>Zg (by omega)
  rw[s1,s2];exact r.mono (aA5 hf _)
 have mu:bP7 w=true:=(iv H (Same.refl H)).mut;have na: ∀j b,O j=some b->b≠a:=fun j b q e=>by
  subst e;obtain⟨u,z,m⟩:=ho j b q;rw[z] at hf;cases hf
 let O':Nat->Option Addr:=fun j=>if j=i then some a else O j
 have Oi:O' i=some a:=if_pos rfl;have On: ∀j,j≠i->O' j=O j:=fun j e=>if_neg e
 have hO':aSb (upd H a w) O':=fun j b q=>by
  by_cases e:j=i
  ·subst e
   rw[Oi] at q;cases q;exact⟨_,aAy,mu⟩
  ·rw[On j e] at q
   have nb:=na j b q;obtain⟨u,z,m⟩:=ho j b q;exact⟨u,by rw[aAv nb];exact z,m⟩
 have sm:Same (Off H O) (Off (upd H a w) O'):=fun b o q=>by
  have qh:=Off.same H O b o q;have nb:b≠a:=fun e=>by subst e;rw[hf] at qh;cases qh
  refine Off.of (by rw[aAv nb];exact qh) fun j z=> ?_
  by_cases e:j=i
  ·subst e
   rw[Oi] at z;cases z;exact nb rfl
  ·rw[On j e] at z
   exact Off.not q j z
 refine⟨O',fun j k b q1 q2=> ?_,hO',h2.trans sm,by rw[Q3,Q3,hl],fun j sv q=> ?_⟩
 ·by_cases e1:j=i
  ·by_cases e2:k=i
   ·rw[e1,e2]
   ·subst e1
    rw[Oi] at q1;cases q1;rw[On k e2] at q2;exact absurd rfl (na k _ q2)
  ·by_cases e2:k=i
   ·subst e2
    rw[Oi] at q2;cases q2;rw[On j e1] at q1;exact absurd rfl (na j _ q1)
   ·rw[On j e1] at q1
    rw[On k e2] at q2;exact h1 j k b q1 q2
 ·by_cases e:j=i
  ·subst e
   have hj:j<ρ.length:=by
    have:=(List.getElem?_eq_some_iff.mp q).1
    rwa [Q3] at this
   rw[Q6 hj] at q;have q':=Option.some.inj (Option.some.inj q);subst q';exact⟨a,w,Oi,Q6 (by rw[<-hl];exact hj),aAy,hI O' hO'⟩
  ·rw[Qh (Ne.symm e)] at q
   have z:=h3 j sv q;cases sv with
   | sh d'=>obtain⟨v',e1,e2⟩:=z;exact⟨v',by rw[Qh (Ne.symm e)];exact e1,e2.mono sm⟩
   | own ds'=>
    obtain⟨b,ws,e1,e2,e3,e4⟩:=z;exact⟨b,ws,by rw[On j e];exact e1,by rw[Qh (Ne.symm e)];exact e2,by rw[aAv (na j b e1)];exact e3,e4.mono sm⟩
   | oin b C dx fs=>
    obtain⟨e1,e2,e3,ws,e4,e5⟩:=z;exact⟨by rw[On j e];exact e1,by rw[Qh (Ne.symm e)];exact e2,e3,ws,by rw[aAv (na j b e1)];exact e4,e5.mono sm⟩
   | ow o'=>
    obtain⟨b,u,e1,e2,e3,e4⟩:=z;exact⟨b,u,by rw[On j e];exact e1,by rw[Qh (Ne.symm e)];exact e2,by rw[aAv (na j b e1)];exact e3,e4.mono sm⟩
   | tk ks=>obtain⟨b,e1,e2⟩:=z;exact⟨b,by rw[Qh (Ne.symm e)];exact e1,sm _ _ e2⟩
   | nl kd ls=>exact NL.move (by rw[Q3]) (Qh (Ne.symm e)) (fun m b w hm e1 e2=>⟨by rw[On m (by rcases hm with h | h<;>omega)];exact e1,by rw[aAv (na m b e1)];exact e2⟩) sm z
theorem Rel.bM1 {i:Nat}{a:Addr}{o o':DO}{w':HO}(O:Nat->Option Addr)(h1: ∀i j a,O i=some a->O j=some a->i=j)(ho:aSb H O)(h2:Same H₀ (Off H O))(hl:ρ.length=σ.length)
  (h3: ∀i sv,ρ[i]? =some (some sv)->Slot K H O σ i sv) (q:ρ[i]? =some (some (.ow o))) (z1:O i=some a) (z2:σ[i]? =some (some (.ref a))) (iv:IsO K (Off H O) o' w'):Rel K H₀ (ρ.set i (some (.ow o'))) σ (upd H a w'):=by
 have eo:Off (upd H a w') O=Off H O:=Off.upd z1;refine⟨O,h1,fun j b qj=> ?_,by rw[eo];exact h2,by rw[Q3,hl],fun j sv qj=> ?_⟩
 ·by_cases e:b=a
  ·subst e;exact⟨_,aAy,iv.mut⟩
  ·obtain⟨u,w,m⟩:=ho j b qj
   exact⟨u,by rw[aAv e];exact w,m⟩
 ·by_cases e:j=i
  ·subst e
   have hj:j<ρ.length:=(List.getElem?_eq_some_iff.mp q).1;rw[Q6 hj] at qj;have q':=Option.some.inj (Option.some.inj qj);subst q';exact⟨a,w',z1,z2,aAy,by rw[eo];exact iv⟩
  ·rw[Qh (Ne.symm e)] at qj
   have z:=h3 j sv qj;cases sv with
   | sh d'=>obtain⟨v',e1,e2⟩:=z;exact⟨v',e1,by rw[eo];exact e2⟩
   | own es=>
    obtain⟨b,ws,e1,e2,e3,e4⟩:=z;have nb:b≠a:=fun w=>e (h1 j i a (by rw[<-w];exact e1) z1)
    exact⟨b,ws,e1,e2,by rw[aAv nb];exact e3,by rw[eo];exact e4⟩
   | oin b C' dx' fs'=>
    obtain⟨e1,e2,e3,ws,e4,e5⟩:=z;have nb:b≠a:=fun w=>e (h1 j i a (by rw[<-w];exact e1) z1)
    exact⟨e1,e2,e3,ws,by rw[aAv nb];exact e4,by rw[eo];exact e5⟩
   | ow o''=>
    obtain⟨b,u,e1,e2,e3,e4⟩:=z;have nb:b≠a:=fun w=>e (h1 j i a (by rw[<-w];exact e1) z1)
    exact⟨b,u,e1,e2,by rw[aAv nb];exact e3,by rw[eo];exact e4⟩
   | tk ks=>obtain⟨b,e1,e2⟩:=z;exact⟨b,e1,by rw[eo];exact e2⟩
   | nl kd ls=>
    have hi:i<σ.length:=by have:=(List.getElem?_eq_some_iff.mp q).1;omega
    exact NL.move rfl rfl (fun m b w hm e1 e2=>⟨e1,by rw[aAv (fun z=>absurd (h1 m i a (by rw[<-z];exact e1) z1) (by rcases hm with h | h<;>omega))];exact e2⟩) (by rw[eo];exact Same.refl _) z
end
def keyOf:D->Option Key
 | .int i=>some (.inl i)
 | .str x=>some (.inr x)
 | _=>none
def keysOf:List D->Option (List Key)
 | []=>some []
 | d::ds=>match keyOf d,keysOf ds with | some k,some ks=>some (k::ks) | _,_=>none
theorem aVh {K:Qa}{H:Hp}{d:D}{v:V}{k:Key}(i:Is K H d v)(h:keyOf d=some k):v=kV k:=by
 cases i<;>first |(cases h;done) |(cases h;rfl)
section
variable {κ:Type}[DecidableEq κ]
def aQe (kvs:List (κ×D))(k:κ):Option D:=(kvs.find? fun kv=>decide (kv.1=k)).map (·.2)
def bDd (kvs:List (κ×D))(k:κ)(d:D):List (κ×D):=
 if (kvs.any fun kv=>decide (kv.1=k))=true then kvs.map (fun kv=>if kv.1=k then (kv.1,d) else kv) else kvs++ [(k,d)]
end
section
variable {X:Cx}{B:Hp}{e:Expr}{fa:Rho->M D}{pos pos' p p2 tpos cpos apos:Pos}{x y:Str}{i j:Nat}
def bNv (ρ:Rho)(j:Nat):Option (List Key):=match ρ[j]? with
 | some (some (.tk ks))=>some ks
 | some (some (.sh (.tup ds)))=>keysOf ds
 | _=>none
def bLv (i j:Nat)(f:Rho->M D):Rho->Option Out:=fun ρ=>match ρ[i]?,bNv ρ j with
 | some (some (.ow (.t kvs))),some ks=>lft (f ρ) ρ fun d=>if d.imm=true/\kvs.length<100000 then some (.nx (ρ.set i (some (.ow (.t (bDd kvs ks d)))))) else none
 | _,_=>none
end
theorem ar1 (us:List Qc)(hl:us.length=1): ∃a,us=[a]:=by
 cases us with
 | nil=>exact absurd hl (by simp)
 | cons a us=>
  cases us with
  | nil=>exact⟨a,rfl⟩
  | cons z us=>exact absurd hl (by simp)
theorem ar2 (us:List Qc)(hl:us.length=2): ∃a b,us=[a,b]:=by
 cases us with
 | nil=>exact absurd hl (by simp)
 | cons a us=>
  cases us with
  | nil=>exact absurd hl (by simp)
  | cons b us=>
   cases us with
   | nil=>exact⟨a,b,rfl⟩
   | cons z us=>exact absurd hl (by simp)
theorem ar3 (us:List Qc)(hl:us.length=3): ∃a b c,us=[a,b,c]:=by
 cases us with
 | nil=>exact absurd hl (by simp)
 | cons a us=>
  cases us with
  | nil=>exact absurd hl (by simp)
  | cons b us=>
   cases us with
   | nil=>exact absurd hl (by simp)
   | cons c us=>
    cases us with
    | nil=>exact⟨a,b,c,rfl⟩
    | cons z us=>exact absurd hl (by simp)
theorem ar4 (us:List Qc)(hl:us.length=4): ∃a b c d,us=[a,b,c,d]:=by
 cases us with
 | nil=>exact absurd hl (by simp)
 | cons a us=>
  cases us with
  | nil=>exact absurd hl (by simp)
  | cons b us=>
   cases us with
   | nil=>exact absurd hl (by simp)
   | cons c us=>
    cases us with
    | nil=>exact absurd hl (by simp)
    | cons d us=>
     cases us with
     | nil=>exact⟨a,b,c,d,rfl⟩
     | cons z us=>exact absurd hl (by simp)
theorem ar5 (us:List Qc)(hl:us.length=5): ∃a b c d e,us=[a,b,c,d,e]:=by
 cases us with
 | nil=>exact absurd hl (by simp)
 | cons a us=>
  cases us with
  | nil=>exact absurd hl (by simp)
  | cons b us=>
   cases us with
   | nil=>exact absurd hl (by simp)
   | cons c us=>
    cases us with
    | nil=>exact absurd hl (by simp)
    | cons d us=>
     cases us with
     | nil=>exact absurd hl (by simp)
     | cons e us=>
      cases us with
      | nil=>exact⟨a,b,c,d,e,rfl⟩
      | cons z us=>exact absurd hl (by simp)
end L2.PU
namespace L2.HD
open PySem PySem.W
def q5 (v a b c d e:Nat):List Qc:=[(.ref a),(.bool true),(vi v),(.ref b),.none,(.ref c),(.ref d),(.ref e)]
def q3 (v a b e:Nat):List Qc:=[(.ref a),(.bool true),(vi v),(.ref b),.none,.none,.none,(.ref e)]
def gwd (a b:Nat):Obj:=ofd "getset_descriptor" [(vs "__weakref__" a),(.ref b),(.builtin "ExceptionGroup.__weakref__"),.none]
section
variable {K:Frag}{x q:Str}{st:Stmt}{f:Addr}{p1 p2 p3 p4:Str}
theorem fo1 (m:Str)(mt c:Nat)(l:K.lookup f=some (of x q st m mt c):=by kernel_rfl)(hc:codeIn K (.ref c) q=true:=by kernel_rfl)(hk:keepIn K (.ref f)=true:=by kernel_rfl)
  (b: ∀(kV doc pm:Qc) (an:Option Addr) (cdv ct u:Qc),bindArgs (fnOf x q (aEe st) (aCu st) (aAp st) .none kV doc pm an cdv ct) ⟨[u],[]⟩=pure ([p1].zip [u]):=by intros;rfl): ∃fd,Fun K x q st f fd/\Binds K fd [p1] []:=
 fo [p1] l hc hk fun _ _ _ _ _ _ us hl=>by obtain⟨_,rfl⟩:=PU.ar1 us hl;exact b ..
theorem fo2 (m:Str)(mt c:Nat)(l:K.lookup f=some (of x q st m mt c):=by kernel_rfl)(hc:codeIn K (.ref c) q=true:=by kernel_rfl)(hk:keepIn K (.ref f)=true:=by kernel_rfl)
  (b: ∀(kV doc pm:Qc) (an:Option Addr) (cdv ct u v:Qc),bindArgs (fnOf x q (aEe st) (aCu st) (aAp st) .none kV doc pm an cdv ct) ⟨[u,v],[]⟩=pure ([p1,p2].zip [u,v]):=by intros;rfl): ∃fd,Fun K x q st f fd/\Binds K fd [p1,p2] []:=
 fo [p1,p2] l hc hk fun _ _ _ _ _ _ us hl=>by obtain⟨_,_,rfl⟩:=PU.ar2 us hl;exact b ..
theorem fo3 (m:Str)(mt c:Nat)(l:K.lookup f=some (of x q st m mt c):=by kernel_rfl)(hc:codeIn K (.ref c) q=true:=by kernel_rfl)(hk:keepIn K (.ref f)=true:=by kernel_rfl)
  (b: ∀(kV doc pm:Qc) (an:Option Addr) (cdv ct u v w:Qc),bindArgs (fnOf x q (aEe st) (aCu st) (aAp st) .none kV doc pm an cdv ct) ⟨[u,v,w],[]⟩=pure ([p1,p2,p3].zip [u,v,w]):=by intros;rfl): ∃fd,Fun K x q st f fd/\Binds K fd [p1,p2,p3] []:=
 fo [p1,p2,p3] l hc hk fun _ _ _ _ _ _ us hl=>by obtain⟨_,_,_,rfl⟩:=PU.ar3 us hl;exact b ..
end
end L2.HD
namespace L2.HD
open PySem PySem.W L2
section
variable {K:Frag}{x q:Str}{st:Stmt}{f:Addr}{p1 p2 p3 p4 p5:Str}
theorem ar4 {α:Type}(us:List α)(h:us.length=4): ∃a b c d,us=[a,b,c,d]:=by
 match us,h with | [a,b,c,d],_=>exact⟨a,b,c,d,rfl⟩
theorem ar5 {α:Type}(us:List α)(h:us.length=5): ∃a b c d e,us=[a,b,c,d,e]:=by
 match us,h with | [a,b,c,d,e],_=>exact⟨a,b,c,d,e,rfl⟩
theorem fo4 (m:Str)(mt c:Nat)(l:K.lookup f=some (of x q st m mt c):=by kernel_rfl)(hc:codeIn K (.ref c) q=true:=by kernel_rfl)(hk:keepIn K (.ref f)=true:=by kernel_rfl)
  (b: ∀(kV doc pm:Qc) (an:Option Addr) (cdv ct u v w y:Qc),bindArgs (fnOf x q (aEe st) (aCu st) (aAp st) .none kV doc pm an cdv ct) ⟨[u,v,w,y],[]⟩=pure ([p1,p2,p3,p4].zip [u,v,w,y]):=by intros;rfl): ∃fd,Fun K x q st f fd/\Binds K fd [p1,p2,p3,p4] []:=
 fo [p1,p2,p3,p4] l hc hk fun _ _ _ _ _ _ us hl=>by obtain⟨_,_,_,_,rfl⟩:=ar4 us hl;exact b ..
theorem fo5 (m:Str)(mt c:Nat)(l:K.lookup f=some (of x q st m mt c):=by kernel_rfl)(hc:codeIn K (.ref c) q=true:=by kernel_rfl)(hk:keepIn K (.ref f)=true:=by kernel_rfl)
  (b: ∀(kV doc pm:Qc) (an:Option Addr) (cdv ct u v w y z:Qc),bindArgs (fnOf x q (aEe st) (aCu st) (aAp st) .none kV doc pm an cdv ct) ⟨[u,v,w,y,z],[]⟩=pure ([p1,p2,p3,p4,p5].zip [u,v,w,y,z]):=by intros;rfl): ∃fd,Fun K x q st f fd/\Binds K fd [p1,p2,p3,p4,p5] []:=
 fo [p1,p2,p3,p4,p5] l hc hk fun _ _ _ _ _ _ us hl=>by obtain⟨_,_,_,_,_,rfl⟩:=ar5 us hl;exact b ..
end
end L2.HD
namespace L2.PU
open PySem PySem.Spec PyProof.Rows PySem.W
structure Tot (n:Nat)(lt:Nat->Nat->Bool):Prop where
 ir: ∀i,lt i i=false
 tr: ∀i j k,lt i j=true->lt j k=true->lt i k=true
 to: ∀i j,i<n->j<n->i≠j->lt i j=false->lt j i=true
end L2.PU
namespace L2.PU
open PySem PySem.Spec PyProof.Rows
def N1 (p:Keyed):Int:=numOf p.1
def SL (l:List Keyed):Prop:=l.Pairwise fun p q=>N1 p<=N1 q
def bHw:Nat->List (Nat×Nat×Nat)->List (List Keyed)->Prop
 | _,[],[]=>True
 | s,(b,n,_)::p,r::R=>b=s/\n=r.length/\0<n/\SL r/\bHw (s+n) p R
 | _,_,_=>False
structure TS (a0:List Keyed)(rest:List Keyed)(lo:Nat)(st:SortSt):Prop where
 kind:kindOf st=oneType'
 fail:failedOf st=none
 runs: ∃R,(arrOf st).toList=R.flatten++rest/\R.flatten.length=lo/\bHw 0 (pendingOf st).toList R
 perm:(arrOf st).toList.Perm a0
def stand (t:Yk)(h:Int):Nat->SetTable.Probe
 | 0=>t.probeStart h
 | n+1=>t.advance (stand t h n)
abbrev Sm:=List (List Str×Int)
theorem bJp (a b:Str):decide (a.cps.toList<b.cps.toList)= !leS b a:=by
 rw[Jl,decide_eq_true_eq,Bool.not_eq_true',<-Bool.not_eq_true,aNn];exact List.not_le.symm
theorem bA8 (a:Str):decide (a.cps.toList<a.cps.toList)=false:=by
 rw[bJp];have:=aS8 a a;rw[Bool.or_self] at this;rw[this];rfl
theorem bG9 {a b c:Str}(h1:decide (a.cps.toList<b.cps.toList)=true)(h2:decide (b.cps.toList<c.cps.toList)=true):decide (a.cps.toList<c.cps.toList)=true:=
 decide_eq_true (List.lt_trans (of_decide_eq_true h1) (of_decide_eq_true h2))
theorem aW1: ∀(xs:List Str),bDe xs xs=false
 | []=>rfl
 | x::xs=>by unfold bDe;rw[if_pos rfl];exact aW1 xs
theorem bHa: ∀{xs ys zs:List Str},bDe xs ys=true->bDe ys zs=true->bDe xs zs=true
 | [],[],_,h,_=>by cases h
 | [],_::_,[],_,h=>by cases h
 | [],_::_,_::_,_,_=>rfl
 | _::_,[],_,h,_=>by cases h
 | _::_,_::_,[],_,h=>by cases h
 | x::xs,y::ys,z::zs,h1,h2=>by
  unfold bDe at h1 h2⊢;by_cases e1:x=y
  ·subst e1
   rw[if_pos rfl] at h1;by_cases e2:x=z
   ·subst e2
    rw[if_pos rfl] at h2⊢;exact bHa h1 h2
   ·rw[if_neg e2] at h2⊢
    exact h2
  ·rw[if_neg e1] at h1
   by_cases e2:y=z
   ·subst e2
    rw[if_neg e1];exact h1
   ·rw[if_neg e2] at h2
    have t:=bG9 h1 h2;rw[if_neg (fun e=>by rw[e,bA8] at t;cases t)];exact t
abbrev kys (l:Sm):List (List Str):=l.map (·.1)
def bMd (l:Sm)(k:List Str)(v:Int):Sm:=if (l.any fun p=>decide (p.1=k))=true then l.map (fun p=>if p.1=k then (p.1,v) else p) else l++ [(k,v)]
theorem bC1 {l:Sm}{k:List Str}:(l.any fun p=>decide (p.1=k))=true↔k∈kys l:=by
 rw[Wh,List.mem_map]
 constructor
 ·rintro⟨p,hp,e⟩;exact⟨p,hp,of_decide_eq_true e⟩
 ·rintro⟨p,hp,e⟩;exact⟨p,hp,decide_eq_true e⟩
theorem aKe (l:Sm)(k:List Str)(v:Int):kys (bMd l k v)=if k∈kys l then kys l else kys l++ [k]:=by
 unfold bMd;by_cases h:k∈kys l
 ·rw[if_pos (bC1.mpr h),if_pos h]
  unfold kys;rw[Yu]
  apply Jf
  intro p _;show (if p.1=k then (p.1,v) else p).1=p.1;split<;>rfl
 ·rw[if_neg (fun z=>h (bC1.mp z)),if_neg h]
  unfold kys;rw[Z0];rfl
def kvD (p:List Str×Int):List Key×D:=(p.1.map .inr,.int p.2)
theorem bMc (l:Sm)(k:List Str)(v:Int):bDd (l.map kvD) (k.map .inr) (.int v)=(bMd l k v).map kvD:=by
 have ha:((l.map kvD).any fun kv=>decide (kv.1=k.map .inr))=(l.any fun p=>decide (p.1=k)):=by
  rw[List.any_map]
  congr 1
  funext p
  show decide ((kvD p).1=k.map Y9)=_;by_cases e:p.1=k
  ·rw[decide_eq_true (show (kvD p).1=k.map Y9 from aRh.mpr e),decide_eq_true e]
  ·rw[decide_eq_false (fun z:(kvD p).1=k.map Y9=>e (aRh.mp z)),decide_eq_false e]
 unfold bDd bMd;rw[ha];split
 ·rw[Yu,Yu]
  apply Jf
  intro p _;show (if (kvD p).1=k.map Y9 then ((kvD p).1,D.int v) else kvD p)=kvD (if p.1=k then (p.1,v) else p);by_cases e:p.1=k
  ·rw[if_pos (show (kvD p).1=k.map Y9 from aRh.mpr e),if_pos e];rfl
  ·rw[if_neg (fun z:(kvD p).1=k.map Y9=>e (aRh.mp z)),if_neg e]
 ·rw[Z0]
  rfl
theorem aPq {i j:Nat}{f:Rho->M D}{ρ:Rho}{l:Sm}{k:List Str}{v:Int}(hi:ρ[i]? =some (some (.ow (.t (l.map kvD)))))(hj:bNv ρ j=some (k.map .inr))(hf:f ρ=ok (.int v))(hl:l.length<100000):
  bLv i j f ρ=some (.nx (ρ.set i (some (.ow (.t ((bMd l k v).map kvD)))))):=by
 unfold bLv;rw[hi,hj];show lft (f ρ) ρ _=_;rw[hf,aDq,if_pos ⟨rfl,by rw[Qi];exact hl⟩,bMc]
structure MarkS (l:Sm):Prop where
 ks:(kys l).Pairwise fun x y=>bDe x y=true
 fa: ∀p∈l,p.1.Pairwise fun x y=>leS x y=true
 po: ∀p∈l,1<=p.2
theorem MarkS.nd {l:Sm}(h:MarkS l):(kys l).Nodup:=h.ks.imp fun hxy e=>by rw[e,aW1] at hxy;cases hxy
theorem aWx {α:Type}[DecidableEq α]: ∀{l m:List α},l.Nodup->(∀x∈l,x∈m)->l.length<=m.length
 | [],_,_,_=>Ye _
 | x::l,m,hn,hs=>by
  rw[J9] at hn;have hx:=hs x Qq;have:=aWx (l:=l) (m:=m.erase x) hn.2 fun y hy=>(Ja (a:=y) (b:=x) (fun e=>hn.1 (by rw[<-e];exact hy))).mpr (hs y (Qm _ hy))
  rw[Yv hx] at this;have:0<m.length:=Jh hx;rw[Zc];omega
def r4:List Nat:=[0,1,2,3]
def L35:List (List Nat):=[[]]++(r4.map fun a=> [a])++(r4.flatMap fun a=>(r4.filter fun b=>decide (a<=b)).map fun b=> [a,b])++(r4.flatMap fun a=>(r4.filter fun b=>decide (a<=b)).flatMap fun b=>(r4.filter fun c=>decide (b<=c)).map fun c=> [a,b,c])
theorem w1: ∀a:Fin 4,(L35.any fun l=>l.isPerm [a.1])=true:=by decide
theorem w2: ∀a b:Fin 4,(L35.any fun l=>l.isPerm [a.1,b.1])=true:=by decide
theorem w3: ∀a b c:Fin 4,(L35.any fun l=>l.isPerm [a.1,b.1,c.1])=true:=by decide
def sWh (t:Rho->M Bool)(F:Rho->Option Out):Nat->Rho->Option Out
 | 0,_=>none
 | n+1,ρ=>lft (t ρ) ρ fun b=>if b=true then (match F ρ with
  | some (.nx ρ')=>sWh t F n ρ'
  | some (.ct ρ')=>sWh t F n ρ'
  | some (.bk ρ')=>some (.nx ρ')
  | some (.rt d)=>some (.rt d)
  | some (.ex c ρ')=>some (.ex c ρ')
  | none=>none) else some (.nx ρ)
def aZ0 (t:Rho->M Bool)(F:Rho->Option Out):Rho->Option Out:=sWh t F 100000
theorem bD0 {t:Rho->M Bool}{F:Rho->Option Out}{ρ:Rho}(h:t ρ=ok false)(n:Nat):sWh t F (n+1) ρ=some (.nx ρ):=by
 unfold sWh;rw[h,aDq,if_neg Q7]
theorem bD1 {t:Rho->M Bool}{F:Rho->Option Out}{ρ ρ':Rho}(h:t ρ=ok true)(hf:F ρ=some (.nx ρ'))(n:Nat):sWh t F (n+1) ρ=sWh t F n ρ':=by
 (conv=>lhs;unfold sWh)
 rw[h,aDq,if_pos rfl,hf]
section
variable {X:Cx}{B:Hp}{c:Expr}{body:List Stmt}{tc:Rho->M Bool}{F:Rho->Option Out}{pos:Pos}
theorem bAp (hp:PassesOwn (Qp X.prog X.w) X.A X.env X.xe)(hc:PDT X B c tc)(hb:PDB X B body F):PDS X B (.While c body [] pos) (aZ0 tc F):=by
 refine PS.of (bEa hp hc hb) fun E σ H h=> ?_
 obtain⟨ρ,r,h⟩:=h;refine⟨fun m σ H=> ∃ρ,Rel X.K B ρ σ H/\aLn X B E (sWh tc F m ρ),⟨100000,ρ,r,h⟩,?_⟩
 rintro m σ H ⟨ρ,r,h⟩
 cases m with
 | zero=>exact Qd h
 | succ m=>
  unfold sWh at h;refine⟨ρ,r,(aCh r h).imp fun b h1 H1 e1=> ?_⟩;cases b with
  | false=>rw[if_neg Q7] at h1⊢;exact h1 σ H1 (r.mono e1)
  | true=>
   rw[if_pos rfl] at h1⊢;refine⟨fun σ' H'=> ∃ρ',Rel X.K B ρ' σ' H'/\aLn X B E (sWh tc F m ρ'),fun σ' H' q=>⟨m,Nat.lt_succ_self m,q⟩,ρ,r.mono e1,?_⟩;cases qf:F ρ with
   | none=>rw[qf] at h1;exact Qd h1
   | some o=>
    rw[qf] at h1;cases o with
    | nx ρ2=>exact fun σ3 H3 r3=>⟨ρ2,r3,h1⟩
    | ct ρ2=>exact fun σ3 H3 r3=>⟨ρ2,r3,h1⟩
    | bk ρ2=>exact h1
    | rt d=>exact h1
    | ex c ρ2=>exact h1
end
section
variable {K:Qa}{H:Hp}
theorem aIr: ∀{kvs:List (Key×D)} {vs:List (Key×V)},IsK K H kvs vs->kvs.length=vs.length
 | _,_,.nil=>rfl
 | _,_,.cons _ r=>by rw[Zc,Zc,aIr r]
theorem aNp {k:Key}: ∀{kvs:List (Key×D)} {vs:List (Key×V)},IsK K H kvs vs->(aQe kvs k=none/\aR9 vs k=none)\/∃d v,aQe kvs k=some d/\aR9 vs k=some v/\Is K H d v
 | _,_,.nil=> .inl ⟨rfl,rfl⟩
 | _,_,.cons (x:=x) (d:=d) (v:=v) i r=>by
  by_cases e:x=k
  ·exact .inr ⟨d,v,by simp[aQe,e],by simp[aR9,e],i⟩
  ·have h1: ∀ds,aQe ((x,d)::ds) k=aQe ds k:=fun ds=>by simp[aQe,Ym,e]
   have h2: ∀ds,aR9 ((x,v)::ds) k=aR9 ds k:=fun ds=>by simp[aR9,Ym,e]
   rw[h1,h2];exact aNp r
theorem bBq {k:Key}: ∀{kvs:List (Key×D)} {vs:List (Key×V)},IsK K H kvs vs->(kvs.any fun kv=>decide (kv.1=k))=(vs.any fun kv=>decide (kv.1=k))
 | _,_,.nil=>rfl
 | _,_,.cons _ r=>by rw[Jm,Jm,bBq r]
theorem aVk {k:Key}{d:D}{v:V}(i:Is K H d v): ∀{kvs:List (Key×D)} {vs:List (Key×V)},IsK K H kvs vs->IsK K H (kvs.map fun kv=>if kv.1=k then (kv.1,d) else kv) (vs.map fun kv=>if kv.1=k then (kv.1,v) else kv)
 | _,_,.nil=> .nil
 | _,_,.cons (x:=x) i' r=>by
  rw[Q4,Q4];by_cases e:x=k
  ·rw[if_pos e,if_pos e];exact .cons i (aVk i r)
  ·rw[if_neg e,if_neg e];exact .cons i' (aVk i r)
theorem aW6 {k:Key}{d:D}{v:V}(i:Is K H d v): ∀{kvs:List (Key×D)} {vs:List (Key×V)},IsK K H kvs vs->IsK K H (kvs++ [(k,d)]) (vs++ [(k,v)])
 | _,_,.nil=> .cons i .nil
 | _,_,.cons i' r=> .cons i' (aW6 i r)
theorem bJ3 {k:Key}{d:D}{v:V}(i:Is K H d v){kvs:List (Key×D)}{vs:List (Key×V)}(r:IsK K H kvs vs):IsK K H (bDd kvs k d) (putK vs k v):=by
 unfold bDd putK;rw[bBq (k:=k) r];split
 ·exact aVk i r
 ·exact aW6 i r
end
section
variable {X:Cx}{B:Hp}{e a b:Expr}{fa fb fk:Rho->M D}{pos pos' p pos2 cpos apos spos:Pos}{x:Str}{i j:Nat}
def bB2:D->D->M D:=fun d k=>match d,keyOf k with
 | .dk kvs,some key=>(match aQe kvs key with | some v=>ok v | none=>none)
 | _,_=>none
theorem aZg.ofK {K:Qa}{H:Hp}{kvs:List (Key×D)}{v:V}{kd:D}{u:V}{key:Key}(i:Is K H (.dk kvs) v)(ik:Is K H kd u)(hk:keyOf kd=some key): ∃a vs,v= .ref a/\Rd H a (.dK vs)/\IsK K H kvs vs/\u=kV key/\aZg H a u (aR9 vs key):=by
 cases i with
 | dk hh rr=>
  have e:=aVh ik hk;subst e;exact⟨_,_,rfl,hh,rr,rfl,.inl ⟨_,_,hh,rfl,rfl⟩⟩
theorem aWv {k:Nat}(hr:aFz k X.A)(ha:PD X B a fa)(hb:PD X B b fb)(hs:bO7 b:=by intro _ _;rfl):PD X B (.Subscript a b pos) (b2 bB2 fa fb):=by
 refine PE.of (bIr (bBt hr) ha hb hs) fun σ H Q h=> ?_
 obtain⟨ρ,r1,h⟩:=h;refine⟨ρ,r1,(Res.bind h).imp fun dx h1 v H1 e1 i1=>⟨ρ,r1.mono e1,(Res.bind h1).mono e1 fun dy h2 u H2 e2 i2=> ?_⟩⟩;unfold bB2 at h2;split at h2
 ·rename_i kvs key hk
  split at h2
  ·rename_i d hd
   obtain⟨a,vs,rfl,g1,g2,g3,g4⟩:=aZg.ofK (i1.mono e2) i2 hk;rcases aNp (k:=key) g2 with⟨z1,z2⟩ |⟨d',v',z1,z2,i'⟩
   ·rw[z1] at hd;cases hd
   ·rw[z1] at hd
    cases hd;rw[z2] at g4;exact⟨a,v',rfl,g4,h2 v' H2 (e1.trans e2) i'⟩
  ·exact Qd h2
 ·exact Qd h2
def aVt (neg:Bool):D->D->M D:=fun k d=>match d,keyOf k with
 | .dk kvs,some key=>ok (.bl (if neg then !(aQe kvs key).isSome else (aQe kvs key).isSome))
 | _,_=>none
def bPr (neg:Bool):R2:=fun x y H Q=> ∃a o,y= .ref a/\aZg H a x o/\Q (.bl (if neg then !o.isSome else o.isSome)) H
theorem aTv (neg:Bool):aHd (aVt neg):=by
 intro x y c h;unfold aVt at h;split at h<;>cases h
theorem bL4 (neg:Bool):aO2 X (bPr neg) (aVt neg):=by
 intro H x y dx dy d Q ix iy e q;unfold aVt at e;split at e
 ·rename_i kvs key hk
  cases e;obtain⟨a,vs,rfl,g1,g2,g3,g4⟩:=aZg.ofK iy ix hk;have hs:(aQe kvs key).isSome=(aR9 vs key).isSome:=by
   rcases aNp (k:=key) g2 with⟨z1,z2⟩ |⟨d',v',z1,z2,i'⟩<;>rw[z1,z2]<;>rfl
  refine⟨a,_,rfl,g4,?_⟩;rw[<-hs];exact q _ H (Same.refl H) (.bl _)
 ·cases e
theorem bM9 {k:Nat}(hr:aFz k X.A):OpR X (Yj .In) (bPr false):=by
 intro pins s σ H x y v u Q I rx ry h;obtain⟨a,o,rfl,g,q⟩:=h;cases ry;exact bSy (bBt hr) I g rx fun s' I'=>aB3 I' q rfl
theorem bA0 {k:Nat}(hr:aFz k X.A):OpR X (Yj .NotIn) (bPr true):=by
 intro pins s σ H x y v u Q I rx ry h;obtain⟨a,o,rfl,g,q⟩:=h;cases ry;exact bKp (bBt hr) I g rx fun s' I'=>aB3 I' q rfl
theorem aUz {k:Nat}(hr:aFz k X.A)(ha:PD X B a fa)(hb:PD X B b fb)(hm:Y8 .In b=false:=by rfl):PDT X B (.Compare a [.In] [b] pos) (aAm (b2 (aVt false) fa fb)):=aEn (bM9 hr) (bL4 false) (aTv false) ha hb hm
theorem aX6 {k:Nat}(hr:aFz k X.A)(ha:PD X B a fa)(hb:PD X B b fb)(hm:Y8 .NotIn b=false:=by rfl):PDT X B (.Compare a [.NotIn] [b] pos) (aAm (b2 (aVt true) fa fb)):=aEn (bA0 hr) (bL4 true) (aTv true) ha hb hm
def bD2 (i:Nat):Rho->Option Out:=fun ρ=>some (.nx (ρ.set i (some (.ow (.k [])))))
theorem bEo (hN:X.N.Nodup)(hi:X.N[i]? =some x)(hx:Loc X.env.scope x)(hs:Yr (.Dict [] [] p) (some (.Name x pos')) pos.line X.env=pure false:=by rfl)(hf:X.fn x=true\/X.env.scope.names.lookup x=some .local:=by first | exact .inl rfl | exact .inr rfl | assumption):
  PDS X B (.Assign [.Name x pos'] (.Dict [] [] p) pos) (bD2 i):=by
 refine PS.of (aM7 hN hi hx bEh hs hf) fun E σ H h=> ?_
 obtain⟨ρ,r,h⟩:=h;intro l hl;exact h _ _ (r.bG2 (o:= .k []) hl (fun _ _=>IsK.nil) (fun _ _=>IsK.nil))
theorem Rel.bRk {K:Qa}{B H:Hp}{ρ:Rho}{σ:St}{kvs:List (Key×D)}(r:Rel K B ρ σ H)(qi:ρ[i]? =some (some (.ow (.k kvs)))):
  ∃(O:Nat->Option Addr) (a:Addr) (vs:List (Key×V)),(∀i j a,O i=some a->O j=some a->i=j)/\aSb H O/\Same B (Off H O)/\ρ.length=σ.length/\(∀i sv,ρ[i]? =some (some sv)->Slot K H O σ i sv)/\
   O i=some a/\σ[i]? =some (some (.ref a))/\H a=some (.dK vs)/\IsK K (Off H O) kvs vs:=by
 obtain⟨O,h1,ho,h2,hl,h3⟩:=r;obtain⟨a,w,z1,z2,z3,z4⟩:=(show Slot K H O σ i (.ow (.k kvs)) from h3 i _ qi);cases w<;>first | exact Qd z4 | skip
 exact⟨O,a,_,h1,ho,h2,hl,h3,z1,z2,z3,z4⟩
def aKc (i:Nat)(fk f:Rho->M D):Rho->Option Out:=fun ρ=>match ρ[i]? with
 | some (some (.ow (.k kvs)))=>lft (f ρ) ρ fun d=>lft (fk ρ) ρ fun kd=>(match keyOf kd with
  | some key=>if d.imm=true/\kvs.length<100000 then some (.nx (ρ.set i (some (.ow (.k (bDd kvs key d)))))) else none
  | none=>none)
 | _=>none
theorem aKh {k:Nat}(hr:aFz k X.A)(i:Nat){x:Str}(hk:PD X B b fk)(he:PD X B e fa)(hN:X.N[i]? =some x:=by rfl)(hv:Vis X.env.scope x:=by first | exact Qz rfl | exact Yi (Qz rfl) | exact Yi (Yi rfl))
  (hd:(x==("__debug__":Str))=false:=by decide) (hcd:(x==("__classdict__":Str))=false:=by decide) (hs:Yr e (some (.Subscript (.Name x p) b pos')) pos.line X.env=pure false:=by rfl):
  PDS X B (.Assign [.Subscript (.Name x p) b pos'] e pos) (aKc i fk fa):=by
 refine PS.of (bIm (bBt hr) (aHo hN hv hd hcd) hk he hs) fun E σ H h=> ?_
 obtain⟨ρ,r,h⟩:=h;unfold aKc at h;split at h
 ·rename_i kvs qi
  refine⟨ρ,r,(aCh r h).imp fun d h1 v H1 s1 i1=> ?_⟩;obtain⟨O,a,vs,g1,go,g2,gl,g3,z1,z2,z3,z4⟩:=(r.mono s1).bRk qi;refine⟨.ref a,z2,ρ,r.mono s1,Res.mono (Same.refl _) (aCh (r.mono s1) h1) fun kd h2 u H2 s2 i2=> ?_⟩;split at h2
  ·rename_i key hkey
   split at h2
   ·rename_i hh
    clear g1 go g2 gl g3 z1 z3 z4;obtain⟨O2,a',vs2,g1,go,g2,gl,g3,z1,z2',z3,z4⟩:=((r.mono s1).mono s2).bRk qi;have ea:a=a':=by rw[z2] at z2';cases z2';rfl
    rw[ea];have eu:=aVh i2 hkey;rw[eu];refine⟨a',_,rfl,bOs.k z3 (by rw[<-aIr z4];exact W2 hh.2 (by decide)),?_⟩;exact h2 _ _ (Rel.bM1 O2 g1 go g2 gl g3 qi z1 z2' (o':= .k (bDd kvs key d)) (w':= .dK (putK vs2 key v)) (bJ3 (aQ8 go hh.1 (i1.mono s2)) z4))
   ·exact Qd h2
  ·exact Qd h2
 ·exact Qd h
end
def ownAt (ρ:Rho)(j:Nat):Bool:=match ρ[j]? with
 | some (some (.own _))=>true
 | some (some (.oin _ _ _ _))=>true
 | some (some (.ow _))=>true
 | _=>false
def bOw (ρ:Rho):Bool:=ρ.all fun o=>match o with | some (.nl _ _)=>false | _=>true
theorem Rel.tight {K:Qa}{H₀ H:Hp}{ρ:Rho}{σ:St}(r:Rel K H₀ ρ σ H)(no:bOw ρ=true): ∃O:Nat->Option Addr,(∀i j a,O i=some a->O j=some a->i=j)/\aSb H O/\Same H₀ (Off H O)/\ρ.length=σ.length/\(∀i sv,ρ[i]? =some (some sv)->Slot K H O σ i sv)/\∀j a,O j=some a->ownAt ρ j=true:=by
 obtain⟨O,h1,ho,h2,hl,h3⟩:=r;obtain⟨O',hO'⟩: ∃O':Nat->Option Addr,O'=fun j=>if ownAt ρ j=true then O j else none:=⟨_,rfl⟩
 have oj: ∀j a,O' j=some a->ownAt ρ j=true/\O j=some a:=fun j a q=>by
  rw[hO'] at q
  dsimp only at q
  by_cases hj:ownAt ρ j=true
  ·rw[if_pos hj] at q;exact⟨hj,q⟩
  ·rw[if_neg hj] at q;cases q
 have sm:Same (Off H O) (Off H O'):=Off.less fun j a q=>⟨j,(oj j a q).2⟩
 have oi: ∀j,ownAt ρ j=true->O' j=O j:=fun j hj=>by rw[hO'];exact if_pos hj
 refine⟨O',fun i j a p q=>h1 i j a (oj i a p).2 (oj j a q).2,fun i a q=>ho i a (oj i a q).2,h2.trans sm,hl,fun i sv q=> ?_,fun j a q=>(oj j a q).1⟩;have z:=h3 i sv q;cases sv with
 | sh d=>obtain⟨v,e1,e2⟩:=z;exact⟨v,e1,e2.mono sm⟩
 | own ds=>obtain⟨a,vs,e1,e2,e3,e4⟩:=z;exact⟨a,vs,(oi i (by unfold ownAt;rw[q])).trans e1,e2,e3,e4.mono sm⟩
 | oin a C dx fs=>obtain⟨e1,e2,e3,vs,e4,e5⟩:=z;exact⟨(oi i (by unfold ownAt;rw[q])).trans e1,e2,e3,vs,e4,e5.mono sm⟩
 | ow o=>obtain⟨a,w,e1,e2,e3,e4⟩:=z;exact⟨a,w,(oi i (by unfold ownAt;rw[q])).trans e1,e2,e3,e4.mono sm⟩
 | tk ks=>obtain⟨a,e1,e2⟩:=z;exact⟨a,e1,sm _ _ e2⟩
 | nl kd ls=>
  exfalso
  have:=List.all_eq_true.mp no (some (.nl kd ls)) (Zx q);cases this
def bRn:List D->List D->Bool
 | .int _::_,.lst _::_=>true
 | .str _::_,.tup _::_=>true
 | _,_=>false
def apL (ds:List D):Option SV->Bool
 | some (.own es)=>decide (ds.length≠es.length) || bRn ds es
 | some (.oin _ _ _ _)=>false
 | some (.nl _ _)=>false
 | _=>true
def ap:D->Rho->Bool
 | .lst ds,ρ=>aCo ds&&ρ.all (apL ds)
 | _,_=>false
theorem Rel.apart {K:Qa}{H₀ H:Hp}{ρ:Rho}{σ:St}{d:D}{v:V}(r:Rel K H₀ ρ σ H)(iv:Is K H d v)(h:ap d ρ=true):
  ∃O:Nat->Option Addr,(∀i j a,O i=some a->O j=some a->i=j)/\aSb H O/\Same H₀ (Off H O)/\ρ.length=σ.length/\(∀i sv,ρ[i]? =some (some sv)->Slot K H O σ i sv)/\Is K (Off H O) d v:=by
 have no:bOw ρ=true:=by
  cases d<;>first |(cases h;done) | skip
  rw[ap,Qw,Yt] at h;refine List.all_eq_true.mpr fun o ho=> ?_
  have:=h.2 o ho;cases o with
  | none=>rfl
  | some sv=>cases sv<;>first | rfl |(cases this;done)
 obtain⟨O,h1,ho,h2,hl,h3,h4⟩:=r.tight no;refine⟨O,h1,ho,h2,hl,h3,?_⟩;cases iv with
 | lst hh rr=>
  rename_i a ds vs;rw[ap,Qw,Yt] at h;have no: ∀u,H a=some u->((∃ws,u= .lst ws)\/∃ob ws,u= .frz ob ws)->(∀ws,u= .lst ws->ws=vs)->∀j,O j≠some a:=fun u hu hm hw j q=>by
   have hj:=h4 j a q;unfold ownAt at hj;split at hj
   ·rename_i es e
    obtain⟨b,ws,z1,z2,z3,z4⟩:=h3 j _ e;rw[q] at z1;cases z1;rw[z3] at hu;cases hu;have:=hw _ rfl;subst this;have ha:=h.2 _ (Zx e);rw[apL,Z1] at ha;rcases ha with ha | ha
    ·have:=of_decide_eq_true ha
     rw[rr.length,z4.length] at this;exact this rfl
    ·cases rr with
     | nil=>cases ha
     | cons i1 _=>
      cases z4 with
      | cons i2 _=>
       cases i1<;>first |(cases ha;done) | skip
       all_goals cases i2<;>cases ha
   ·rename_i e
    have ha:=h.2 _ (Zx e);cases ha
   ·rename_i o e
    obtain⟨b,w,z1,z2,z3,z4⟩:=h3 j _ e;rw[q] at z1;cases z1;rw[z3] at hu;cases hu;rcases hm with⟨ws,e1⟩ |⟨ob,ws,e1⟩
    ·subst e1;cases o<;>exact z4
    ·subst e1;cases o<;>exact z4
   ·cases hj
  refine .lst ?_ (aIp ho h.1 rr);rcases hh with (hh |⟨ob,hh⟩) | hh
  ·exact .inl (.inl (Off.of hh (no _ hh (.inl ⟨_,rfl⟩) fun ws e=>by cases e;rfl)))
  ·exact .inl (.inr ⟨ob,Off.of hh (no _ hh (.inr ⟨_,_,rfl⟩) fun ws e=>by cases e)⟩)
  ·exact .inr hh
 | _=>cases h
def bD3 (f:Rho->M D)(G:D->Rho->Option Rho)(F:Rho->Option Out):Rho->Option Out:=fun ρ=>lft (f ρ) ρ fun d=>match itD d with
 | some (.ok ds)=>if ap d ρ=true then loop G F ds ρ else none
 | _=>none
section
variable {X:Cx}{B:Hp}{e:Expr}{fa:Rho->M D}{pos pos':Pos}{i:Nat}{x:Str}
variable {tg iter elt:Expr}{G:D->Rho->Option Rho}{F:Rho->Option Out}{body:List Stmt}
theorem bEp (hp:PassesOwn (Qp X.prog X.w) X.A X.env X.xe)(hc:X.calm=true)(he:PD X B iter fa)(hg: ∀B,PDG X B tg G)(hb: ∀B,PDB X B body F)(hs: ∀y,Zp iter X.env y=pure y:=by intro _;rfl):PDS X B (.For tg iter body [] pos) (bD3 fa G F):=by
 refine aIn hp hc (bOv he) hg hb (fun E σ H R h k=> ?_) hs;obtain⟨ρ,r,h⟩:=h;refine⟨ρ,r,(aCh r h).imp fun d h1 v H1 e1 i1=> ?_⟩;split at h1
 ·rename_i ds hds
  split at h1
  ·rename_i hq
   obtain⟨O,o1,o2,o3,o4,o5,o6⟩:=(r.mono e1).apart i1 hq;obtain⟨a,vs,rfl,il,hz⟩:=aK4 o6 hds;have k1:Rel X.K (Off H1 O) ρ σ H1:=⟨O,o1,o2,Same.refl _,o4,o5⟩;rcases hz with k4 | k4
   ·exact .inl ⟨a,rfl,⟨_,k1.kept.seq k4⟩,k _ H1 ds _ ⟨_,aMr k4 il,k1,o3⟩ h1⟩
   ·exact .inr ⟨a,rfl,⟨_,SqT.mono k1.kept k4⟩,k _ H1 ds _ ⟨_,aRg k4 il,k1,o3⟩ h1⟩
  ·exact Qd h1
 ·exact Qd h1
variable {scope:Scope}{cl:List (Str×Addr)}{N':List Str}{m:Nat}{ifs:List Expr}{ks:List Nat}{Gc:D->Option (List D)}{ft:Rho->M Bool}{fe:Rho->M D}{it:Rho->M (List D)}
end
def ItS (lo:Int)(n:Nat):It:=⟨fun i _=>i<n,fun i H x H'=>H'=H/\x= .int (lo+i*2),fun i _=>n<=i⟩
theorem aUk {P:Qv}{w:Q8}{K:Qa}{tg:Expr}(it:Addr)(lo:Int)(n:Nat):Turn P w K tg (ItS lo n) [it] it (fun i h=>IsRangeIter h it (lo+(i:Nat)*2) ((n:Int)-(i:Nat)) 2) where
 mem:=by simp
 obj:=fun i h st b hb=>by
  have e:b=it:=by simpa using hb
  subst e;exact⟨_,st,fun v z=>by
   have z':Data.fields _=Data.cell v:=z;cases z'⟩
 keep:=fun i h h' st k=>k it (by simp) _ st
 item:=by
  intro X hP hw hK hc i pins s σ H E I hf st hg;subst hP hw hK;obtain⟨f0,f1,f2,f3,f4,f5⟩:=hf it (by simp);have W:=Walks.range (prog:=X.prog) (w:=X.w) (I.ok.hd hc) it lo 2 n;refine W.item i s _ _ hg st fun v h' tk hv st' kk=> ?_
  obtain⟨t,rfl⟩:=hv;have I1:Inv X pins σ H {s with heap:=h',toks:=tk}:=I.turned (fun b o hb e=>kk b o (by simpa using hb) e) f0 f1 f3 f4 f5;exact⟨_,rfl,bFk (s:={s with heap:=h',toks:=tk}) (n:="range_iterator") st' rfl rfl (by decide) ⟨.int (lo+i*2),H,I1,⟨t,rfl⟩,⟨rfl,rfl⟩,st',fun b hb=>(hf b hb).1⟩⟩
 done:=by
  intro X hP hw hK hc i pins s σ H E I hf st hg;subst hP hw hK;obtain⟨f0,f1,f2,f3,f4,f5⟩:=hf it (by simp);exact wpAny_pyNext_range_end (I.ok.hd hc) st (by have:n<=i:=hg;omega) fun h' eb=>⟨rfl,I.turned (t':=s.toks) (fun b o hb e=>eb b o hb e) f0 f1 f3 f4 f5⟩
 self:=fun _ _ _ _ _ st h=>wpAny_pyIter_rangeiter st h
def aTs (lo:Int)(n:Nat):List D:=(Zj n).map fun (j:Nat)=>D.int (lo+(j:Int)*2)
theorem bBi {K:Qa}(lo:Int)(n:Nat)(B:Hp):ItD K (ItS lo n) (aTs lo n) B where
 go:=fun j H e q=>by unfold aTs at q;rw[Qi,Zw] at q;exact q
 yld:=fun j H x H' e y q=>by
  unfold aTs at q;rw[Qi,Zw] at q;obtain⟨y1,y2⟩:=y;subst y2;subst y1;refine⟨Same.refl _,.int (lo+j*2),?_,.int _⟩;unfold aTs;rw[Zm,W9 q];rfl
 stop:=fun j H e q=>by unfold aTs at q;rw[Qi,Zw] at q;exact q
theorem aQj (a b:Int):Zn a b 2=if a<b then (b-a-1)/2+1 else 0:=by
 unfold Zn;simp only[show (2:Int)>0 by decide,if_true]
theorem aZv {a b:Int}(ha:0<=a)(ha':a<2^61)(hb: -(2^61)<=b)(hb':b<2^61):Builtin.Range.small a b 2=true:=by
 unfold Builtin.Range.small;rw[aQj];simp only[Builtin.Range.rangeFitsLong,Qw,Z1,decide_eq_true_eq,beq_iff_eq,show (2:Int)>0 by decide,if_true];split<;>omega
section
variable {X:Cx}{B:Hp}{tg:Expr}{a b c e:Expr}{fa fb fc:Rho->M D}{pos pos' p:Pos}
theorem bAd {pins:List (Addr×Obj)}{σ:St}{H:Hp}{s:Qe}{R:It->Hp->Prop}{E:Qc->Qe->Prop}{lo hi:Int}{t u v:Tok}{tk:Nat}(I:Inv X pins σ H s)(h1:0<=lo)(h2:lo<2^61)(h3: -(2^61)<=hi)(h4:hi<2^61)
  (q:R (ItS lo (Zn lo hi 2).toNat) H):Qs (Qp X.prog X.w) X.A (pyIter (.ref s.heap.objs.size)) (PIE X pins σ tg R) E {s with heap:=s.heap.push {cls:= .type "range",data:= .fields #[.int lo t,.int hi u,.int 2 v]},toks:=tk}:=by
 refine wpAny_pyIter_range (IsRange.new ..) (aZv h1 h2 h3 h4) ?_;have I1:Inv X pins σ H {s with heap:=s.heap.push {cls:= .type "range",data:= .fields #[.int lo t,.int hi u,.int 2 v]},toks:=tk}:=I.kept fun b o e=>Qg _ e
 refine⟨(s.heap.push {cls:= .type "range",data:= .fields #[.int lo t,.int hi u,.int 2 v]}).objs.size,[(s.heap.push {cls:= .type "range",data:= .fields #[.int lo t,.int hi u,.int 2 v]}).objs.size],_,_,H,rfl,
  I1.kept (t':=tk) fun b o e=>Qg _ e,aUk _ lo (Zn lo hi 2).toNat,?_,fun b hb=> ?_,q⟩
 ·have e1:lo+((0:Nat):Int)*2=lo:=by simp
  have e2:(((Zn lo hi 2).toNat:Nat):Int)-((0:Nat):Int)=Zn lo hi 2:=by rw[aQj];split<;>omega
  show IsRangeIter _ _ (lo+((0:Nat):Int)*2) ((((Zn lo hi 2).toNat:Nat):Int)-((0:Nat):Int)) 2;rw[e1,e2];exact Qx _ rfl
 ·have e:b=(s.heap.push {cls:= .type "range",data:= .fields #[.int lo t,.int hi u,.int 2 v]}).objs.size:=by simpa using hb
  subst e;exact I1.bHl (Qr _) (I1.hok.fresh (Qr _))
def bNy (fa fb fc:Rho->M D):Rho->M (List D):=fun ρ=>bnd (aAb fa (aAb fb (aAb fc aAn)) ρ) fun ds=>match ds with
 | [.int i,.int j,.int k]=>if k=2/\0<=i/\i<2^61/\ -(2^61)<=j/\j<2^61 then ok (aTs i (if i<j then (j-i-1)/2+1 else 0).toNat) else none
 | _=>none
theorem bMh (hg:Gl X "range")(hm:X.mg "range"=none)(ha:PD X B a fa)(hb:PD X B b fb)(hc:PD X B c fc)(hs:aDn a=true:=by rfl)(hs2:aDn b=true:=by rfl)(hs3:aDn c=true:=by rfl):PIt X B tg (.Call (.Name "range" p) [a,b,c] [] pos) (bNy fa fb fc):=by
 intro pins s σ H R ρ I r q;have st1:Qu [a,b,c] X.env=[(false,eval a X.env),(false,eval b X.env),(false,eval c X.env)]:=by rw[aBf hs,aBf hs2,aHy hs3]
 refine Call_ (aL2 I hg hm boot_range (Z8 (thn (aAa ha (aAa hb (aAa hc aAg (aBf hs3)) (aBf hs2)) (aBf hs) pos pins s σ H (fun vs H1=> ∃i j:Int,vs=[.int i,.int j,.int 2]/\(0<=i/\i<2^61/\ -(2^61)<=j/\j<2^61)/\R (ItS i (Zn i j 2).toNat) H1) I ⟨ρ,r,(Res.bind q).imp fun ds q1 vs H1 e1 i1=> ?_⟩) fun us s1 ⟨vs,H1,I1,r1,q1⟩=> ?_) (by rw[st1];rw[aBf hs2,aHy hs3]) (by rw[aBf hs2,aHy hs3];rfl)))
 ·split at q1
  ·rename_i i j k
   split at q1
   ·rename_i hk
    obtain⟨rfl,h1,h2,h3,h4⟩:=hk;cases i1 with
    | cons x1 r1=>
     cases r1 with
     | cons x2 r2=>
      cases r2 with
      | cons x3 r3=>
       cases r3;cases x1;cases x2;cases x3;refine⟨i,j,rfl,⟨h1,h2,h3,h4⟩,?_⟩;rw[aQj];exact q1 _ _ e1 (bBi i _ H1)
   ·exact Qd q1
  ·exact Qd q1
 ·obtain⟨i,j,e,⟨q2,q3,q4,q5⟩,q⟩:=q1
  subst e;cases r1 with
  | cons x1 r1=>
   cases r1 with
   | cons x2 r2=>
    cases r2 with
    | cons x3 r3=>
     cases r3;obtain⟨t,rfl⟩:=x1;obtain⟨t',rfl⟩:=x2;obtain⟨t2,rfl⟩:=x3;exact call_range_3 (by decide) (bAd I1 q2 q3 q4 q5 q) (Qz (PyProof.noPylong_small (by decide)))
end
theorem Rel.bM0 {K:Qa}{H₀ H H':Hp}{ρ:Rho}{σ:St}{i:Nat}{a:Addr}{ds:List D}{vs:List V}(r:Rel K H₀ ρ σ H)(hs:Same H H')(hf:H a=none)(hv:H' a=some (.lst vs))(im:aCo ds=true)(iv:IsL K H' ds vs):Rel K H₀ (ρ.set i (some (.own ds))) (σ.set i (some (.ref a))) H':=by
 obtain⟨O,h1,ho,h2,hl,h3⟩:=id r;by_cases hi:i<σ.length
 case neg=>
  have s1: ∀x:Option SV,ρ.set i x=ρ:=fun x=>Zg (by omega)
  have s2: ∀x:Option V,σ.set i x=σ:=fun x=>Zg (by omega)
  rw[s1,s2];exact r.mono (hs)
 have na: ∀j b,O j=some b->b≠a:=fun j b q e=>by
  subst e;obtain⟨u,w,m⟩:=ho j b q;rw[w] at hf;cases hf
 let O':Nat->Option Addr:=fun j=>if j=i then some a else O j
 have Oi:O' i=some a:=if_pos rfl;have On: ∀j,j≠i->O' j=O j:=fun j e=>if_neg e
 have hO':aSb H' O':=fun j b q=>by
  by_cases e:j=i
  ·subst e
   rw[Oi] at q;cases q;exact⟨_,hv,rfl⟩
  ·rw[On j e] at q
   obtain⟨u,w,m⟩:=ho j b q;exact⟨u,hs _ _ w,m⟩
 have sm:Same (Off H O) (Off H' O'):=fun b o q=>by
  have qh:=Off.same H O b o q;have nb:b≠a:=fun e=>by subst e;rw[hf] at qh;cases qh
  refine Off.of (hs _ _ qh) fun j z=> ?_
  by_cases e:j=i
  ·subst e
   rw[Oi] at z;cases z;exact nb rfl
  ·rw[On j e] at z
   exact Off.not q j z
 refine⟨O',fun j k b q1 q2=> ?_,hO',h2.trans sm,by rw[Q3,Q3,hl],fun j sv q=> ?_⟩
 ·by_cases e1:j=i
  ·by_cases e2:k=i
   ·rw[e1,e2]
   ·subst e1
    rw[Oi] at q1;cases q1;rw[On k e2] at q2;exact absurd rfl (na k _ q2)
  ·by_cases e2:k=i
   ·subst e2
    rw[Oi] at q2;cases q2;rw[On j e1] at q1;exact absurd rfl (na j _ q1)
   ·rw[On j e1] at q1
    rw[On k e2] at q2;exact h1 j k b q1 q2
 ·by_cases e:j=i
  ·subst e
   have hj:j<ρ.length:=by
    have:=(List.getElem?_eq_some_iff.mp q).1
    rwa [Q3] at this
   rw[Q6 hj] at q;have q':=Option.some.inj (Option.some.inj q);subst q';exact⟨a,vs,Oi,Q6 (by rw[<-hl];exact hj),hv,aIp hO' im iv⟩
  ·rw[Qh (Ne.symm e)] at q
   have z:=h3 j sv q;cases sv with
   | sh d'=>obtain⟨v',e1,e2⟩:=z;exact⟨v',by rw[Qh (Ne.symm e)];exact e1,e2.mono sm⟩
   | own ds'=>
    obtain⟨b,ws,e1,e2,e3,e4⟩:=z;exact⟨b,ws,by rw[On j e];exact e1,by rw[Qh (Ne.symm e)];exact e2,hs _ _ e3,e4.mono sm⟩
   | oin b C dx fs=>
    obtain⟨e1,e2,e3,ws,e4,e5⟩:=z;exact⟨by rw[On j e];exact e1,by rw[Qh (Ne.symm e)];exact e2,e3,ws,hs _ _ e4,e5.mono sm⟩
   | ow o'=>
    obtain⟨b,u,e1,e2,e3,e4⟩:=z;exact⟨b,u,by rw[On j e];exact e1,by rw[Qh (Ne.symm e)];exact e2,hs _ _ e3,e4.mono sm⟩
   | tk ks=>obtain⟨b,e1,e2⟩:=z;exact⟨b,by rw[Qh (Ne.symm e)];exact e1,sm _ _ e2⟩
   | nl kd ls=>exact NL.move (by rw[Q3]) (Qh (Ne.symm e)) (fun m b w hm e1 e2=>⟨by rw[On m (by rcases hm with h | h<;>omega)];exact e1,hs _ _ e2⟩) sm z
section
variable {X:Cx}{B:Hp}{e a b:Expr}{fa fb fk:Rho->M D}{pos pos' p pos2 apos cpos:Pos}{i:Nat}{x:Str}{tg iter elt:Expr}
variable {scope:Scope}{cl:List (Str×Addr)}{N':List Str}{m:Nat}{ifs:List Expr}{ks:List Nat}{Gc:D->Option (List D)}{ft:Rho->M Bool}{fe:Rho->M D}{it:Rho->M (List D)}
def bJ6:List (Key×D)->Bool
 | []=>true
 |(_,d)::l=>d.imm&&bJ6 l
theorem bBp {K:Qa}{H:Hp}{O:Nat->Option Addr}(ho:aSb H O): ∀{l:List (Key×D)} {kvs:List (Key×V)},bJ6 l=true->IsK K H l kvs->IsK K (Off H O) l kvs
 | _,_,_,.nil=> .nil
 | _,_,q,.cons i r=>by
  rw[bJ6,Qw] at q;exact .cons (aQ8 ho q.1 i) (bBp ho q.2 r)
def aH8 (i:Nat)(f:Rho->M D):Rho->Option Out:=fun ρ=>lft (f ρ) ρ fun d=>match d with
 | .dk kvs=>if bJ6 kvs=true then some (.nx (ρ.set i (some (.ow (.k kvs))))) else none
 | _=>none
theorem aYw:aHk X (.type "dict") (fun xs H Q=> ∃p kvs,xs=[.ref p]/\Rd H p (.dK kvs)/\∀l,H l=none->Q (.ref l) (upd H l (.dK kvs))):=by
 intro pins s σ H xs us Q I r h;obtain⟨p,kvs,rfl,hp,q⟩:=h;obtain⟨u,rfl,rx⟩:=vals1 r;cases rx;exact bF0 I hp fun l s' hl I'=>⟨.ref l,_,I',rfl,q l hl⟩
theorem aKi (hg:Gl X "dict")(hm:X.mg "dict"=none)(hN:X.N.Nodup)(hi:X.N[i]? =some x)(hx:Loc X.env.scope x)(he:PD X B e fa)(hst:aDn e=true:=by rfl)(hs:Yr (.Call (.Name "dict" p) [e] [] pos2) (some (.Name x pos')) pos.line X.env=pure false:=by rfl)(hf:X.fn x=true\/X.env.scope.names.lookup x=some .local:=by first | exact .inl rfl | exact .inr rfl | assumption):
  PDS X B (.Assign [.Name x pos'] (.Call (.Name "dict" p) [e] [] pos2) pos) (aH8 i fa):=by
 refine PS.of (aM7 hN hi hx (aIa aYw hg hm boot_dict (aBx he aD4 (aBf hst)) (he:=aBf hst) (hpl:=by rfl)) hs hf) fun E σ H h=> ?_
 obtain⟨ρ,r,h⟩:=h;refine⟨ρ,r,(aCh r h).imp fun d h1 v H1 e1 i1=> ?_⟩;cases i1 with
 | dk hh rr=>
  dsimp only at h1
  split at h1
  ·rename_i im
   refine⟨_,_,rfl,hh,fun l hl=>h1 _ _ ((r.mono e1).bG2 (o:= .k _) hl (fun H' sm=>IsK.mono sm rr) fun O ho=>bBp ho im (IsK.mono (aA5 hl _) rr))⟩
  ·exact Qd h1
 | _=>exact Qd h1
end
section
variable {X:Cx}{B:Hp}{a b:Expr}{fa fb:Rho->M D}{pos:Pos}
def bP4:D->M D
 | .int i=>ok (.int (-i))
 | _=>none
theorem bMw (ha:PD X B a fa):PD X B (.UnaryOp .USub a pos) (f1 bP4 fa):=by
 refine PE.of (bPw bLk ha) fun σ H Q h=> ?_
 obtain⟨ρ,r1,h⟩:=h;refine⟨ρ,r1,(Res.bind h).imp fun d q1 v H1 e1 i1=> ?_⟩;cases i1 with
 | int i=>exact⟨i,rfl,q1 _ H1 e1 (.int _)⟩
 | _=>exact Qd q1
end
def OkF (n:Nat)(N:List Str)(den:Rho->Option Out)(F:List D->M D):Prop:=(∀ds r,F ds=some r->ds.length=n)/\∀ds r,F ds=some r->∃d,r= .ok d/\aA0 (den (aBu N ds))=ok d
end L2.PU
namespace L2.PU
open PySem PySem.Spec PyProof.Rows Builtin.Getset_descriptor
structure Own (K:Qa)(D:Addr):Prop where
 ga:Uu K (.ref D) "__getattribute__"=some (some (.builtin "BaseException.__getattribute__"))
 gh:Uu K (.ref D) "__getattr__"=some none
 ha:Uu K (.ref D) "__class__"=some (some (.builtin "object.__class__"))
 hn:PySem.W.specialIn K (.builtin "object.__class__") "__get__"=some (some (.builtin "getset_descriptor.__get__"))
 ht:PySem.W.takesIn K (.builtin "object.__class__")=some true
 hm:PySem.W.mroIn K D (.type "object")=some true
 hb:PySem.W.mroIn K D (.type "BaseException")=some true
 hc:(PySem.W.clsIn K D).isSome=true
section
variable {prog:Qv}{w:Q8}{A:Zb}{E:Qc->Qe->Prop}{K:Qa}{a C:Addr}
theorem bFt {M:Model}{h:Heap}(o:Own K C)(X:K.In h):Yg M h (Builtin.ObjectAttr.find (.ref a) (.ref C) "__class__") (.bind (.builtin "getset_descriptor.__get__") (.builtin "object.__class__")):=by
 have L1:=Ut (M:=M) X o.ha;have L2:=PySem.W.looks_specialIn (M:=M) X o.hn;have L3:=PySem.W.looks_takesIn (M:=M) X o.ht;refine L1.andThen (L2.andThen ?_);exact (show Yg M h (Builtin.ObjectAttr.dataDescriptor? (some (.builtin "object.__class__")) (some (.builtin "getset_descriptor.__get__"))) (some (.builtin "getset_descriptor.__get__",.builtin "object.__class__")) from L3.andThen .now).andThen (PySem.W.Looks.tag .now)
theorem bKk {s:Qe}{tp:Qc}{R:Result->Qe->Prop}(o:Own K C)(X:K.In s.heap)(e:excAt a C s.heap)(h:R (.ok (.ret (.ref C))) s):codeAny (Qp prog w) A (.call (.builtin "getset_descriptor.__get__") ⟨[.builtin "object.__class__",.ref a,tp],[]⟩) R s:=by
 obtain⟨hh,g,d,t,os⟩:=s;obtain⟨ob,ho,hc⟩:=e;have L0:Yg (Qp prog w) hh (typeOf (.ref a)) (.ref C):=hc▸(Jw ho).andThen .now;have L1:=Wy (M:=Qp prog w) X o.hm;have LI:Yg (Qp prog w) hh (isInstance (.ref a) (.type "object")) true:=L0.andThen L1;refine codeAny_call_builtin PySem.W.KF.slot_gs.plain PySem.W.KF.entry_gs (PySem.W.KF.slot_gs.check _ _ _ _ _ _ _ _ PySem.W.KF.type_class (PySem.W.KF.args_gs _ _ _) ?_);unfold Builtin.«getset_descriptor.__get__» descrGet;rw[PySem.W.dga_obj];refine Qb (Qf ?_);unfold descrGetter descrCheckInstance descrNameAndClass;simp only[PySem.W.KF.owner_class]
 repeat lk
 refine⟨Code.quiet_builtin _ (by decide+kernel),Js PySem.W.KF.entry_class ?_⟩;unfold Builtin.«object.__class__» shownTypeOf
 repeat lk
 exact h
theorem bKl {s:Qe}{Q:Option Qc->Qe->Prop}(o:Own K C)(X:K.In s.heap)(e:excAt a C s.heap)(h:Q (some (.ref C)) {s with toks:=s.toks+1}):Qs (Qp prog w) A (getAttr? (.ref a) "__class__") Q E s:=by
 obtain⟨hh,g,d,t,os⟩:=s;obtain⟨ob,ho,hc⟩:=e;have L0:Yg (Qp prog w) hh (typeOf (.ref a)) (.ref C):=hc▸(Jw ho).andThen .now;have L1:=Ut (M:=Qp prog w) X o.ga;have L2:=Ut (M:=Qp prog w) X o.gh;have L3:=bFt (M:=Qp prog w) (a:=a) o X;unfold getAttr? getAttrBy? getAttrBy;refine Qb (wpAny_mkText (Qb (wpAny_attempt (Yn (Qb (L0.at (Qb (L1.at ?_))))))));show Qs _ _ (getAttrByItsOwn _ _ _ _ _ _) _ _ _;unfold getAttrByItsOwn;refine Qb (m:=hookBefore (.ref C)) (L2.at ?_);refine Qb (wpAny_attempt (Yn ?_));show Qs _ _ (boundAndCalled _ _ _) _ _ _;unfold boundAndCalled;rw[F.excAttr_ValueError.ga.bind (.ref a)];refine Qb (Qf ?_);have L4:=Wy (M:=Qp prog w) X o.hb;have LI:Yg (Qp prog w) hh (isInstance (.ref a) (.type "BaseException")) true:=L0.andThen L4;refine wpAny_call (codeAny_call_builtin F.excAttr_ValueError.ga.plain F.entry_bexc_ga ?_);have kd:builtinKind "BaseException.__getattribute__"=some .slot:=by decide+kernel
 have sp:splitId "BaseException.__getattribute__"=some ("BaseException","__getattribute__"):=by decide+kernel
 have ar:=F.args_bexc_ga (.ref a) (.str (Yx "__class__") t);unfold argsOk at ar;unfold checkBuiltinCall;rw[kd,sp]
 dsimp only
 refine Qb (LI.at ?_);simp only[Wc,Jy,if_false];refine wpAny_of_eq (show _=pure () from ar) ?_;show Qs _ _ (Builtin.«object.__getattribute__» ⟨[.ref a,.str (Yx "__class__") t],[]⟩) _ _ _;unfold Builtin.«object.__getattribute__»;refine Qb (Qf ?_);refine Qb (Qf ?_);refine Qb (L0.at ?_);refine Qb (L3.at ?_);show Qs _ _ (Builtin.ObjectAttr.bindTo _ _ _ _) _ _ _;unfold Builtin.ObjectAttr.bindTo;refine Qb (m:=holding _ (call (.builtin "getset_descriptor.__get__") [.builtin "object.__class__",.ref a,.ref C])) (Yn (wpAny_call (bKk o X ⟨ob,ho,hc⟩ ?_)));refine Qf ?_;exact PySem.W.handed_on rfl (Qf h)
end
section
variable {K:Qa}{a C:Addr}
theorem bNz {c:Qc}{b:Bool}(o:Own K C)(e:Qy K (.ref C) c=some b):Answers (fun s=>K.In s.heap/\excAt a C s.heap) (.ref a) c b:=by
 intro dp tk P w A R s ⟨⟨kin,ob,ho,hc⟩,hq⟩;obtain⟨h0,g,d,tt,os⟩:=s;have lt:Yg (Qp P w) h0 (typeOf (.ref a)) (.ref C):=hc▸(Jw ho).andThen .now;unfold Qy at e;unfold Builtin.«isinstance.nested»;refine Qb (lt.at ?_);by_cases q:(Z7 C==c)=true
 ·rw[if_pos q] at e⊢
  cases e
  first | exact Qb (wpAny_rule (Qf (hq tt))) | exact Qb (wpAny_rule (hq tt)) | exact Qf (hq tt)
 ·rw[if_neg q] at e⊢
  obtain⟨h1,h2,h3⟩:=Va (M:=Qp P w) kin e;have li:Yg (Qp P w) h0 (isInstance (.ref a) c) b:=lt.andThen h3;refine Qb (h1.at ?_);rw[if_pos (by decide)]
  k_delta "plainIsInstance"
  refine Qb (Qb (h2.at ?_));simp only[Wc,Jy,if_false];refine Qb (li.at ?_);cases b with
  | true=>
   simp only[if_true]
   first | exact Qf (hq tt) | exact Qf (Qf (hq tt)) | exact Qb (Qf (Qf (hq tt)))
  | false=>
   simp only[Jy,if_false];refine Qb (bKl o kin ⟨ob,ho,hc⟩ ?_);have hT:Yg (Qp P w) h0 (isType (.ref C)) true:=by
    have hc:=o.hc;unfold PySem.W.clsIn at hc;split at hc
    ·rename_i hl
     intro A' Q' E' s' k q;unfold isType loadHead;exact Qb (wpAny_loadPart (k _ _ (kin _ _ hl)) (Qf q))
    ·cases hc
   refine Qb (hT.at ?_);simp only[Wc,Jy,if_false];refine Qb (wpAny_rule (h3.at ?_))
   first | exact Qf (hq _) | exact hq _ | exact Qf (Qf (hq _))
end
section
variable {X:Cx}{B:Hp}{e a b:Expr}{fa fb:Rho->M D}{pos p p2:Pos}
def aVy (kx:Addr->Bool)(m:Addr->Option Bool)(f:Rho->M D):Rho->M D:=fun ρ=>bnd (f ρ) fun d=>match d with
 | .exc C=>match kx C,m C with | true,some b=>ok (.bl b) | _,_=>none
 | _=>none
theorem bCu {cv:Qc}{c:V}{kx:Addr->Bool}{m:Addr->Option Bool}(rc:RelV c cv)(hu: ∀u,RelV c u->u=cv)(hx: ∀C,kx C=true->Own X.K C)(hm: ∀C b,m C=some b->Qy X.K (.ref C) cv=some b):
  aHk X (.builtin "isinstance") (fun xs H Q=> ∃C y b,xs=[y,c]/\Is X.K H (.exc C) y/\kx C=true/\m C=some b/\Q (.bl b) H):=by
 intro pins s σ H xs us Q I r h;obtain⟨C,y,b,rfl,i,hC,hb,q⟩:=h;obtain⟨u,w',rfl,r1,r2⟩:=vals2 r;rw[hu _ r2];cases i with
 | exc hh=>
  cases r1;obtain⟨hx',_,_⟩:=(show aCe X.prog X.w H s.heap _ (.ext _) from I.hok _ _ hh);exact call_isinstance (S:=fun _ R s=>(X.K.In s.heap/\excAt _ C s.heap)/\∀tk,R (.ok (.ret (.bool b))) {s with toks:=tk})
   (fun P w A R s hs=>isinstance_outer (bNz (hx C hC) (hm C b hb) 0 _ P w A R s hs) (fun z=>nomatch z)) ⟨⟨I.kIn,hx'⟩,fun tk=>⟨.bl b,H,I.tok _,rfl,q⟩⟩
theorem aMo {x:Str}{D:Addr}{kx:Addr->Bool}{m:Addr->Option Bool}(hg:Gl X "isinstance")(hb:X.mg "isinstance"=none)(hg2:Gl X x)(hm2:X.mg x=some (.ref D))(hx: ∀C,kx C=true->Own X.K C)(hm: ∀C b,m C=some b->Qy X.K (.ref C) (.ref D)=some b)(ha:PD X B e fa)(hd:(x==("__debug__":Str))=false:=by decide)
  (he:Qu [e,.Name x p2] X.env=[(false,eval e X.env),(false,eval (.Name x p2) X.env)]:=by exact aOb rfl rfl) (he2:Qu [.Name x p2] X.env=[(false,eval (.Name x p2) X.env)]:=by exact aHy rfl):PD X B (.Call (.Name "isinstance" p) [e,.Name x p2] [] pos) (aVy kx m fa):=by
 refine PE.of (aF2 (bCu (c:=V.ref D) rfl (fun u r=>r) hx hm) hg hb boot_isinstance (aBx ha (aBx (aUx hg2 hm2 (v:=V.ref D) rfl hd) aD4 he2) (by rw[he,he2])) (he:=by rw[he,he2]) (hpl:=by rw[he2];rfl)) fun σ H Q h=> ?_
 obtain⟨ρ,r1,h⟩:=h;refine⟨ρ,r1,(Res.bind h).imp fun d h1 v H1 e1 i1=> ?_⟩;split at h1
 ·rename_i C
  split at h1
  ·rename_i b hC hb;exact⟨C,v,b,rfl,i1,hC,hb,h1 _ H1 e1 (.bl _)⟩
  ·exact Qd h1
 ·exact Qd h1
end
end L2.PU
namespace L2.PU
open PySem PySem.Spec PyProof.Rows
abbrev Kept:=List (Nat×List Nat)
def flat (kp:Kept):List Nat:=kp.flatMap (·.2)
structure bK5 (ns L:List Nat):Prop where
 nd:L.Nodup
 sub: ∀y∈L,y∈ns
 cov: ∀x∈ns,∃y∈L,y&&&x=y
 anti: ∀y∈L,∀y'∈L,y&&&y'=y->y=y'
theorem bK5.perm {ns ns' L L':List Nat}(h:bK5 ns L)(hn: ∀x,x∈ns'↔x∈ns)(hl:L'.Perm L):bK5 ns' L' where
 nd:=hl.nodup_iff.mpr h.nd
 sub:=fun y hy=>(hn y).mpr (h.sub y (hl.mem_iff.mp hy))
 cov:=fun x hx=>by
  obtain⟨y,h1,h2⟩:=h.cov x ((hn x).mp hx);exact⟨y,hl.mem_iff.mpr h1,h2⟩
 anti:=fun y hy y' hy'=>h.anti y (hl.mem_iff.mp hy) y' (hl.mem_iff.mp hy')
abbrev bO5 (r:List Str):Prop:=r.Pairwise fun a b=>decide (a.cps.toList<b.cps.toList)=true
structure bC4 (P:List Str->Prop)(R:List (List Str)):Prop where
 frm: ∀r∈R,bO5 r/\∃xs,P xs/\∀z,z∈r↔z∈xs
 cov: ∀xs,P xs->∃r∈R,∀z∈r,z∈xs
 anti: ∀r∈R,∀r'∈R,(∀z∈r,z∈r')->r=r'
 asc:R.Pairwise fun a b=>bDe a b=true
theorem aPn {r:List Str}(h:bO5 r):r.Nodup:=h.imp fun h e=>by rw[e,bA8] at h;cases h
theorem bD4 {r r':List Str}(h:bO5 r)(h':bO5 r')(e: ∀z,z∈r↔z∈r'):r=r':=by
 have p:r.Perm r':=(Wn (aPn h) (aPn h')).mpr e;refine List.Perm.eq_of_pairwise (fun a b _ _ h1 h2=> ?_) h h' p;have:=bG9 h1 h2;rw[bA8] at this;cases this
theorem bC4.self {P:List Str->Prop}{R R':List (List Str)}(h:bC4 P R)(h':bC4 (· ∈R) R'):R'=R:=by
 have m: ∀r,r∈R'↔r∈R:=by
  have m1: ∀r∈R',r∈R:=fun r hr=>by
   obtain⟨p1,xs,p2,p3⟩:=h'.frm r hr;rw[bD4 p1 (h.frm xs p2).1 p3];exact p2
  refine fun r=>⟨m1 r,fun hr=> ?_⟩
  obtain⟨r',h1,h2⟩:=h'.cov r hr;rw[<-h.anti r' (m1 r' h1) r hr h2];exact h1
 have nd: ∀{l:List (List Str)},l.Pairwise (fun a b=>bDe a b=true)->l.Nodup:=fun h=>h.imp fun h e=>by rw[e,aW1] at h;cases h
 refine List.Perm.eq_of_pairwise (fun a b _ _ h1 h2=> ?_) h'.asc h.asc ((Wn (nd h'.asc) (nd h.asc)).mpr m);have:=bHa h1 h2;rw[aW1] at this;cases this
section
variable {α:Type}
def puB (st:List (Nat×α))(b:Nat)(v:α):List (Nat×α):=if (st.any fun e=>decide (e.1=b))=true then st.map (fun e=>if e.1=b then (e.1,v) else e) else st++ [(b,v)]
structure bK3 (key:α->Nat)(P:List α)(st:List (Nat×α)):Prop where
 ent: ∀e∈st,e.2∈P/\key e.2=e.1
 cov: ∀p∈P,key p∈st.map (·.1)
 len:st.length<=P.length
 nd:(st.map (·.1)).Nodup
theorem bK3.put {key:α->Nat}{P:List α}{st:List (Nat×α)}(h:bK3 key P st)(v:α):bK3 key (P++ [v]) (puB st (key v) v):=by
 unfold puB;split
 ·rename_i hc
  rw[Wh] at hc;obtain⟨e0,he0,hc⟩:=hc;have hkeys:(st.map (fun e=>if e.1=key v then (e.1,v) else e)).map (·.1)=st.map (·.1):=by
   rw[Yu];refine Jf fun e _=> ?_
   show (if e.1=key v then (e.1,v) else e).1=e.1;split<;>rfl
  refine⟨fun e he=> ?_,fun p hp=> ?_,by rw[Qi,Ql];exact Nat.le_succ_of_le h.len,by rw[hkeys];exact h.nd⟩
  ·obtain⟨e',he',rfl⟩:=List.mem_map.mp he
   split
   ·rename_i hk
    exact⟨Zd _ Qq,hk.symm⟩
   ·exact⟨Yy _ (h.ent e' he').1,(h.ent e' he').2⟩
  ·rw[hkeys]
   rcases List.mem_append.mp hp with hp | hp
   ·exact h.cov p hp
   ·rw[List.mem_singleton.mp hp]
    exact List.mem_map.mpr ⟨e0,he0,by simpa using hc⟩
 ·rename_i hc
  refine⟨fun e he=> ?_,fun p hp=> ?_,by rw[Ql,Ql];exact Nat.succ_le_succ h.len,?_⟩
  rotate_left 2
  ·rw[Z0]
   refine List.nodup_append.mpr ⟨h.nd,by simp,fun a ha b hb=> ?_⟩;obtain⟨e,he,rfl⟩:=List.mem_map.mp ha;rw[List.mem_singleton.mp hb];exact fun z=>hc (List.any_eq_true.mpr ⟨e,he,by simpa using z⟩)
  ·rcases List.mem_append.mp he with he | he
   ·exact⟨Yy _ (h.ent e he).1,(h.ent e he).2⟩
   ·rw[List.mem_singleton.mp he]
    exact⟨Zd _ Qq,rfl⟩
  ·rw[Z0]
   rcases List.mem_append.mp hp with hp | hp
   ·exact Yy _ (h.cov p hp)
   ·rw[List.mem_singleton.mp hp]
    exact Zd _ Qq
theorem bK3.few {key:α->Nat}{P:List α}{st:List (Nat×α)}(h:bK3 key P st)(hN: ∀b∈st.map (·.1),b<2^5):(st.map (·.1)).length<64:=by
 have:=aWx h.nd (m:=Zj (2^5)) fun b hb=>List.mem_range.mpr (hN b hb)
 rw[Zw] at this;omega
theorem bK3.get {key:α->Nat}{P:List α}{st:List (Nat×α)}(h:bK3 key P st){b:Nat}(hb:b∈st.map (·.1)): ∃p∈P,key p=b/\(st.find? fun e=>decide (e.1=b))=some (b,p):=by
 cases hf:st.find? fun e=>decide (e.1=b) with
 | none=>
  obtain⟨e,he,hb⟩:=List.mem_map.mp hb;rw[List.find?_eq_none] at hf;exact absurd (by simpa using hb) (hf e he)
 | some e=>
  have h1:=List.mem_of_find?_eq_some hf;have h2:e.1=b:=by simpa using List.find?_some hf
  obtain⟨p1,p2⟩:=h.ent e h1;exact⟨e.2,p1,p2.trans h2,by rw[<-h2]⟩
end
section
variable {X:Cx}{B:Hp}{pins:List (Addr×Obj)}{σ:St}{H:Hp}{s:Qe}{d:Addr}{kvs:List (List Key×V)}
theorem aLn.sub {E:Ends}{B':Hp}(e:Same B B'){o:Option Out}(h:aLn X B E o):aLn X B' E o:=by
 cases o with
 | none=>exact h
 | some o=>exact Good.sub e h
end
def FrD (H _H':Hp)(v:V):Prop:= ∃a,v= .ref a/\H a=none
def FrT (H H':Hp)(v:V):Prop:= ∃a hv b,v= .ref a/\H' a=some (.tup [hv,.ref b])/\H b=none
theorem FrD.back {H H1 H':Hp}{v:V}(e:Same H H1)(h:FrD H1 H' v):FrD H H' v:=by
 obtain⟨a,h1,h2⟩:=h;exact⟨a,h1,none_of e h2⟩
theorem FrT.back {H H1 H':Hp}{v:V}(e:Same H H1)(h:FrT H1 H' v):FrT H H' v:=by
 obtain⟨a,hv,b,h1,h2,h3⟩:=h;exact⟨a,hv,b,h1,h2,none_of e h3⟩
def bR1 (K:Qa)(Φ:Hp->Hp->V->Prop)(H:Hp)(Q:VK)(E:XK):M D->Prop
 | none=>False
 | some (.error c)=> ∀H',Same H H'->E (.ref c) none H'
 | some (.ok d)=> ∀v H',Same H H'->Is K H' d v->Φ H H' v->Q v H'
def spF (K:Qa)(Φ:Hp->Hp->V->Prop)(n:Nat)(F:List D->M D):Sp:=fun vs H Q E=> ∃ds,IsL K H ds vs/\vs.length=n/\bR1 K Φ H Q E (F ds)
abbrev FnF (P:Qv)(w:Q8)(K:Qa)(mg:Str->Option Qc)(base:Heap)(k:Nat)(Φ:Hp->Hp->V->Prop)(f:Addr)(fd:Z9)(ps:List Str)(F:List D->M D):Prop:=aZf P w K mg base (CXD P w) k f fd ps (spF K Φ ps.length F)
def bRo (P:Qv)(w:Q8)(K:Qa)(mg:Str->Option Qc)(base:Heap)(k:Nat)(Φ:Hp->Hp->V->Prop)(x:Str)(F:List D->M D):Prop:=
 ∃f fd ps,mg x=some (.ref f)/\Uc K (.ref f)=true/\Binds K fd ps []/\(∀ds r,F ds=some r->ds.length=ps.length)/\FnF P w K mg base k Φ f fd ps F
theorem bRo.d {P:Qv}{w:Q8}{K:Qa}{mg:Str->Option Qc}{base:Heap}{k:Nat}{Φ:Hp->Hp->V->Prop}{x:Str}{F:List D->M D}(h:bRo P w K mg base k Φ x F):Def P w K mg base k x F:=by
 obtain⟨f,fd,ps,h1,h2,h3,hl,h4⟩:=h;refine⟨f,fd,ps,h1,h2,h3,hl,h4.imp fun vs H Q E ⟨ds,i,hn,h⟩=>⟨ds,i,hn,?_⟩⟩;cases q:F ds with
 | none=>rw[q] at h;exact h
 | some z=>
  rw[q] at h;cases z with
  | error c=>exact h
  | ok d=>exact fun v H' s i _=>h v H' s i
section
variable {X:Cx}{B:Hp}{Φ:Hp->Hp->V->Prop}{k:Nat}{f:Addr}{fd:Z9}{ps:List Str}{F:List D->M D}{pins:List (Addr×Obj)}{σ:St}{H:Hp}{s:Qe}{Q:VK}{us:List Qc}{vs:List V}{ds:List D}
variable {x:Str}{p pos:Pos}{e e2:Expr}{es:List Expr}{ga:Rho->M (List D)}{fa fb:Rho->M D}{st:Stmt}{sts rest:List Stmt}{Fs Gs:Rho->Option Out}
def bK6 (X:Cx)(B:Hp)(Φ:Hp->Hp->V->Prop)(E:Ends):Option Out->Prop
 | some (.rt d)=> ∀v H,Same B H->Is X.K H d v->Φ B H v->E.rt v H
 | some (.ex c ρ)=>Good X B E (.ex c ρ)
 | _=>False
end
section
variable {X:Cx}{B:Hp}{i:Nat}{x:Str}{e c:Expr}{fa:Rho->M D}{tc:Rho->M Bool}{a rest:List Stmt}{Fa G:Rho->Option Out}{pos pos' pos2 bS5 p1 p2 p3 apos cpos:Pos}{st:Stmt}{F:Rho->Option Out}
theorem bK6.sub {Φ:Hp->Hp->V->Prop}{E:Ends}{B':Hp}(hΦ: ∀H H1 H' v,Same H H1->Φ H1 H' v->Φ H H' v)(e:Same B B'){o:Option Out}(h:bK6 X B Φ E o):bK6 X B' Φ E o:=by
 cases o with
 | none=>exact h
 | some o=>
  cases o with
  | rt d=>exact fun v H s i f=>h v H (e.trans s) i (hΦ _ _ _ _ e f)
  | ex c ρ=>exact Good.sub (E:=E) e (o:= .ex c ρ) h
  | nx ρ=>exact h
  | bk ρ=>exact h
  | ct ρ=>exact h
end
section
variable {α:Type}
def aUf:List (List Key×List α)->List Key->α->List (List Key×List α)
 | [],k,a=> [(k,[a])]
 |(k',ms)::g,k,a=>if k'=k then (k',ms++ [a])::g else (k',ms)::aUf g k a
theorem aT7 {g:List (List Key×List α)}{k:List Key}{a:α}:(∀x,x∈(aUf g k a).map (·.1)↔x∈g.map (·.1)\/x=k)/\((g.map (·.1)).Nodup->((aUf g k a).map (·.1)).Nodup):=by
 induction g with
 | nil=>unfold aUf;simp
 | cons x g ih=>
  obtain⟨k',ms⟩:=x;unfold aUf;by_cases q:k'=k
  ·rw[if_pos q]
   refine⟨fun x=> ?_,fun h=>h⟩;simp only[Q4,Yb]
   constructor
   ·intro h;exact .inl h
   ·rintro (h | h)
    ·exact h
    ·exact .inl (h.trans q.symm)
  ·rw[if_neg q]
   refine⟨fun x=> ?_,fun h=> ?_⟩
   ·simp only[Q4,Yb,ih.1 x]
    constructor
    ·rintro (h | h | h)
     ·exact .inl (.inl h)
     ·exact .inl (.inr h)
     ·exact .inr h
    ·rintro ((h | h) | h)
     ·exact .inl h
     ·exact .inr (.inl h)
     ·exact .inr (.inr h)
   ·rw[Q4,J9] at h⊢
    refine⟨fun z=> ?_,ih.2 h.2⟩;rcases (ih.1 _).mp z with z | z
    ·exact h.1 z
    ·exact q z
def sums (n:α)(op:α->α->α)(all:List α->α)(g:List (List Key×List α)):List (List Key×α):=g.map fun p=>(p.1,all p.2)
theorem bK2 {g:List (List Key×List α)}{k:List Key}{a:α}(h: ∀p∈g,p.2≠[]): ∀p∈aUf g k a,p.2≠[]:=by
 induction g with
 | nil=>intro p hp;rw[aUf,Ys] at hp;subst hp;exact List.cons_ne_nil _ _
 | cons x g ih=>
  obtain⟨k',ms⟩:=x;intro p hp;unfold aUf at hp;split at hp
  ·rcases List.mem_cons.mp hp with rfl | hp
   ·exact List.append_ne_nil_of_right_ne_nil _ (List.cons_ne_nil _ _)
   ·exact h p (Qm _ hp)
  ·rcases List.mem_cons.mp hp with rfl | hp
   ·exact h _ Qq
   ·exact ih (fun q hq=>h q (Qm _ hq)) p hp
theorem bGe {R:α->Prop}{g:List (List Key×List α)}{k:List Key}{a:α}(h: ∀p∈g,∀m∈p.2,R m)(ha:R a): ∀p∈aUf g k a,∀m∈p.2,R m:=by
 induction g with
 | nil=>
  intro p hp m hm;rw[aUf,Ys] at hp;subst hp;rw[List.mem_singleton.mp hm];exact ha
 | cons x g ih=>
  obtain⟨k',ms⟩:=x;intro p hp;unfold aUf at hp;split at hp
  ·rcases List.mem_cons.mp hp with rfl | hp
   ·intro m hm
    rcases List.mem_append.mp hm with hm | hm
    ·exact h _ Qq m hm
    ·rw[List.mem_singleton.mp hm];exact ha
   ·exact h p (Qm _ hp)
  ·rcases List.mem_cons.mp hp with rfl | hp
   ·exact h _ Qq
   ·exact ih (fun q hq=>h q (Qm _ hq)) p hp
def cnt (g:List (List Key×List α)):Nat:=(g.map fun p=>p.2.length).sum
theorem aXr {g:List (List Key×List α)}{k:List Key}{a:α}:cnt (aUf g k a)=cnt g+1/\(aUf g k a).length<=g.length+1:=by
 unfold cnt
 induction g with
 | nil=>simp[aUf]
 | cons x g ih=>
  obtain⟨k',ms⟩:=x;unfold aUf;split
  ·simp;omega
  ·simp only[Q4,List.sum_cons,Zc];omega
structure bC5 (R:α->Prop)(ps:List (List Key×α))(g:List (List Key×List α)):Prop where
 nd:(g.map (·.1)).Nodup
 ne: ∀p∈g,p.2≠[]
 mr: ∀p∈g,∀m∈p.2,R m
 ct:cnt g=ps.length
 ln:g.length<=ps.length
 ks: ∀k,k∈g.map (·.1)↔k∈ps.map (·.1)
theorem bC5.nil {R:α->Prop}:bC5 R [] []:=⟨List.nodup_nil,(fun _ h=>nomatch h),(fun _ h=>nomatch h),rfl,Qr _,fun _=>Iff.rfl⟩
theorem bC5.snoc {R:α->Prop}{ps:List (List Key×α)}{g:List (List Key×List α)}{p:List Key×α}(h:bC5 R ps g)(hp:R p.2):bC5 R (ps++ [p]) (aUf g p.1 p.2):=by
 refine⟨aT7.2 h.nd,bK2 h.ne,bGe h.mr hp,by rw[aXr.1,h.ct,Ql];rfl,by have:=(aXr (g:=g) (k:=p.1) (a:=p.2)).2;have:=h.ln;rw[Ql,Zs];omega,fun k=> ?_⟩;rw[aT7.1,h.ks,Z0,List.mem_append,Q4,Wz,Ys]
end
def weak (d:D):D:=if d.imm=true then d else .opq
def Blt (mg:Str->Option Qc)(base:Heap):Prop:= ∃bm ob,mg "__builtins__"=some (.ref bm)/\bm≠builtinsNs/\base.get? bm=some ob/\ob.cls= .type "module"/\ob.dict=some builtinsNs/\ob.data= .plain
def spT (K:Qa)(T:Addr)(pq:Bool×Pos×Str)(n:Nat)(F:List D->M D):Sp:=fun vs H Q E=>H T=some (.tbl pq)/\spD K n F vs H Q E
abbrev FnT (P:Qv)(w:Q8)(K:Qa)(mg:Str->Option Qc)(base:Heap)(T:Addr)(pq:Bool×Pos×Str)(k:Nat)(f:Addr)(fd:Z9)(ps:List Str)(F:List D->M D):Prop:=aZf P w K mg base (CXD P w) k f fd ps (spT K T pq ps.length F)
def aKs (P:Qv)(w:Q8)(K:Qa)(mg:Str->Option Qc)(base:Heap)(T:Addr)(pq:Bool×Pos×Str)(k:Nat)(x:Str)(F:List D->M D):Prop:=
 ∃f fd ps,mg x=some (.ref f)/\Uc K (.ref f)=true/\Binds K fd ps []/\(∀ds r,F ds=some r->ds.length=ps.length)/\FnT P w K mg base T pq k f fd ps F
section
variable {X:Cx}{B:Hp}{T:Addr}{pq:Bool×Pos×Str}{k:Nat}{f:Addr}{fd:Z9}{ps:List Str}{F:List D->M D}{pins:List (Addr×Obj)}{σ:St}{H:Hp}{s:Qe}{Q:VK}{us:List Qc}{vs:List V}{ds:List D}
theorem bPn (G:FnT X.prog X.w X.K X.mg X.base T pq k f fd ps F)(hT:H T=some (.tbl pq))(hr:aFz k X.A)(hb:Binds X.K fd ps [])(I:Inv X pins σ H s)(r:Vals vs us)(i:IsL X.K H ds vs)
  (h:Res X σ H (fun d=> ∀v H',Same H H'->Is X.K H' d v->Q v H') (F ds)) (hL: ∀ds r,F ds=some r->ds.length=ps.length):Qs (Qp X.prog X.w) X.A (call (.ref f) us) (EP X pins σ Q) X.xe s:=by
 have hn:ds.length=ps.length:=by
  cases q:F ds with
  | none=>rw[q] at h;exact Qd h
  | some z=>exact hL ds z q
 have hl:(us++ []).length=ps.length:=by rw[Z3,<-r.length,<-i.length];exact hn
 have hbb:=hb s us I.kIn hl;rw[Z3] at hbb;have hsp:spD X.K ps.length F vs H Q (fun cv _ H'=> ∃c,cv= .ref c/\Same H H'/\Thr X σ H c):=by
  refine⟨ds,i,by rw[<-i.length];exact hn,?_⟩;cases q:F ds with
  | none=>rw[q] at h;exact Qd h
  | some z=>
   rw[q] at h;cases z with
   | error c=>exact fun H' e=>⟨c,rfl,e,h⟩
   | ok d=>exact h
 refine wpAny_call (Jc (G.run X.A X.stack s H ⟨us,[]⟩ us vs Q _ hr I.env0 hbb r ⟨hT,hsp⟩) fun r s' hq=> ?_);cases r with
 | error e=>
  obtain⟨c,ea,H',ee,os,bare,un,fl,c',ec,sm',th⟩:=hq;cases ec;exact th pins s' H' e sm' ⟨ea,ee,.inr ⟨s,H,I,os,bare,un,fl⟩⟩
 | ok fl=>
  cases fl with
  | ret u=>exact I.after hq
  | next=>exact Qd hq
  | brk=>exact Qd hq
  | cont=>exact Qd hq
variable {x:Str}{p pos:Pos}{e:Expr}{es:List Expr}{ga:Rho->M (List D)}
theorem aEu (G:aKs X.prog X.w X.K X.mg X.base T pq k x F)(hT:X.H₀ T=some (.tbl pq))(hr:aFz k X.A)(hg:Gl X x)(ha:PDA X B (e::es) ga)(hdb:(x==("__debug__":Str))=false:=by decide)(he:Qu (e::es) X.env=(false,eval e X.env)::Qu es X.env:=by exact aBf rfl)
  (hpl:(backTo pos (Qu es X.env)).any (·.1)=false:=by rfl):PD X B (.Call (.Name x p) (e::es) [] pos) (app F ga):=by
 intro pins s σ H Q I h;obtain⟨f,fd,ps,h1,h2,h3,hl,h4⟩:=G;refine Yh (aK3 I hg h1 ?_ hdb);refine U5 (h₀:=X.base) I.ok.mod.kin h2 (thn (ha pos pins s σ H _ I (bC0 (R:=fun vs H1=> ∃ds,IsL X.K H1 ds vs/\Res X σ H1 (fun d=> ∀v H',Same H1 H'->Is X.K H' d v->Q v H') (F ds)) (fun ds vs H1 e1 i1 h1=>⟨ds,i1,h1⟩) h)) fun us s1 ⟨vs,H1,I1,r,ds,i1,q⟩=>⟨I1.kIn,?_⟩) he hpl;exact bPn h4 (I1.base.aLs _ _ hT) hr h3 I1 r i1 q hl
end
section
variable {P:Qv}{w:Q8}{K:Qa}{mg:Str->Option Qc}{base:Heap}{T:Addr}{pq:Bool×Pos×Str}
theorem bN9 {x qual:Str}{st:Stmt}{f:Addr}{fd:Z9}{N ps:List Str}{k:Nat}{F:List D->M D}(Fu:Fun K x qual st f fd)(S:aBg N ps (aAp st))(hL: ∀ds r,F ds=some r->ds.length=ps.length)
  (hbody: ∀(cdv:Qc) (A:Zb) (outer:List Env) (s:Qe) (H:Hp) (E:XK),fd.code=cdv->H T=some (.tbl pq)->aFz k (A.deeper (envOfC qual (aAp st) s.heap.objs.size f cdv))->
   ∃F',(∀B,PDB (cxN P w K mg base N qual (aAp st) f cdv A outer s H E) B (aCu st) F')/\∀ds r,F ds=some r->∃d,r= .ok d/\aA0 (F' (aBu N ds))=ok d):FnT P w K mg base T pq (k+1) f fd ps F:=by
 obtain⟨oc,od,kV,doc,pm,an,cdv,ct,osl,rfl,lk,hcd⟩:=Fu.ex;refine bFo lk hcd S (fun vs H Q E ⟨_,ds,i,hl,_⟩=>hl) fun A outer s H vs Q E hr hsp=> ?_
 obtain⟨hT,hsp⟩:=hsp;obtain⟨F',hF,hq⟩:=hbody cdv A outer s H E rfl hT hr;refine⟨_,(hF H).nox,?_⟩;obtain⟨ds,i,hl,h⟩:=hsp;have hn:ps.length<=N.length:=by have:=congrArg J1 S.pre;rw[Za] at this;omega
 cases q:F ds with
 | none=>rw[q] at h;exact Qd h
 | some r=>
  rw[q] at h;obtain⟨d,rfl,e⟩:=hq ds r q;refine⟨aBu N ds,aH9 i (by rw[i.length,hl];exact hn),?_⟩;cases qf:F' (aBu N ds) with
  | none=>rw[qf] at e;cases e
  | some o=>
   rw[qf] at e;cases o with
   | rt d'=>have:=aCr e;subst this;exact fun v H' s' i'=>h v H' s' i'
   | nx ρ=>have:=aCr e;subst this;exact fun σ' H' r'=>h _ H' r'.kept .non
   | bk ρ=>cases e
   | ct ρ=>cases e
   | ex c ρ=>cases e
end
def bQ3 (T:Addr)(H:Hp):Prop:= ∀b,b≠T->H b=none\/∃o xs,H b=some (.frz o (.lst xs))
theorem bBc {P:Qv}{w:Q8}{K:Qa}{mg mb:Str->Option Qc}{CX:CXT}{k:Nat}{fa a:Addr}{fd:Z9}{x:Str}{sp:Sp}{s₁:Qe}{vs:List Qc}{ns:List Int}{T:Addr}{pq:Bool×Pos×Str}
  (KX:K.In s₁.heap) (hns:s₁.heap.Ns Y1 mg) (hb:s₁.heap.Ns builtinsNs mb) (hbb: ∀x:Str,x≠"__name__"->mb x=Jd x) (hlim:s₁.heap.NoLimit) (hg:s₁.gens= #[]) (hbm:Blt mg s₁.heap)
  (hTt:s₁.heap.get? T=some (Us #[])) (hKT:K.lookup T=none) (hct:isCodeTable s₁.heap T)
  (ha:s₁.heap.get? a=some {cls:= .type "list",data:= .seq vs.toArray}) (hi:IntsAre vs ns) (hl:ns.length<=Q0) (hr:aFz k callerA)
  (F: ∀base:Heap,K.In base->base.Ns Y1 mg->Blt mg base->aZf P w K mg base CX k fa fd [x] sp) (hbind: ∀(s:Qe) (u:Qc),BindsTo s fd ⟨[u],[]⟩ [(x,u)])
  (hsp: ∀H:Hp,H T=some (.tbl pq)->SqL K H a (ns.map V.int)->sp [.ref a] H (fun v _=>v= .bl true) fun _ _ _=>False)
  (hCX: ∀H e s',CX [] H s₁ (fun _ _ _=>False) e s'->False):
  codeAny (Qp P w) callerA (.call (.ref fa) ⟨[.ref a],[]⟩) (fun r s'=>r= .ok (.ret (.bool true))/\OldK s₁.heap s'.heap/\s'.os=s₁.os/\AllBare s'.gens) s₁:=by
 have rv:=aSd hi;have lenV:=hi.length;have hTa:T≠a:=fun z=>by rw[z,ha] at hTt;cases hTt
 have core: ∀H:Hp,bQ3 T H->H T=some (.tbl pq)->SqL K H a (ns.map V.int)->HOk P w H s₁.heap->(∀b,H b≠none->b=a\/b=T)->(H a≠none->K.lookup a=none)->
   codeAny (Qp P w) callerA (.call (.ref fa) ⟨[.ref a],[]⟩) (fun r s'=>r= .ok (.ret (.bool true))/\OldK s₁.heap s'.heap/\s'.os=s₁.os/\AllBare s'.gens) s₁:=by
  intro H hO hHT hS hok hA hK;have aV4: ∀{b:Addr} {o:Obj},s₁.heap.get? b=some o->H b=none->(bDg s₁.heap H).get? b=some o:=fun e n=>bFf e n
  have off: ∀{b:Addr} {o:Obj},s₁.heap.get? b=some o->o≠{cls:= .type "list",data:= .seq vs.toArray}->o≠Us #[]->H b=none:=fun {b o} e n1 n2=>by
   cases q:H b with
   | none=>rfl
   | some u=>
    rcases hA b (by rw[q];simp) with e' | e'
    ·subst e';rw[ha] at e;cases e;exact absurd rfl n1
    ·subst e';rw[hTt] at e;cases e;exact absurd rfl n2
  have noA: ∀{b:Addr} {o:Obj} {es:Array DictEntry} {ep:Nat},s₁.heap.get? b=some o->o.data= .dict es ep->H b=none:=fun {b o es ep} e d=>off e (fun z=>by rw[z] at d;cases d) (fun z=>by rw[z] at d;cases d)
  have nsK: ∀{b:Addr} {m:Str->Option Qc},s₁.heap.Ns b m->(bDg s₁.heap H).Ns b m:=fun {b m} ⟨o,es,ep,e,d,r⟩=>⟨o,es,ep,aV4 e (noA e d),d,r⟩
  have hKb:K.In (bDg s₁.heap H):=fun b o e=>aV4 (KX b o e) (by
   cases q:H b with
   | none=>rfl
   | some u=>
    rcases hA b (by rw[q];simp) with e' | e'
    ·subst e';rw[hK (by rw[q];simp)] at e;cases e
    ·subst e';rw[hKT] at e;cases e)
  have bSv:Blt mg (bDg s₁.heap H):=by
   obtain⟨bm,ob,b1,b2,b3,b4,b5,b6⟩:=hbm;exact⟨bm,ob,b1,b2,aV4 b3 (off b3 (fun z=>by rw[z] at b6;cases b6) (fun z=>by rw[z] at b6;cases b6)),b4,b5,b6⟩
  have hM:Mod K mg (bDg s₁.heap H):=⟨hKb,nsK hns,⟨mb,nsK hb,hbb⟩,let ⟨mc,h1,h2⟩:=hlim;⟨mc,nsK h1,h2⟩⟩;have e0:bDi P w K mg (bDg s₁.heap H) callerA [] s₁ H:=⟨rfl,hM,fun b o e=>bJi e,Nat.le_of_eq (bBv _ _),trivial,fun b hb=>absurd (show b∈([]:List Addr) from hb) (by simp),hok,.of_eq hg⟩;refine Jc ((F _ hKb (nsK hns) bSv).run callerA [] s₁ H ⟨[.ref a],[]⟩ [.ref a] [.ref a] _ _ hr e0 (hbind s₁ (.ref a)) (.cons rfl .nil) (hsp H hHT hS)) fun r s' h=> ?_
  cases r with
  | error e=>exact (hCX H e s' h).elim
  | ok fl=>
   cases fl with
   | next=>exact Qd h
   | brk=>exact Qd h
   | cont=>exact Qd h
   | ret u=>
    obtain⟨v,H',os,bare,un,hok',r',q⟩:=h;have q':v= .bl true:=q;subst q';obtain rfl:u=Value.bool true:=r';refine⟨rfl,⟨fun b o e=> ?_,fun b o e=>un.there b o e (by simp)⟩,os,bare⟩;by_cases hbT:b=T
    ·subst hbT
     rw[hTt] at e;cases e;obtain⟨tb,z1,_⟩:=(show aCe P w H' s'.heap b (.tbl pq) from hok' b _ (un.aLs b pq hHT));exact .inr (.inl ⟨hct,rfl,#[],tb,rfl,by rw[z1];simp⟩)
    ·refine .inl ?_
     cases q:H b with
     | none=>exact un.keep b o e q (by intro z;exact absurd (show b∈([]:List Addr) from z) (by simp)) (by simp)
     | some u=>
      rcases hO b hbT with z |⟨ob,xs,z⟩
      ·rw[q] at z;cases z
      ·have z2:=un.aOy b ob _ z
       obtain⟨e1,_⟩:=hok b _ z;obtain⟨e2,_⟩:=hok' b _ z2;rw[e] at e1;cases e1;exact e2
 have tOk: ∀H:Hp,aCe P w H s₁.heap T (.tbl pq):=fun H=>⟨#[],hTt,trivial,.inl rfl⟩
 cases hk:K.lookup a with
 | some o=>
  have e:=KX a o hk;rw[ha] at e;cases e;refine core (fun b=>if b=T then some (.tbl pq) else none) (fun b hb=> .inl (if_neg hb)) (if_pos rfl) (.inr ⟨_,vs.toArray,_,hk,rfl,rfl,rfl,by rw[Qk,lenV];exact hl,by simpa using rv⟩) (fun b u z=> ?_) (fun b z=> ?_) fun z=>absurd (if_neg (Ne.symm hTa)) z
  ·by_cases hb:b=T
   ·have z':=(if_pos hb).symm.trans z
    cases z';subst hb;exact tOk _
   ·have z':=(if_neg hb).symm.trans z
    cases z'
  ·by_cases hb:b=T
   ·exact .inr hb
   ·exact absurd (if_neg hb) z
 | none=>
  refine core (fun b=>if b=T then some (.tbl pq) else if b=a then some (.frz {cls:= .type "list",data:= .seq vs.toArray} (.lst (ns.map V.int))) else none) (fun b hbT=> ?_) (if_pos rfl) (.inl (.inr ⟨{cls:= .type "list",data:= .seq vs.toArray},(if_neg (Ne.symm hTa)).trans (if_pos rfl)⟩)) (fun b u z=> ?_) (fun b z=> ?_) fun _=>hk
  ·by_cases hb:b=a
   ·exact .inr ⟨_,_,(if_neg hbT).trans (if_pos hb)⟩
   ·exact .inl ((if_neg hbT).trans (if_neg hb))
  ·by_cases hbT:b=T
   ·have z':=(if_pos hbT).symm.trans z
    cases z';subst hbT;exact tOk _
   ·by_cases hb:b=a
    ·have z':=((if_neg hbT).trans (if_pos hb)).symm.trans z
     cases z';subst hb;exact⟨ha,by rw[Qi];exact hl,vs,_,rv,ha⟩
    ·have z':=((if_neg hbT).trans (if_neg hb)).symm.trans z
     cases z'
  ·by_cases hbT:b=T
   ·exact .inr hbT
   ·by_cases hb:b=a
    ·exact .inl hb
    ·exact absurd ((if_neg hbT).trans (if_neg hb)) z
theorem bDm {l:Vb}{n k:Nat}{q:Qv}{loose:List Str}{XP:(Str->Option Qc)->Heap->Prop}{YP:Q8->Heap->Prop}{d:DefRec}{K:Params->Qa}{CX:Q8->CXT}{sp:Q8->Sp}{x:Str}{T c0:Addr}{pq:Bool×Pos×Str}
  (hn:l.most=some n) (hn2:n<=Q0) (hdf:d.params.defaults=[]) (hr:aFz k callerA)
  (hY: ∀(w:Q8) (h:Heap),YP w h->(K w.params).In h) (hYT: ∀(w:Q8) (h:Heap),YP w h->h.get? T=some (Us #[])) (hKT: ∀w:Q8,(K w.params).lookup T=none) (hct: ∀(w:Q8) (h:Heap),(K w.params).In h->isCodeTable h T)
  (F: ∀(w:Q8) (mg:Str->Option Qc) (fa:Addr) (h:Heap),(K w.params).In h->h.Ns Y1 mg->mg d.name=some (.ref fa)->
   ∃fd:Z9,(∀(s:Qe) (u:Qc),BindsTo s fd ⟨[u],[]⟩ [(x,u)])/\
    ∀base:Heap,(K w.params).In base->base.Ns Y1 mg->Blt mg base->aZf l.prog w (K w.params) mg base (CX w) k fa fd [x] (sp w))
  (hsp: ∀(w:Q8) (H:Hp) (a:Addr) (ns:List Int),ns.length<=n->H T=some (.tbl pq)->SqL (K w.params) H a (ns.map V.int)->sp w [.ref a] H (fun v _=>v= .bl true) fun _ _ _=>False)
  (hCX: ∀(w:Q8) (H:Hp) (s:Qe) (e:Qc) (s':Qe),CX w [] H s (fun _ _ _=>False) e s'->False):
  PySem.W.WalkO q loose XP YP l.row.toRowW d [] (fun f vs=>Wl f vs):=by
 refine Att.aV5 hn hdf fun w s₀ s₁ mg mb fa o pm cd doc a vs ns G Y ho hd hcd hmg hobj hints hlen hg=> ?_
 have KX:=hY w _ Y;obtain⟨fd,hb,hF⟩:=F w mg fa _ KX G.T.g hmg;exact bBc KX G.T.g G.T.b G.T.builtins G.T.nolimit hg G.T.bmain (hYT w _ Y) (hKT w) (hct w _ KX) hobj hints (Z2 hlen hn2) hr hF hb (fun H hO hS=>hsp w H a ns hlen hO hS) fun H e s'=>hCX w H s₁ e s'
end L2.PU
namespace L2.PU
open PySem
theorem bHk {y:Str}: ∀{l:List (Str×NameKind)},(l.all fun p=>p.2 != .free || p.1==y)=true->∀z,l.lookup z=some .free->z=y
 | [],_,z,e=>by cases e
 | p::l,h,z,e=>by
  rw[Zo,Qw] at h;rw[Wj] at e;split at e
  ·rename_i q
   have e1:=eq_of_beq q;have e2:=Option.some.inj e;have h1:=h.1;rw[e2,Z1] at h1;rcases h1 with h1 | h1
   ·exact absurd h1 (by decide)
   ·rw[e1];exact eq_of_beq h1
  ·exact bHk h.2 z e
end L2.PU
namespace L2.PU
open PySem PySem.Spec PyProof.Rows
mutual
def D.nc:D->Bool
 | .tup ds=>ncL ds
 | .lst ds=>ncL ds
 | .dk kvs=>kvs.all fun p=>p.2.imm
 | .obj _ _=>false
 | .dt _=>false
 | .dz _=>false
 | .exc _=>false
 | .set _=>false
 | .clo _ _=>false
 | _=>true
def ncL:List D->Bool
 | []=>true
 | d::ds=>d.nc&&ncL ds
end
mutual
theorem bA4: ∀{d:D},d.imm=true->d.nc=true
 | .non,_=>rfl
 | .bl _,_=>rfl
 | .int _,_=>rfl
 | .str _,_=>rfl
 | .opq,_=>rfl
 | .fn _,_=>rfl
 | .tup ds,h=>by unfold D.nc;exact aVa (by unfold D.imm at h;exact h)
 | .lst _,h=>by simp[D.imm] at h
 | .obj _ _,h=>by simp[D.imm] at h
 | .dk _,h=>by simp[D.imm] at h
 | .dt _,h=>by simp[D.imm] at h
 | .exc _,h=>by simp[D.imm] at h
 | .set _,h=>by simp[D.imm] at h
 | .dz _,h=>by simp[D.imm] at h
 | .clo _ _,h=>by simp[D.imm] at h
theorem aVa: ∀{ds:List D},aCo ds=true->ncL ds=true
 | [],_=>rfl
 | d::ds,h=>by
  unfold aCo at h;rw[Qw] at h;unfold ncL;rw[bA4 h.1,aVa h.2];rfl
end
section
variable {P:Qv}{w:Q8}{K:Qa}{H:Hp}{ca:Addr}{ob:Obj}{h:Heap}
theorem aGj {b:Addr}{u:HO}(hc:H ca=some (.frz ob (.own ca)))(q:H b=some u)(n: ∀o,u≠ .frz o (.own ca)):hid H ca b=some u:=by
 unfold hid;rw[if_neg (fun z=>by rw[z,hc] at q;cases q;exact n _ rfl)];exact q
theorem bHh {b:Addr}{u:HO}(hc:H ca=some (.frz ob (.own ca)))(q:Rd H b u)(n: ∀o,u≠ .frz o (.own ca))(n2:u≠ .own ca):Rd (hid H ca) b u:=
 q.imp (fun q=>aGj hc q n) fun⟨o,q⟩=>⟨o,aGj hc q fun o' z=>by cases z;exact n2 rfl⟩
theorem Is.hid (hc:H ca=some (.frz ob (.own ca))){d:D}{v:V}(q:d.nc=true)(i:Is K H d v):Is K (hid H ca) d v:=
 Is.rec (motive_1:=fun d v _=>d.nc=true->Is K (PU.hid H ca) d v) (motive_2:=fun kvs vs _=>(kvs.all fun p=>p.2.imm)=true->IsK K (PU.hid H ca) kvs vs) (motive_3:=fun _ _ _=>True) (motive_4:=fun ds vs _=>ncL ds=true->IsL K (PU.hid H ca) ds vs) (motive_5:=fun _ _ _=>True)
  (fun _=> .non) (fun b _=> .bl b) (fun i _=> .int i) (fun x _=> .str x) (fun h _ r q=> .tup (aGj hc h fun _ z=>by cases z) (r (by unfold D.nc at q;exact q)))
  (fun h _ r q=> .lst (h.imp (fun h=>bHh hc h (fun _ z=>by cases z) fun z=>by cases z) id) (r (by unfold D.nc at q;exact q)))
  (fun _ _ _ q=>Q5 (show false=true from q)) (fun h _ r q=> .dk (bHh hc h (fun _ z=>by cases z) fun z=>by cases z) (r (by unfold D.nc at q;exact q))) (fun _ _ _ q=>Q5 (show false=true from q)) (fun _ q=>Q5 (show false=true from q)) (fun _ q=>Q5 (show false=true from q)) (fun _ _ _ q=>Q5 (show false=true from q)) (fun v _=> .opq v) (fun v _=> .fn v) (fun _ _ _ q=>Q5 (show false=true from q))
  (fun _=> .nil) (fun _ _ i r q=>by
   rw[Zo,Qw] at q;exact .cons (i (bA4 q.1)) (r q.2)) trivial (fun _ _ _ _=>trivial) (fun _=> .nil) (fun _ _ i r q=>by
   unfold ncL at q;rw[Qw] at q;exact .cons (i q.1) (r q.2)) trivial (fun _ _ _ _=>trivial) i q
theorem IsL.hid (hc:H ca=some (.frz ob (.own ca))): ∀{ds:List D} {vs:List V},ncL ds=true->IsL K H ds vs->IsL K (hid H ca) ds vs:=by
 intro ds
 induction ds with
 | nil=>intro vs _ h;cases h;exact .nil
 | cons d ds ih=>
  intro vs q h;unfold ncL at q;rw[Qw] at q;cases h with | cons i r=>exact .cons (i.hid hc q.1) (ih q.2 r)
theorem aVm (x:HOk P w H h)(n:H ca=none)(e:h.get? ca=some ob):HOk P w (upd H ca (.frz ob (.own ca))) h:=fun b u q=>by
 by_cases hb:b=ca
 ·subst hb;rw[aAy] at q;cases q;exact⟨e,ob,e⟩
 ·rw[aAv hb] at q
  exact (x b u q).stay (fun _ _ _ z=>z) (fun c z=>by rw[aAv (aA7 z n)];exact z) (fun c xs z=>by rw[aAv (aA7 z n)];exact z) fun c xs z=>by rw[aAv (aA7 z n)];exact z
theorem aRi (x:HOk P w H h)(hc:H ca=some (.frz ob (.own ca))):HOk P w (hid H ca) h:=fun b u q=>by
 by_cases hb:b=ca
 ·rw[hb] at q;unfold PU.hid at q;rw[if_pos rfl] at q;cases q
 ·have q':H b=some u:=bFe H ca b u q
  exact (x b u q').stay (fun _ _ _ z=>z) (fun c z=>aGj hc z fun _ z=>by cases z) (fun c xs z=>aGj hc z fun _ z=>by cases z) fun c xs z=>aGj hc z fun o z=>by cases z;exact hb rfl
theorem aRj (H:Hp)(ca:Addr):hid H ca ca=none:=by unfold hid;rw[if_pos rfl]
theorem aJc (H:Hp){ca b:Addr}(n:b≠ca):hid H ca b=H b:=by unfold hid;rw[if_neg n]
end
section
variable {P:Qv}{w:Q8}{outer:List Env}{s s':Qe}{H:Hp}{Q Q':VK}{E E':XK}{r:Result}{ca:Addr}{ob:Obj}
theorem aWi {H':Hp}{h h':Heap}(hc:H ca=some (.frz ob (.own ca)))(hs:h.get? ca=some ob)(hf:ca∉frs outer)(un:Un (frs outer) [] (hid H ca) H' h h'):H' ca=none/\h'.get? ca=some ob/\Un (frs outer) [] H (upd H' ca (.frz ob (.own ca))) h h':=by
 have n:=un.free ca ob hs (aRj H ca) (by simp);have ne: ∀b,H b=none->b≠ca:=fun b q z=>by rw[z,hc] at q;cases q
 have hn: ∀b,H b=none->hid H ca b=none:=fun b q=>by rw[aJc H (ne b q)];exact q
 refine⟨n,un.keep ca ob hs (aRj H ca) hf (by simp),fun b o q nb hb hx=>un.keep b o q (hn b nb) hb hx,fun b o q nb hb hx=>un.slot b o q (hn b nb) hb hx,fun b o q nb hx=>by rw[aAv (ne b nb)];exact un.free b o q (hn b nb) hx,fun b o q hx=>un.there b o q hx,fun b xs q=> ?_,fun b o u q=> ?_,fun b ps q=> ?_⟩
 ·have z:=un.tups b xs (aGj hc q fun _ z=>by cases z)
  rw[aAv (aA7 z n)];exact z
 ·by_cases hb:b=ca
  ·subst hb;rw[hc] at q;cases q;exact aAy
  ·have z:=un.aOy b o u (by rw[aJc H hb];exact q)
   rw[aAv hb];exact z
 ·have z:=un.aLs b ps (aGj hc q fun _ z=>by cases z)
  rw[aAv (aA7 z n)];exact z
theorem bGi (hc:H ca=some (.frz ob (.own ca)))(hs:s.heap.get? ca=some ob)(hf:ca∉frs outer)(hQ: ∀v H',H' ca=none->Q' v H'->Q v (upd H' ca (.frz ob (.own ca))))(hE: ∀c a H',H' ca=none->E' c a H'->E c a (upd H' ca (.frz ob (.own ca))))
  (x:CR (CXD P w) outer P w (hid H ca) s Q' E' r s'):CR (CXD P w) outer P w H s Q E r s':=by
 cases r with
 | error e=>
  obtain⟨c,ea,H',ee,os,bare,un,⟨Bs,a0,fl,old,hok⟩,q⟩:=x;obtain⟨n,e1,un'⟩:=aWi hc hs hf un;exact⟨c,ea,_,ee,os,bare,un',⟨Bs,a0,fl,old,aVm hok n (old ca ob ob hs hf e1)⟩,hE _ _ _ n q⟩
 | ok fl=>
  cases fl with
  | ret u=>
   obtain⟨v,H',os,bare,un,hok,rv,q⟩:=x;obtain⟨n,e1,un'⟩:=aWi hc hs hf un;exact⟨v,_,os,bare,un',aVm hok n e1,rv,hQ _ _ n q⟩
  | next=>exact Qd x
  | brk=>exact Qd x
  | cont=>exact Qd x
theorem aZi {H':Hp}{h h':Heap}(hn:H ca=none)(hs:h.get? ca=some ob)(hok: ∀u,H' ca=some (.frz ob u)->h'.get? ca=some ob)(un:Un (frs outer) [] (upd H ca (.frz ob (.own ca))) H' h h'):H' ca=some (.frz ob (.own ca))/\Un (frs outer) [] H (hid H' ca) h h':=by
 have z1:=un.aOy ca ob _ aAy;have e1:=hok _ z1;have up: ∀{b:Addr} {u:Option HO},b≠ca->H b=u->upd H ca (.frz ob (.own ca)) b=u:=fun {b u} nb q=>by rw[aAv nb];exact q
 refine⟨z1,fun b o q nb hb hx=> ?_,fun b o q nb hb hx=> ?_,fun b o q nb hx=> ?_,fun b o q hx=>un.there b o q hx,fun b xs q=> ?_,fun b o u q=> ?_,fun b ps q=> ?_⟩
 ·by_cases z:b=ca
  ·subst z;rw[hs] at q;cases q;exact e1
  ·exact un.keep b o q (up z nb) hb hx
 ·by_cases z:b=ca
  ·subst z;rw[hs] at q;cases q;exact⟨ob.slots,e1⟩
  ·exact un.slot b o q (up z nb) hb hx
 ·by_cases z:b=ca
  ·subst z;exact aRj _ _
  ·rw[aJc _ z];exact un.free b o q (up z nb) hx
 ·have nb:=aA7 q hn
  rw[aJc _ nb];exact un.tups b xs (up nb q)
 ·have nb:=aA7 q hn
  rw[aJc _ nb];exact un.aOy b o u (up nb q)
 ·have nb:=aA7 q hn
  rw[aJc _ nb];exact un.aLs b ps (up nb q)
theorem bK9 (hn:H ca=none)(hs:s.heap.get? ca=some ob)(hf:ca∉frs outer)(hQ: ∀v H',H' ca=some (.frz ob (.own ca))->Q' v H'->Q v (hid H' ca))(hE: ∀c a H',H' ca=some (.frz ob (.own ca))->E' c a H'->E c a (hid H' ca))
  (x:CR (CXD P w) outer P w (upd H ca (.frz ob (.own ca))) s Q' E' r s'):CR (CXD P w) outer P w H s Q E r s':=by
 cases r with
 | error e=>
  obtain⟨c,ea,H',ee,os,bare,un,⟨Bs,a0,fl,old,hok⟩,q⟩:=x;obtain⟨z1,un'⟩:=aZi hn hs (fun u z=>by obtain⟨z2,_⟩:=hok ca _ z;exact fl.1 _ _ z2) un;exact⟨c,ea,_,ee,os,bare,un',⟨Bs,a0,fl,old,aRi hok z1⟩,hE _ _ _ z1 q⟩
 | ok fl=>
  cases fl with
  | ret u=>
   obtain⟨v,H',os,bare,un,hok,rv,q⟩:=x;obtain⟨z1,un'⟩:=aZi hn hs (fun u z=>(hok ca _ z).1) un;exact⟨v,_,os,bare,un',aRi hok z1,rv,hQ _ _ z1 q⟩
  | next=>exact Qd x
  | brk=>exact Qd x
  | cont=>exact Qd x
end
structure aR8 (N ps:List Str)(c:Clo):Prop where
 kind:c.scope.kind= .function
 co:c.scope.isCoroutine=false
 gen:c.scope.isGenerator=false
 nd:N.Nodup
 pre:N.take (ps.length+1)=ps++ [c.y]
 par: ∀x∈ps,c.scope.names.lookup x=some .local
 fr:c.scope.names.lookup c.y=some .free
 nc: ∀z∈c.scope.names,z.2≠ .cell
 one: ∀z,c.scope.names.lookup z=some .free->z=c.y
 bnd: ∀(us:List Qc) (ca:Addr) (doc pm cd ctv:Qc),us.length=ps.length->bindArgs (PySem.W.fnX c.nm c.qual c.pr c.body c.scope [(c.y,ca)] .none .none doc pm none cd ctv) ⟨us,[]⟩=pure (ps.zip us)
def cxK (P:Qv)(w:Q8)(K:Qa)(mg:Str->Option Qc)(base:Heap)(N:List Str)(c:Clo)(f ca:Addr)(cd:Qc)(A:Zb)(outer:List Env)(s:Qe)(H:Hp)(E:XK):Cx where
 prog:=P
 w:=w
 K:=K
 mg:=mg
 base:=base
 A:=A.deeper (J0 c.qual c.scope s.heap.objs.size f cd [(c.y,ca)])
 N:=N
 s₀:=s
 H₀:=H
 env:=J0 c.qual c.scope s.heap.objs.size f cd [(c.y,ca)]
 outer:=outer
 stack:=J0 c.qual c.scope s.heap.objs.size f cd [(c.y,ca)]::outer
 ex:=[]
 calm:=true
 fn:=fun _=>false
 pn:=[]
 xe:=fun e s'=>Qs (Qp P w) (A.deeper (J0 c.qual c.scope s.heap.objs.size f cd [(c.y,ca)])) (leaving (J0 c.qual c.scope s.heap.objs.size f cd [(c.y,ca)]) e) (fun _ s''=>CXD P w outer H s E e s'') (fun e' s''=>CXD P w outer H s E e' s'') s'
theorem aNl {α:Type}: ∀{l:List (Str×α)} {x:Str} {v:α},(l.map (·.1)).Nodup->(x,v)∈l->l.lookup x=some v
 | [],_,_,_,h=>absurd h (by simp)
 |(y,u)::l,x,v,nd,h=>by
  rw[Q4,J9] at nd;rw[J5];rcases List.mem_cons.mp h with e | h
  ·cases e;simp
  ·have:x≠y:=fun z=>nd.1 (by rw[<-z];exact List.mem_map.mpr ⟨_,h,rfl⟩)
   have hz:(x==y)=false:=by simpa using this
   rw[hz];exact aNl nd.2 h
theorem bHy {ps:List Str}{us:List Qc}{i:Nat}{x:Str}{u:Qc}(nd:ps.Nodup)(hl:us.length=ps.length)(h1:ps[i]? =some x)(h2:us[i]? =some u):(ps.zip us).reverse.lookup x=some u:=by
 refine aNl ?_ ?_
 ·rw[List.map_reverse,List.map_fst_zip (by omega)]
  exact (List.reverse_perm ps).nodup_iff.mpr nd
 ·rw[List.mem_reverse]
  exact Zx (i:=i) (by rw[List.getElem?_zip_eq_some];exact⟨h1,h2⟩)
section
variable {P:Qv}{w:Q8}{K:Qa}{mg:Str->Option Qc}{base:Heap}{N ps:List Str}{c:Clo}
theorem bJ5 {f ca:Addr}{cd:Qc}{A:Zb}{outer:List Env}{s:Qe}{H:Hp}{E:XK}{us:List Qc}{vs:List V}{v:V}{u:Qc}{h₁:Heap}{tk:Nat}(S:aR8 N ps c)(hd:A.handled=none)(e0:bDi P w K mg base A outer s H)(hl:us.length=ps.length)(r:Vals vs us)(hc:s.heap.IsCell ca (some u))(hH:H ca=none)(rv:RelV v u)
  (hns:h₁.Ns s.heap.objs.size (fun x=>(ps.zip us).reverse.lookup x)) (hsb:Yw s.heap.objs.size (s.heap.push {cls:= .type "frame",data:= .dict #[]}) h₁):
  Inv (cxK P w K mg base N c f ca cd A outer s H E) [] (start N (vs++ [v])) H {s with heap:=h₁,toks:=tk}:=by
 have hk₁: ∀b o,s.heap.get? b=some o->h₁.get? b=some o:=fun b o e=>hsb.extBut b o (Q1 (Qo e)) (Qg _ e)
 have hc1:h₁.IsCell ca (some u):=let ⟨o,z1,z2⟩:=hc;⟨o,hk₁ _ _ z1,z2⟩;have look: ∀{z:Str} {d:Addr},([(c.y,ca)]:List (Str×Addr)).lookup z=some d->z=c.y/\d=ca:=fun {z d} e=>by
  by_cases h:z=c.y
  ·subst h
   simp at e;exact⟨rfl,e.symm⟩
  ·have hz:(z==c.y)=false:=by simpa using h
   simp[Wj,hz] at e
 have lk:([(c.y,ca)]:List (Str×Addr)).lookup c.y=some ca:=by simp
 have noA: ∀b:Addr,b∉(cxK P w K mg base N c f ca cd A outer s H E).ex:=fun b z=>absurd (show b∈([]:List Addr) from z) (by simp)
 have ndP:ps.Nodup:=by
  have:=S.nd.sublist (List.take_sublist (ps.length+1) N);rw[S.pre] at this;exact (List.nodup_append.mp this).1
 have hN:ps.length+1<=N.length:=by have:=congrArg J1 S.pre;rw[Za,Ql,Zs] at this;omega
 refine⟨⟨e0.mod,S.kind,rfl,rfl,Qr _,fun z z' d h1 h2=>(look h1).1.trans (look h2).1.symm,fun z hz=> ?_,fun z d hz=>(by cases hz),fun _=>hd,Around.frames_deeper e0.frames,.inr ⟨rfl,rfl⟩,fun b z=>absurd z (noA b),e0.bs,e0.bsz,fun b _ _=>noA b,fun b z=>absurd z (noA b),e0.aRq,e0.frf⟩,
  rfl,e0.bare,Un.kept hk₁,⟨_,hns,fun i z w' h1 h2 h3=> ?_⟩,fun z d hz=> ?_,e0.hok.fresh (Qr _),fun z d hz=> ?_,fun p hp=>absurd (show p∈([]:List (Addr×Obj)) from hp) (by simp),e0.hok.kept hk₁,?_⟩
 ·have hz:c.scope.names.lookup z=some .cell\/c.scope.names.lookup z=some .free:=hz
  rcases hz with hz | hz
  ·exact absurd rfl (S.nc _ (Y2 hz))
  ·rw[S.one z hz];exact⟨ca,lk⟩
 ·have lv:=r.length
  have h2':(vs++ [v])[i]? =some w':=by
   unfold start at h2;by_cases hi:i<(vs++ [v]).length
   ·rw[Ze (by simpa using hi),Zm] at h2
    cases e:(vs++ [v])[i]? with
    | none=>rw[e] at h2;cases h2
    | some a=>rw[e] at h2;cases h2;rfl
   ·rw[Zi (by simpa using hi),Yd] at h2
    split at h2<;>cases h2
  have hi:i<ps.length+1:=by have:=(List.getElem?_eq_some_iff.mp h2').1;rw[Ql,Zs] at this;omega
  have h1':(ps++ [c.y])[i]? =some z:=by rw[<-S.pre,Um hi];exact h1
  by_cases hip:i<ps.length
  ·rw[Ze hip] at h1'
   rw[Ze (by omega)] at h2';obtain⟨u',g1,g2⟩:=r.get h2';exact⟨u',g2,.inl ⟨S.par z (Zx h1'),bHy ndP hl h1' g1⟩⟩
  ·have hie:i=ps.length:=by omega
   subst hie;rw[Zi (Qr _),Nat.sub_self] at h1';rw[Zi (by omega),show ps.length-vs.length=0 by omega] at h2';cases h1';cases h2';exact⟨u,rv,.inr ⟨.inr S.fr,ca,lk,hc1⟩⟩
 ·rw[(look hz).2];exact⟨_,hc1⟩
 ·rw[(look hz).2];exact hH
 ·rw[aLt]
  ·rfl
  ·rw[Ql,Zs,r.length,hl];exact hN
theorem bLg {f ca:Addr}{cd:Qc}{A:Zb}{outer:List Env}{s₀:Qe}{H₀:Hp}{E:XK}{pins:List (Addr×Obj)}{σ:St}{H:Hp}{x:Addr}{e:Qc}{s:Qe}
  (q:Exc (cxK P w K mg base N c f ca cd A outer s₀ H₀ E) pins σ H x e s) (hE:E (.ref x) none H):(cxK P w K mg base N c f ca cd A outer s₀ H₀ E).xe e s:=by
 refine aW3 (X:=cxK P w K mg base N c f ca cd A outer s₀ H₀ E) rfl rfl rfl q fun s' hl=> ?_
 obtain⟨ea,e1,e2,e3,e4,e5⟩:=hl;exact⟨x,ea,H,e1,e2,e3,e4,e5,hE⟩
def bGh (P:Qv)(w:Q8)(K:Qa)(mg:Str->Option Qc)(base:Heap)(T:Addr)(pq:Bool×Pos×Str)(k:Nat)(c:Clo)(F:List D->M D):Prop:=
 ∀(A:Zb) (outer:List Env) (s:Qe) (H:Hp) (us:List Qc) (vs:List V) (Q:VK) (E:XK) (f:Addr) (d:D) (ds:List D),aFz k A->bDi P w K mg base A outer s H->H T=some (.tbl pq)->Is K H (.clo c d) (.ref f)->Vals vs us->IsL K H ds vs->d.nc=true->ncL ds=true->spR K H Q E (F (ds++ [d]))->
  codeAny (Qp P w) A (.call (.ref f) ⟨us,[]⟩) (CR (CXD P w) outer P w H s Q E) s
theorem bQo {T:Addr}{pq:Bool×Pos×Str}{k:Nat}{F:List D->M D}(S:aR8 N ps c)(hL: ∀ds r,F ds=some r->ds.length=ps.length+1)
  (hbody: ∀(f ca:Addr) (cdv:Qc) (A:Zb) (outer:List Env) (s:Qe) (H:Hp) (E:XK),H T=some (.tbl pq)->aFz k (A.deeper (J0 c.qual c.scope s.heap.objs.size f cdv [(c.y,ca)]))->
   ∃F',(∀B,PDB (cxK P w K mg base N c f ca cdv A outer s H E) B c.body F')/\∀ds r,F ds=some r->aA0 (F' (aBu N ds))=some r):bGh P w K mg base T pq (k+1) c F:=by
 intro A outer s H us vs Q E f d ds hr e0 hT ic rv il nd nl hsp;cases ic with
 | clo hca ir=>
 rename_i v;obtain⟨ca,cd,T',doc,pm,ctv,u,oc,ob,h1,h2,⟨va,tq,h3,h3'⟩,h4,h5,h6⟩:=hca;obtain⟨o1,_⟩:=(show aCe P w H s.heap f _ from e0.hok f _ h1);obtain⟨o2,_⟩:=(show aCe P w H s.heap cd _ from e0.hok cd _ h2);obtain⟨o4,_⟩:=(show aCe P w H s.heap ca _ from e0.hok ca _ h4);have hn:ds.length=ps.length:=by
  cases q:F (ds++ [d]) with
  | none=>rw[q] at hsp;exact Qd hsp
  | some z=>have:=hL _ z q;rw[Ql,Zs] at this;omega
 have hlu:us.length=ps.length:=by rw[<-rv.length,<-il.length];exact hn
 have nfr:ca∉frs outer:=fun z=>by have:=e0.frf ca z;rw[h4] at this;cases this
 have e0':bDi P w K mg base A outer s (hid H ca):=⟨e0.frames,e0.mod,fun b o q=>⟨(e0.bs b o q).1,by
   obtain⟨_,z⟩:=e0.bs b o q;rw[aJc H (fun y=>by rw[y,h4] at z;cases z)];exact z⟩,e0.bsz,e0.aRq,fun b hb=>by
   have z:=e0.frf b hb;rw[aJc H (fun y=>by rw[y,h4] at z;cases z)];exact z,aRi e0.hok h4,e0.bare⟩
 have hT':hid H ca T=some (.tbl pq):=aGj h4 hT fun _ z=>by cases z
 have smr: ∀{H':Hp},H' ca=none->Same (hid H ca) H'->Same H (upd H' ca (.frz ob (.own ca))):=fun {H'} n sm b o q=>by
  by_cases hb:b=ca
  ·subst hb;rw[h4] at q;cases q;exact aAy
  ·rw[aAv hb];exact sm b o (by rw[aJc H hb];exact q)
 refine Jc (R:=CR (CXD P w) outer P w (hid H ca) s (fun v' H'=>Same (hid H ca) H'/\∃d',F (ds++ [d])=some (.ok d')/\Is K H' d' v') (fun cv a H'=>a=none/\Same (hid H ca) H'/\∃x,cv= .ref x/\F (ds++ [d])=some (.error x))) ?_ fun r s' x=>bGi h4 o4 nfr (fun v' H' n ⟨sm,d',q,i'⟩=>by rw[q] at hsp;exact hsp v' _ (smr n sm) (i'.mono (aA5 n _))) (fun cv a H' n ⟨ea,sm,x,ex,q⟩=>by subst ea ex;rw[q] at hsp;exact hsp _ (smr n sm)) x
 refine codeAny_call_function hr.depth o1 rfl S.co S.gen rfl ⟨cd,oc,va,tq,rfl,o2,h3,h3'⟩ ?_;rw[S.bnd us ca doc pm (.ref cd) ctv hlu];refine Qf (wpAny_newFunctionEnv S.nc (fun z hz=>S.par z.1 (Uw hz).1) (fun h₁ hns hsb=>⟨(e0.mod.nolimit.keeps fun b o e=>(e0.bs b o e).1).fresh _ hsb,?_⟩) S.kind);show codeAny _ _ (.func c.body (J0 c.qual c.scope s.heap.objs.size f (.ref cd) [(c.y,ca)])) _ _;refine codeAny_func ?_;obtain⟨F',hF,hq⟩:=hbody f ca (.ref cd) A outer s (hid H ca) (fun cv a H'=>a=none/\Same (hid H ca) H'/\∃x,cv= .ref x/\F (ds++ [d])=some (.error x)) hT' (hr.deeper _);have I:=bJ5 (N:=N) (ps:=ps) (c:=c) (f:=f) (cd:= .ref cd) (E:=fun cv a H'=>a=none/\Same (hid H ca) H'/\∃x,cv= .ref x/\F (ds++ [d])=some (.error x)) (tk:=s.toks+(ps.zip us).length) S hr.hd e0' hlu rv ⟨ob,o4,h5⟩ (aRj H ca) h6 hns hsb;have il':IsL K (hid H ca) (ds++ [d]) (vs++ [v]):=(il.hid h4 nl).append (.cons (ir.hid h4 nd) .nil);have hN:(ds++ [d]).length<=N.length:=by
  have:=congrArg J1 S.pre;rw[Za,Ql,Zs] at this;rw[Ql,Zs];omega
 have rel:=aH9 il' hN;have fin: ∀{σ':St} {H':Hp} {v':V} {u':Qc} {s':Qe} {Q':VK},Inv (cxK P w K mg base N c f ca (.ref cd) A outer s (hid H ca) (fun cv a H'=>a=none/\Same (hid H ca) H'/\∃x,cv= .ref x/\F (ds++ [d])=some (.error x))) [] σ' H' s'->RelV v' u'->Q' v' H'->CE outer P w (hid H ca) s Q' u' s':=
  fun {σ' H' v' u' s' Q'} J rv q=>⟨v',H',J.os,J.bare,J.base,J.hok,rv,q⟩
 obtain⟨r,qF⟩: ∃r,F (ds++ [d])=some r:=by
  cases q:F (ds++ [d]) with
  | none=>rw[q] at hsp;exact Qd hsp
  | some r=>exact⟨r,rfl⟩
 have e:=hq _ r qF;have main:=hF (hid H ca) [] _ (start N (vs++ [v])) (hid H ca) {nx:=fun _ H'=>Same (hid H ca) H'/\∃d',F (ds++ [d])=some (.ok d')/\Is K H' d' .non,rt:=fun v' H'=>Same (hid H ca) H'/\∃d',F (ds++ [d])=some (.ok d')/\Is K H' d' v'} I ⟨_,rel,by
  cases qf:F' (aBu N (ds++ [d])) with
  | none=>rw[qf] at e;cases e
  | some o=>
   rw[qf] at e;cases o with
   | rt d'=>cases e;exact fun v' H' s' i'=>⟨s',d',qF,i'⟩
   | nx ρ=>cases e;exact fun σ' H' r'=>⟨r'.kept,.non,qF,.non⟩
   | bk ρ=>cases e
   | ct ρ=>cases e
   | ex x ρ=>cases e;exact fun pins s' σ' H' ev r' y=>bLg y ⟨rfl,r'.kept,x,rfl,qF⟩⟩
 refine Yq main (fun fl s' hs=> ?_) fun e s' hs=>hs
 cases fl with
 | ret u'=>
  obtain⟨v',σ',H',J,rv',q⟩:=hs;exact fin J rv' q
 | next=>
  obtain⟨σ',H',J,q⟩:=hs;exact fin (v':=V.non) (u':=Value.none) J rfl q
 | brk=>
  obtain⟨_,_,_,q⟩:=hs;exact Qd q
 | cont=>
  obtain⟨_,_,_,q⟩:=hs;exact Qd q
end
def aO8 (P:Qv)(w:Q8)(K:Qa)(mg:Str->Option Qc)(base:Heap)(T:Addr)(pq:Bool×Pos×Str)(k:Nat)(Φ:D->List D->M D):Prop:=
 (∀a ds r,Φ (.fn a) ds=some r->∃oc od fd osl,K.lookup a=some ⟨oc,od,.func fd,osl⟩)/\
 ∀(A:Zb) (outer:List Env) (s:Qe) (H:Hp) (us:List Qc) (vs:List V) (Q:VK) (E:XK) (f:Addr) (d:D) (ds:List D),aFz k A->bDi P w K mg base A outer s H->H T=some (.tbl pq)->Is K H d (.ref f)->Vals vs us->IsL K H ds vs->spR K H Q E (Φ d ds)->
  codeAny (Qp P w) A (.call (.ref f) ⟨us,[]⟩) (CR (CXD P w) outer P w H s Q E) s
open Classical in
def phi (fa:Addr)(Fa:List D->M D)(c:Clo)(Fc:List D->M D):D->List D->M D:=fun d ds=>match d with
 | .fn a=>if a=fa then Fa ds else none
 | .clo c' e=>if c'=c/\e.nc=true/\ncL ds=true then Fc (ds++ [e]) else none
 | _=>none
section
variable {P:Qv}{w:Q8}{K:Qa}{mg:Str->Option Qc}{base:Heap}{T:Addr}{pq:Bool×Pos×Str}{k:Nat}
theorem aO8.mono {j:Nat}{Φ:D->List D->M D}(h:aO8 P w K mg base T pq j Φ)(q:j<=k):aO8 P w K mg base T pq k Φ:=⟨h.1,fun A outer s H us vs Q E f d ds hr=>h.2 A outer s H us vs Q E f d ds (hr.mono q)⟩
theorem bMi {x:Str}{fa:Addr}{Fa Fc:List D->M D}{c:Clo}(G:Def P w K mg base k x Fa)(hm:mg x=some (.ref fa))(hl: ∃oc od fd osl,K.lookup fa=some ⟨oc,od,.func fd,osl⟩)(hC:bGh P w K mg base T pq k c Fc):aO8 P w K mg base T pq k (phi fa Fa c Fc):=by
 refine⟨fun a ds r h=> ?_,fun A outer s H us vs Q E f d ds hr e0 hT i rv il h=> ?_⟩
 ·unfold phi at h
  dsimp only at h
  split at h
  ·rename_i e;rw[e];exact hl
  ·cases h
 ·cases i with
  | fn a=>
   unfold phi at h
   dsimp only at h
   split at h
   ·rename_i e
    subst e;obtain⟨f',fd,ps,h1,h2,h3,hL,h4⟩:=G;rw[hm] at h1;cases h1;have hn:ds.length=ps.length:=by
     cases q:Fa ds with
     | none=>rw[q] at h;exact Qd h
     | some z=>exact hL ds z q
    have KX:K.In s.heap:=e0.mod.kin.keeps fun b o e=>(e0.bs b o e).1
    have hl':(us++ []).length=ps.length:=by rw[Z3,<-rv.length,<-il.length];exact hn
    have hbb:=h3 s us KX hl';rw[Z3] at hbb;exact h4.run A outer s H ⟨us,[]⟩ us vs Q E hr e0 hbb rv ⟨ds,il,by rw[<-il.length];exact hn,h⟩
   ·exact Qd h
  | clo hc ir=>
   unfold phi at h
   dsimp only at h
   split at h
   ·rename_i e
    obtain⟨e1,e2,e3⟩:=e;subst e1;exact hC A outer s H us vs Q E f _ ds hr e0 hT (.clo hc ir) rv il e2 e3 h
   ·exact Qd h
  | _=>exact Qd h
end
theorem aP8 {Md:Model}{A:Zb}{E:Qc->Qe->Prop}{s:Qe}{env:Env}{pos:Pos}{first:List Qc}{Q:Qc->Qe->Prop}{q:Addr}{e:Expr}{rest:List Expr}(h:Qs Md A (spliced (backTo pos (Qu (e::rest) env))) (fun vs s₁=>PySem.W.FnAt q s₁.heap/\Qs Md A (call (.ref q) (first++vs)) Q E s₁) E s)
  (he:Qu (e::rest) env=(false,eval e env)::Qu rest env) (hplain:(backTo pos (Qu rest env)).any (·.1)=false):
  Qs Md A (callWith pos (.ref q) first (backTo pos (Qu (e::rest) env)) []) Q E s:=by
 rw[he] at h⊢;exact PySem.W.callWith_of (by show ((false ||(backTo pos (Qu rest env)).any (·.1)) || false)=false;rw[hplain];rfl) PySem.W.keeps_F (PySem.Calls.evalArgs_plain h)
def D.fnl:D->Bool
 | .fn _=>true
 | .clo _ _=>true
 | _=>false
def aZe (Φ:D->List D->M D)(i:Nat)(g:Rho->M (List D)):Rho->M D:=fun ρ=>bnd (look i ρ) fun d=>if d.fnl=true then bnd (g ρ) fun ds=>Φ d ds else none
section
variable {X:Cx}{B:Hp}{T:Addr}{pq:Bool×Pos×Str}{k:Nat}{Φ:D->List D->M D}{x:Str}{p pos:Pos}{e:Expr}{es:List Expr}{ga:Rho->M (List D)}
theorem bMx {a:Addr}(hg:Gl X x)(hm:X.mg x=some (.ref a))(hd:(x==("__debug__":Str))=false:=by decide):PD X B (.Name x pos) (con (.fn a)):=
 PE.of (aUx hg hm (v:= .ref a) rfl hd) fun σ H Q ⟨ρ,r,h⟩=>h _ H (Same.refl H) (.fn a)
theorem bEt (i:Nat)(G:aO8 X.prog X.w X.K X.mg X.base T pq k Φ)(hT:X.H₀ T=some (.tbl pq))(hr:aFz k X.A)(ha:PDA X B (e::es) ga)(hN:X.N[i]? =some x:=by rfl)(hv:Vis X.env.scope x:=by first | exact Qz rfl | exact Yi (Qz rfl) | exact Yi (Yi rfl))
  (hd:(x==("__debug__":Str))=false:=by decide) (hcd:(x==("__classdict__":Str))=false:=by decide) (he:Qu (e::es) X.env=(false,eval e X.env)::Qu es X.env:=by exact aBf rfl)
  (hpl:(backTo pos (Qu es X.env)).any (·.1)=false:=by rfl):PD X B (.Call (.Name x p) (e::es) [] pos) (aZe Φ i ga):=by
 intro pins s σ H Q I h;obtain⟨ρ,r,h⟩:=h;unfold aZe look at h;split at h
 ·rename_i sv q
  have h:Res X σ H (fun d=> ∀v H',Same H H'->Is X.K H' d v->Q v H') (if sv.cur.fnl=true then bnd (ga ρ) fun ds=>Φ sv.cur ds else none):=h;obtain⟨v,e1,e2⟩:=r.get q;generalize sv.cur=dv at h e2;split at h
  ·rename_i hf
   obtain⟨f,rfl⟩: ∃f,v= .ref f:=by
    cases e2<;>first | exact⟨_,rfl⟩ |(rename_i z;simp[D.fnl] at hf) | simp[D.fnl] at hf
   refine Yh (thn (aHo hN hv hd hcd pins s σ H (fun v' H'=>v'= .ref f/\H'=H) I ⟨_,e1,rfl,rfl⟩) fun u s1 ⟨v',H',I1,rv,ev,eH⟩=> ?_);subst ev eH;cases rv;have red:tDA X B ga σ H' (fun vs H1=>Same H' H1/\∃ds,IsL X.K H1 ds vs/\Res X σ H1 (fun d=> ∀v H',Same H1 H'->Is X.K H' d v->Q v H') (Φ dv ds)):=⟨ρ,r,(Res.bind h).imp fun ds h1 vs H1 e1 i1=>⟨e1,ds,i1,h1.mono e1 fun d q v H2 e2 i2=>q v H2 (e1.trans e2) i2⟩⟩;refine aP8 (thn (ha pos pins s1 σ H' _ I1 red) fun us s2 ⟨vs,H1,I2,r2,sm,ds,i1,qq⟩=> ?_) he hpl;have e3:=e2.mono sm;refine⟨?_,?_⟩
   ·cases hc:dv with
    | fn a=>
     rw[hc] at e3 qq;cases e3;obtain⟨z,hz⟩: ∃z,Φ (.fn f) ds=some z:=by
      cases hz:Φ (.fn f) ds with
      | none=>rw[hz] at qq;exact Qd qq
      | some z=>exact⟨z,rfl⟩
     obtain⟨oc,od,fd,osl,hk⟩:=G.1 f ds z hz;exact⟨oc,od,fd,osl,I2.kIn _ _ hk⟩
    | clo c d=>
     rw[hc] at e3;cases e3 with
     | clo hca ir=>
      obtain⟨ca,cd,T',doc,pm,ctv,u,oc,ob,h1,_⟩:=hca;obtain⟨o1,_⟩:=(show aCe X.prog X.w H1 s2.heap f _ from I2.hok f _ h1);exact⟨_,_,_,_,o1⟩
    | _=>rw[hc] at hf;simp[D.fnl] at hf
   ·have hsp:spR X.K H1 Q (fun cv _ H'=> ∃c,cv= .ref c/\Same H1 H'/\Thr X σ H1 c) (Φ dv ds):=by
     cases q:Φ dv ds with
     | none=>rw[q] at qq;exact Qd qq
     | some z=>
      rw[q] at qq;cases z with
      | error c=>exact fun H' e=>⟨c,rfl,e,qq⟩
      | ok d=>exact qq
    refine wpAny_call (Jc (G.2 X.A X.stack s2 H1 us vs Q _ f dv ds hr I2.env0 (I2.base.aLs _ _ hT) e3 r2 i1 hsp) fun r s' hq=> ?_);cases r with
    | error e=>
     obtain⟨c,ea,H',ee,os,bare,un,fl,c',ec,sm',th⟩:=hq;cases ec;exact th pins s' H' e sm' ⟨ea,ee,.inr ⟨s2,H1,I2,os,bare,un,fl⟩⟩
    | ok fl=>
     cases fl with
     | ret u=>exact I2.after hq
     | next=>exact Qd hq
     | brk=>exact Qd hq
     | cont=>exact Qd hq
  ·exact Qd h
 ·exact Qd h
end
section
variable {P:Qv}{w:Q8}{K:Qa}{mg:Str->Option Qc}{base:Heap}{T:Addr}{pq:Bool×Pos×Str}
theorem aYs {x qual:Str}{st:Stmt}{f:Addr}{fd:Z9}{N ps:List Str}{k:Nat}{F:List D->M D}(Fu:Fun K x qual st f fd)(S:aBg N ps (aAp st))(hL: ∀ds r,F ds=some r->ds.length=ps.length)
  (hbody: ∀(cdv:Qc) (A:Zb) (outer:List Env) (s:Qe) (H:Hp) (E:XK),fd.code=cdv->H T=some (.tbl pq)->aFz k (A.deeper (envOfC qual (aAp st) s.heap.objs.size f cdv))->
   ∃F',(∀B,PDB (cxX P w K mg base N qual (aAp st) f cdv A outer s H E) B (aCu st) F')/\∀ds r,F ds=some r->aA0 (F' (aBu N ds))=some r):FnT P w K mg base T pq (k+1) f fd ps F:=by
 obtain⟨oc,od,kV,doc,pm,an,cdv,ct,osl,rfl,lk,hcd⟩:=Fu.ex;refine bFo lk hcd S (fun vs H Q E ⟨_,ds,i,hl,_⟩=>hl) fun A outer s H vs Q E hr hsp=> ?_
 obtain⟨hT,hsp⟩:=hsp;obtain⟨F',hF,hq⟩:=hbody cdv A outer s H E rfl hT hr;refine⟨_,hF H,?_⟩;obtain⟨ds,i,hl,h⟩:=hsp;have hn:ps.length<=N.length:=by have:=congrArg J1 S.pre;rw[Za] at this;omega
 cases q:F ds with
 | none=>rw[q] at h;exact Qd h
 | some r=>
  rw[q] at h;have e:=hq ds r q;refine⟨aBu N ds,aH9 i (by rw[i.length,hl];exact hn),?_⟩;cases qf:F' (aBu N ds) with
  | none=>rw[qf] at e;cases e
  | some o=>
   rw[qf] at e;cases o with
   | rt d'=>cases e;exact fun v H' s' i'=>h v H' s' i'
   | nx ρ=>cases e;exact fun σ' H' r'=>h _ H' r'.kept .non
   | bk ρ=>cases e
   | ct ρ=>cases e
   | ex c ρ=>cases e;exact fun pins s' σ' H' ev r' x=>bLh x (h H' r'.kept)
end
def aQa (H:Hp)(f ca:Addr)(c:Clo):Prop:= ∃(cd T:Addr) (doc pm ctv:Qc) (oc:Obj),H f=some (.frz (Jz c.nm c.qual c.pr c.body c.scope [(c.y,ca)] doc pm cd ctv) (.own f))/\H cd=some (.frz oc (.own T))/\bK7 oc c.qual
theorem aQa.mono {H H':Hp}{f ca:Addr}{c:Clo}(e:Same H H')(h:aQa H f ca c):aQa H' f ca c:=by
 obtain⟨cd,T,doc,pm,ctv,oc,h1,h2,h3⟩:=h;exact⟨cd,T,doc,pm,ctv,oc,e _ _ h1,e _ _ h2,h3⟩
section
variable {X:Cx}{pins:List (Addr×Obj)}{σ:St}{H:Hp}{s:Qe}{c:Clo}{c0 ca P:Addr}{aN6:Pos}{fl:Nat}{Q:Qc->Qe->Prop}{E:Qc->Qe->Prop}
theorem bF5 (I:Inv X pins σ H s)(hcl:closureFor c.scope X.env=pure [(c.y,ca)])(hcode:X.env.code= .ref c0)(hC:Jp X.base c0 P)(hB:Blt X.mg X.base)(hT:H P=some (.tbl (false,aN6,c.qual)))
  (h: ∀(f:Addr) (s':Qe) (H':Hp),Inv X pins σ H' s'->Same H H'->aQa H' f ca c->Q (.ref f) s'):
  Qs (Qp X.prog X.w) X.A (makeFunction c.nm c.qual c.pr (.stmts c.body) c.scope X.env [] [] [] aN6 fl) Q E s:=by
 obtain⟨tb,hP,ht,hca⟩:=(show aCe X.prog X.w H s.heap P (.tbl (false,aN6,c.qual)) from I.hok P _ hT);have hgs:s.heap.Ns Y1 X.mg:=I.ok.mod.glob.keeps I.bk;have hgP:Y1≠P:=fun z=>by
  obtain⟨o,es,ep,e,_⟩:=I.ok.mod.glob;have:=(I.bs _ _ e).2;rw[z,hT] at this;cases this
 have hbt:s.heap.BuiltinsAt X.mg P:=by
  obtain⟨bm,ob,b1,b2,b3,b4,b5,b6⟩:=hB;refine⟨bm,ob,b1,b2,fun z=> ?_,fun z=> ?_,I.bk _ _ b3,b4,b5,b6⟩
  ·obtain⟨o,es,ep,e,hd,_⟩:=I.ok.mod.glob
   rw[z,e] at b3;cases b3;rw[hd] at b6;cases b6
  ·have:=(I.bs _ _ b3).2
   rw[z,hT] at this;cases this
 rcases hca with hca |⟨c',hca,⟨z,_⟩ |⟨_,oc,hcc,hco⟩⟩
 ·refine PySem.W.makeFunction_K (mg:=X.mg) hcl I.ok.glob hgs hcode (hC.keeps I.bk) hP ht hca hgP hbt fun c' ctv doc h' tk hx hge hlt hrec htb=> ?_
  have hn:H c'=none:=I.hok.fresh hge;have nP: ∀b,H b=none->b≠P:=fun b q z=>by rw[z,hT] at q;cases q
  have et:(tb++ #[Zq aN6.line,Zq aN6.col,Z7 c']).toList=tb.toList++ [Zq aN6.line,Zq aN6.col,.ref c']:=by simp
  have ca2:codeAmong aN6 (tb++ #[Zq aN6.line,Zq aN6.col,Z7 c']).toList=some (.ref c'):=by rw[et];exact codeAmong_snoc _ ht hca
  have tr2:TriplesOk (tb++ #[Zq aN6.line,Zq aN6.col,Z7 c']).toList:=by rw[et];exact TriplesOk_snoc _ _ _ _ ht
  obtain⟨c2,oc,vs,t,e2,e3,e4,e5⟩:=hrec;cases e2;have un:Un X.fs [] H (upd H c' (.frz oc (.own P))) s.heap h':=
   ⟨fun b o q n _ _=>hx b o (nP b n) q,fun b o q n _ _=>⟨o.slots,hx b o (nP b n) q⟩,fun b o q n _=>by rw[aAv (Q1 (Q2 (Qo q) hge))];exact n,
    fun b o q _=>by by_cases z:b=P;(· rw[z];exact⟨_,htb⟩);(· exact⟨o,hx b o z q⟩),fun b xs q=>by rw[aAv (aA7 q hn)];exact q,fun b o u q=>by rw[aAv (aA7 q hn)];exact q,fun b ps q=>by rw[aAv (aA7 q hn)];exact q⟩
  have hok:HOk X.prog X.w (upd H c' (.frz oc (.own P))) h':=fun b u q=>by
   by_cases hb:b=c'
   ·subst hb
    rw[aAy] at q;cases q;exact⟨e3,oc,e3⟩
   ·rw[aAv hb] at q
    by_cases hb2:b=P
    ·subst hb2
     rw[hT] at q;cases q;exact⟨_,htb,tr2,.inr ⟨c',ca2,.inr ⟨rfl,oc,aAy,vs,t,e4,e5⟩⟩⟩
    ·refine (I.hok b u q).stay (fun c v hc z=>hx c v ?_ z) (fun c z=>by rw[aAv (aA7 z hn)];exact z) (fun c xs z=>by rw[aAv (aA7 z hn)];exact z) fun c xs z=>by rw[aAv (aA7 z hn)];exact z
     rcases hc with rfl | hc
     ·exact hb2
     ·intro z;rw[z,hT] at hc;cases hc
  have I1:Inv X pins σ (upd H c' (.frz oc (.own P))) {s with heap:=h',toks:=s.toks}:=I.un (t':=s.toks) un hok;have nf:c'≠h'.objs.size:=Q1 hlt;have I2:=I1.laid (t':=tk) (h':=h'.push (Jz c.nm c.qual c.pr c.body c.scope [(c.y,ca)] doc ((X.mg "__name__").getD .none) c' ctv)) (a:=h'.objs.size) (o:= .frz (Jz c.nm c.qual c.pr c.body c.scope [(c.y,ca)] doc ((X.mg "__name__").getD .none) c' ctv) (.own h'.objs.size)) (fun b u e=>Qg _ e) (Qr _)
   ⟨Qx _ rfl,_,Qx _ rfl⟩
  exact h h'.objs.size _ _ I2 ((aA5 hn _).trans (aA5 (I1.hok.fresh (Qr _)) _)) ⟨c',P,doc,_,ctv,oc,aAy,by rw[aAv nf];exact aAy,vs,t,e4,e5⟩
 ·cases z
 ·refine PySem.W.makeFunction_hit (mg:=X.mg) hcl I.ok.glob hgs hcode (hC.keeps I.bk) hP ht hca hbt fun ctv doc h' tk hk hsz=> ?_
  have nf:c'≠h'.objs.size:=Q1 (Q2 (I.hok.lt hcc) hsz);have I2:=I.laid (t':=tk) (h':=h'.push (Jz c.nm c.qual c.pr c.body c.scope [(c.y,ca)] doc ((X.mg "__name__").getD .none) c' ctv)) (a:=h'.objs.size) (o:= .frz (Jz c.nm c.qual c.pr c.body c.scope [(c.y,ca)] doc ((X.mg "__name__").getD .none) c' ctv) (.own h'.objs.size)) (fun b u e=>Qg _ (hk b u e)) hsz
   ⟨Qx _ rfl,_,Qx _ rfl⟩
  exact h h'.objs.size _ _ I2 (aA5 (I.hok.fresh hsz) _) ⟨c',P,doc,_,ctv,oc,aAy,by rw[aAv nf];exact hcc,hco⟩
end
def aZ3 (c:Clo)(it iy:Nat)(F:List D->M D)(f:Rho->M D):Rho->Option Out:=fun ρ=>match ρ[it]?,ρ[iy]? with
 | some none,some (some (.sh d))=>lft (bnd (f ρ) fun d1=>F [d1,.clo c d]) ρ fun r=>if r.imm=true then some (.rt r) else none
 | _,_=>none
theorem Is.tups {K:Qa}{H H':Hp}(ht: ∀b xs,H b=some (.tup xs)->H' b=some (.tup xs)){d:D}{v:V}(q:d.imm=true)(h:Is K H d v):Is K H' d v:=
 Is.rec (motive_1:=fun d v _=>d.imm=true->Is K H' d v) (motive_2:=fun _ _ _=>True) (motive_3:=fun _ _ _=>True) (motive_4:=fun ds vs _=>aCo ds=true->IsL K H' ds vs) (motive_5:=fun _ _ _=>True)
  (fun _=> .non) (fun b _=> .bl b) (fun i _=> .int i) (fun x _=> .str x) (fun h _ r q=> .tup (ht _ _ h) (r q)) (fun _ _ _ q=>Q5 (show false=true from q)) (fun _ _ _ q=>Q5 (show false=true from q)) (fun _ _ _ q=>Q5 (show false=true from q)) (fun _ _ _ q=>Q5 (show false=true from q)) (fun _ q=>Q5 (show false=true from q)) (fun _ q=>Q5 (show false=true from q)) (fun _ _ _ q=>Q5 (show false=true from q)) (fun v _=> .opq v) (fun v _=> .fn v) (fun _ _ _ q=>Q5 (show false=true from q))
  trivial (fun _ _ _ _=>trivial) trivial (fun _ _ _ _=>trivial) (fun _=> .nil) (fun _ _ i r q=> .cons (i (Bool.and_eq_true_iff.mp q).1) (r (Bool.and_eq_true_iff.mp q).2)) trivial (fun _ _ _ _=>trivial) h q
section
variable {X:Cx}{B:Hp}{c:Clo}{c0 ca T:Addr}{aN6 p1 p2 pos rpos:Pos}{it iy k:Nat}{g:Str}{F:List D->M D}{fa:Rho->M D}{e1:Expr}
theorem bEf (G:aKs X.prog X.w X.K X.mg X.base T (false,aN6,c.qual) k g F)(hT:X.H₀ T=some (.tbl (false,aN6,c.qual)))(hr:aFz k X.A)(hg:Gl X g)(hit:X.N[it]? =some c.nm)(hlt:Vis X.env.scope c.nm)(hiy:X.N[iy]? =some c.y)(hvy:X.env.kindOf c.y=some .cell)(hfn:X.fn c.y=true)(hcy:X.env.cells.lookup c.y=some ca)(he:PD X B e1 fa)
  (hd:(c.nm==("__debug__":Str))=false) (hcd:(c.nm==("__classdict__":Str))=false) (hdb:(g==("__debug__":Str))=false) (hst:Qu [e1,.Name c.nm p2] X.env=[(false,eval e1 X.env),(false,eval (.Name c.nm p2) X.env)]) (hst2:Qu [.Name c.nm p2] X.env=[(false,eval (.Name c.nm p2) X.env)]):
  PE X (.Call (.Name g p1) [e1,.Name c.nm p2] [] pos) (fun σ H Q=> ∃ρ d f,Rel X.K B ρ σ H/\ρ[iy]? =some (some (.sh d))/\σ[it]? =some (some (.ref f))/\aQa H f ca c/\Res X σ H (fun d1=>Res X σ H (fun r=>r.imm=true/\∀v H',Same H H'->Is X.K H' r v->Q v H') (F [d1,.clo c d])) (fa ρ)):=by
 intro pins s σ H Q I h;obtain⟨ρ,d,f,r,qd,qf,hm,h⟩:=h;obtain⟨fg,fd,ps,g1,g2,g3,hl,g4⟩:=G;refine Yh (aK3 I hg g1 ?_ hdb);refine U5 (h₀:=X.base) I.ok.mod.kin g2 (thn (aBx he (aBx (aHo hit hlt hd hcd) aD4 hst2) (by rw[hst,hst2]) pos pins s σ H (fun vs H1=> ∃v1 d1,vs=[v1,.ref f]/\Same H H1/\Is X.K H1 d1 v1/\Res X σ H (fun r=>r.imm=true/\∀v H',Same H H'->Is X.K H' r v->Q v H') (F [d1,.clo c d])) I ⟨ρ,r,h.imp fun d1 h1 v1 H1 e1 i1=>⟨_,qf,v1,d1,rfl,e1,i1,h1⟩⟩) fun us s1 ⟨vs,H1,I1,rv,v1,d1,ev,sm,i1,q⟩=>⟨I1.kIn,?_⟩) (by rw[hst,hst2]) (by rw[hst2];rfl);subst ev;obtain⟨v,ev,iv⟩: ∃v,σ[iy]? =some (some v)/\Is X.K H1 d v:=by
  obtain⟨v,z1,z2⟩:=(r.mono sm).get qd;exact⟨v,z1,z2⟩
 obtain⟨m,hn,hlk⟩:=id I1.loc;obtain⟨u,ru,lk⟩:=hlk iy c.y v hiy ev (.inr (.inl hvy));obtain⟨ob,ho,hdo⟩:s1.heap.IsCell ca (some u):=by
  rcases lk with⟨hk,_⟩ |⟨_,c',hc',z⟩
  ·rw[hvy] at hk;cases hk
  ·rw[hcy] at hc';cases hc';exact z
 have nca:H1 ca=none:=I1.aHz _ _ hcy;have cab:X.s₀.heap.objs.size<=ca:=I1.ok.cab _ _ hfn hcy;have nst:ca∉frs X.stack:=fun z=>by
  rcases List.mem_cons.mp (I1.aSj ca z) with e | hb
  ·exact I1.cne _ _ hcy e
  ·obtain⟨_,o,ho',_⟩:=I1.ok.aRq.mem hb
   exact absurd (Q2 (Qo ho') cab) (Jn _)
 have e0:=I1.env0;have e0':bDi X.prog X.w X.K X.mg X.base X.A X.stack s1 (upd H1 ca (.frz ob (.own ca))):=⟨e0.frames,e0.mod,fun b o q=>⟨(e0.bs b o q).1,by
   rw[aAv (fun z=>by
    have:=Q2 (Qo q) I1.ok.bsz;rw[z] at this;omega)]
   exact (e0.bs b o q).2⟩,e0.bsz,e0.aRq,fun b hb=>by
   have nb:b≠ca:=fun z=>nst (by rw[<-z];exact hb)
   rw[aAv nb];exact e0.frf b hb,aVm e0.hok nca ho,e0.bare⟩
 have sm1:Same H1 (upd H1 ca (.frz ob (.own ca))):=aA5 nca _;have hT1:upd H1 ca (.frz ob (.own ca)) T=some (.tbl (false,aN6,c.qual)):=sm1 _ _ (I1.base.aLs _ _ hT);have il:IsL X.K (upd H1 ca (.frz ob (.own ca))) [d1,.clo c d] [v1,.ref f]:=by
  refine .cons (i1.mono sm1) (.cons (.clo (v:=v) ?_ (iv.mono sm1)) .nil);obtain⟨cd,T',doc,pm,ctv,oc,y1,y2,y3⟩:=hm.mono (sm.trans sm1);exact⟨ca,cd,T',doc,pm,ctv,u,oc,ob,y1,y2,y3,aAy,hdo,ru⟩
 have hn2:2=ps.length:=by
  cases z:F [d1,.clo c d] with
  | none=>rw[z] at q;exact Qd q
  | some z'=>exact hl _ z' z
 have hbb:=g3 s1 us I1.kIn (by rw[Z3,<-rv.length];exact hn2);rw[Z3] at hbb;have smd: ∀{H':Hp},H' ca=some (.frz ob (.own ca))->Same (upd H1 ca (.frz ob (.own ca))) H'->Same H1 (hid H' ca):=fun {H'} z1 z b o qb=>by
  rw[aJc _ (aA7 qb nca)];exact z b o (sm1 b o qb)
 have hsp:spD X.K ps.length F [v1,.ref f] (upd H1 ca (.frz ob (.own ca))) (fun v' H'=>Same (upd H1 ca (.frz ob (.own ca))) H'/\∃r',F [d1,.clo c d]=some (.ok r')/\Is X.K H' r' v') (fun cv a H'=>Same (upd H1 ca (.frz ob (.own ca))) H'/\∃x,cv= .ref x/\F [d1,.clo c d]=some (.error x)):=by
  refine⟨_,il,hn2,?_⟩;cases z:F [d1,.clo c d] with
  | none=>rw[z] at q;exact Qd q
  | some z'=>
   cases z' with
   | error x=>exact fun H' e=>⟨e,x,rfl,rfl⟩
   | ok r'=>exact fun v' H' e i'=>⟨e,r',rfl,i'⟩
 have fin: ∀r s',CR (CXD X.prog X.w) X.stack X.prog X.w H1 s1 (fun v' H'=>Q v' H') (fun cv a H'=> ∃x,cv= .ref x/\Same H1 H'/\Thr X σ H1 x) r s'->(match r with | .ok (.ret u)=>EP X pins σ Q u s' | .ok _=>False | .error e=>X.xe e s'):=fun r s' hq=>by
  cases r with
  | error e=>
   obtain⟨x,ea,H',ee,os,bare,un,fl,x',ec,sm',th⟩:=hq;cases ec;exact th pins s' H' e sm' ⟨ea,ee,.inr ⟨s1,H1,I1,os,bare,un,fl⟩⟩
  | ok fl=>
   cases fl with
   | ret u=>exact I1.after hq
   | next=>exact Qd hq
   | brk=>exact Qd hq
   | cont=>exact Qd hq
 refine wpAny_call (Jc (g4.run X.A X.stack s1 _ ⟨us,[]⟩ us [v1,.ref f] _ _ hr e0' hbb rv ⟨hT1,hsp⟩) fun r s' hq=> ?_);have hq':=fin r s' (bK9 nca ho nst (fun v' H' z1 ⟨z2,r',z3,z4⟩=>by
   rw[z3] at q;have q:r'.imm=true/\∀v H',Same H H'->Is X.K H' r' v->Q v H':=q;exact q.2 v' _ (sm.trans (smd z1 z2)) (z4.tups (fun b xs qb=>aGj z1 qb fun _ z=>by cases z) q.1)) (fun cv a H' z1 ⟨z2,x,ex,z3⟩=>by
   rw[z3] at q;exact⟨x,ex,smd z1 z2,Thr.mono sm q⟩) hq)
 cases r with
 | error e=>exact hq'
 | ok fl=>
  cases fl with
  | ret u=>exact hq'
  | next=>exact Qd hq'
  | brk=>exact Qd hq'
  | cont=>exact Qd hq'
end
theorem Rel.bD8 {K:Qa}{B H:Hp}{ρ:Rho}{σ:St}{i:Nat}{x:Option V}(q:ρ[i]? =some none)(r:Rel K B ρ σ H):Rel K B ρ (σ.set i x) H:=by
 obtain⟨O,h1,ho,h2,hl,h3⟩:=r;refine⟨O,h1,ho,h2,by rw[Q3,hl],fun j sv qj=> ?_⟩;have e:j≠i:=fun z=>by rw[z,q] at qj;cases qj
 have g:(σ.set i x)[j]? =σ[j]? :=Qh (Ne.symm e);have z:=h3 j sv qj;cases sv with
 | sh d=>obtain⟨v,e1,e2⟩:=z;exact⟨v,g.trans e1,e2⟩
 | own ds=>obtain⟨a,vs,e1,e2,e3⟩:=z;exact⟨a,vs,e1,g.trans e2,e3⟩
 | oin a C dx fs=>obtain⟨e1,e2,e3⟩:=z;exact⟨e1,g.trans e2,e3⟩
 | ow o=>obtain⟨a,w,e1,e2,e3⟩:=z;exact⟨a,w,e1,g.trans e2,e3⟩
 | tk ks=>obtain⟨a,e1,e2⟩:=z;exact⟨a,g.trans e1,e2⟩
 | nl kd ls=>exact NL.move (by rw[Q3]) g (fun m b w _ e1 e2=>⟨e1,e2⟩) (Same.refl _) z
section
variable {X:Cx}{B:Hp}{c:Clo}{c0 ca T:Addr}{aN6 p1 p2 pos rpos:Pos}{it iy k:Nat}{g:Str}{F:List D->M D}{fa:Rho->M D}{e1:Expr}
theorem bPu (hT:X.H₀ T=some (.tbl (false,aN6,c.qual)))(hN:X.N.Nodup)(hit:X.N[it]? =some c.nm)(hlt:X.env.scope.names.lookup c.nm=some .local)(hcl:closureFor c.scope X.env=pure [(c.y,ca)])(hcode:X.env.code= .ref c0)(hC:Jp X.base c0 T)(hB:Blt X.mg X.base)
  (hq:qualnameIn X.env c.nm c.nm=c.qual) (hd0:c.pr.defaults=[]) (hk0:c.pr.kw_defaults=[]) (ha:annTrees c.pr none X.env=[]):
  PS X (.FunctionDef c.nm c.pr c.body [] none [] c.scope none c.nm aN6) (fun D σ H=> ∀f H',Same H H'->aQa H' f ca c->D.nx (σ.set it (some (.ref f))) H'):=by
 intro pins s σ H D I h;refine PySem.W.nestDef_K hd0 hk0 ha ?_;rw[hq];exact bF5 I hcl hcode hC hB (I.base.aLs _ _ hT) fun f s' H' I' sm hm=>aJ5 (v:= .ref f) I' hN hit (.inl hlt) rfl (fun s'' I''=>⟨_,_,I'',h f H' sm hm⟩) (.inr hlt)
theorem bAt (G:aKs X.prog X.w X.K X.mg X.base T (false,aN6,c.qual) k g F)(hT:X.H₀ T=some (.tbl (false,aN6,c.qual)))(hr:aFz k X.A)(hcode:X.env.code= .ref c0)(hC:Jp X.base c0 T)(hB:Blt X.mg X.base)(hN:X.N.Nodup)(hit:X.N[it]? =some c.nm)(hiy:X.N[iy]? =some c.y)(hcy:X.env.cells.lookup c.y=some ca)(he:PD X B e1 fa)
  (hg:Gl X g:=by rfl) (hlt:X.env.scope.names.lookup c.nm=some .local:=by rfl) (hvy:X.env.kindOf c.y=some .cell:=by rfl) (hfn:X.fn c.y=true:=by rfl) (hcl:closureFor c.scope X.env=pure [(c.y,ca)]:=by rfl)
  (hq:qualnameIn X.env c.nm c.nm=c.qual:=by rfl) (hd0:c.pr.defaults=[]:=by rfl) (hk0:c.pr.kw_defaults=[]:=by rfl) (ha:annTrees c.pr none X.env=[]:=by rfl)
  (hd:(c.nm==("__debug__":Str))=false:=by decide) (hcd:(c.nm==("__classdict__":Str))=false:=by decide) (hdb:(g==("__debug__":Str))=false:=by decide) (hst:Qu [e1,.Name c.nm p2] X.env=[(false,eval e1 X.env),(false,eval (.Name c.nm p2) X.env)]:=by exact aOb rfl rfl) (hst2:Qu [.Name c.nm p2] X.env=[(false,eval (.Name c.nm p2) X.env)]:=by exact aHy rfl):
  PDB X B [.FunctionDef c.nm c.pr c.body [] none [] c.scope none c.nm aN6,.Return (some (.Call (.Name g p1) [e1,.Name c.nm p2] [] pos)) rpos] (aZ3 c it iy F fa):=by
 refine PSs.of (aQu (bPu (it:=it) hT hN hit hlt hcl hcode hC hB hq hd0 hk0 ha) (aQu (bGu (bEf (B:=B) (it:=it) (iy:=iy) G hT hr hg hit (.inl hlt) hiy hvy hfn hcy he hd hcd hdb hst hst2)) bAh)) fun E σ H h=> ?_
 obtain⟨ρ,r,h⟩:=h;unfold aZ3 at h;split at h
 ·rename_i d q1 q2
  intro f H' sm hm;have r2:Rel X.K B ρ (σ.set it (some (.ref f))) H':=(r.bD8 q1).mono sm;have hi:it<σ.length:=by
   obtain⟨_,_,_,_,hl,_⟩:=r;rw[<-hl];exact (List.getElem?_eq_some_iff.mp q1).1
  refine⟨ρ,d,f,r2,q2,Q6 hi,hm,(Res.bind (aCh r2 h)).imp fun d1 h1=>h1.imp fun r' h2=> ?_⟩;split at h2
  ·rename_i him
   exact⟨him,fun v H2 e2 i2=>h2 v H2 (r2.kept.trans e2) i2⟩
  ·exact Qd h2
 ·exact Qd h
end
section
variable {X:Cx}{B:Hp}{scope:Scope}{cl:List (Str×Addr)}{N':List Str}{m:Nat}{tg iter:Expr}{pos:Pos}{ks:List Nat}{G:D->Option (List D)}{xt:Str}{p apos cpos:Pos}
theorem bF2 (hclos:closureFor scope X.env=pure cl)(hcell: ∀y∈scope.names,y.2≠ .cell)(hkind:scope.kind= .function)(hnames: ∀y∈scope.names,y.2= .local->scope.names.lookup y.1=some .local)(hcl:aOp cl X.env=true)
  (hnm:aYc X.N N' (relabel scope X.env)=true) (hf:aVu cl (relabel scope X.env)=true) (hl:N'.length=X.N.length+m) (hks: ∀k∈ks,X.N.length<=k) (hcm:X.calm=true)
  (hg: ∀C s₀ H₀ ex,PDH (cxC X scope cl N' C s₀ H₀ ex) tg ks G) (hG: ∀d,∃es,G d=some es) (hs: ∀x,Zp iter X.env x=pure x) {j0:Nat} (hj0:j0<X.N.length) (hN':N'[j0]? =some xt) (hv': ∀C s₀ H₀ ex,Vis (cxC X scope cl N' C s₀ H₀ ex).env.scope xt)
  (hd:(xt==("__debug__":Str))=false) (hcd:(xt==("__classdict__":Str))=false) (hbase: ∀C s₀ H₀ ex,attributeBase (.Name xt p) "pop" (cxC X scope cl N' C s₀ H₀ ex).env (eval (.Name xt p) (cxC X scope cl N' C s₀ H₀ ex).env)=eval (.Name xt p) (cxC X scope cl N' C s₀ H₀ ex).env) (hline:(apos.endLine==cpos.line)=true)
  {p0:Pos} {use:Option (Qc->Sem Unit)} {Q':Qc->Qe->Prop} {pins:List (Addr×Obj)} {s:Qe} {σ:St} {H:Hp} {l:Addr} {ws:List V} {n:Nat} (I:Inv X pins σ H s) (hσ:σ[j0]? =some (some (.ref l))) (hw:H l=some (.lst ws)) (hn:n<=ws.length) (hn2:ws.length<=100000)
  (hi:Qs (Qp X.prog X.w) X.A (eval iter X.env) (fun v s1=>Qs (Qp X.prog X.w) X.A (pyIter v) (PIE X pins σ tg fun J H1=>J=Itr 0 n/\Same H H1) X.xe s1) X.xe s)
  (fin: ∀(Dd Cc:Addr) (s3:Qe) (Hj:Hp),(∀h',Yw Cc s3.heap h'->Inv X pins σ Hj {s3 with heap:=h'})->(∃m,s3.heap.Ns Cc m)->bQ2 X pins Cc->Hj Cc=none->Same (upd H l (.lst (ws.take (ws.length-n)))) Hj->H Dd=none->Hj Dd=some (.lst (ws.drop (ws.length-n)).reverse)->
   compPost (Qp X.prog X.w) X.A X.xe use Q' (.ref Dd) Cc (.ok .next) s3):
  Qs (Qp X.prog X.w) X.A (comprehension (.ListComp (.Call (.Attribute (.Name xt p) "pop" apos) [] [] cpos) [⟨tg,iter,[],0⟩] scope pos) scope X.env p0 (newList []) false (eval iter X.env) use) Q' X.xe s:=by
 refine wpAny_comprehension_free (use:=use) rfl hs hclos hkind hnames ?_;show Qs (Qp X.prog X.w) X.A (eval iter X.env) _ X.xe s;refine thn hi fun v s1 h1=>thn h1 fun itv s2 h2=> ?_
 obtain⟨ia,fp,tn,J,H2,rfl,I2,T,st2,f2,rfl,e1⟩:=h2;have hw2:=e1 _ _ hw;have fpl: ∀b∈fp,b<s2.heap.objs.size:=fun b hb=>let ⟨o,ho,_⟩:=T.obj 0 _ st2 b hb;Qo ho
 refine Yp (wpAny_newFunctionEnv hcell (by intro y hy;simp at hy) (fun h₁ hns₁ hsb₁=> ?_) hkind)
 dsimp only at hns₁ hsb₁⊢
 have I0:Inv X pins σ (upd H2 s2.heap.objs.size (.lst [])) {s2 with heap:=s2.heap.push {cls:= .type "list",dict:=none,data:= .seq ([]:List Qc).toArray}}:=I2.bP8 (t':=s2.toks) (its:=[]) .nil (Ye _);have hsz:(s2.heap.push {cls:= .type "list",dict:=none,data:= .seq ([]:List Qc).toArray}).objs.size=s2.heap.objs.size+1:=Heap.size_push _ _;generalize hP:s2.heap.push {cls:= .type "list",dict:=none,data:= .seq ([]:List Qc).toArray}=P2 at hns₁ hsb₁ I0 hsz⊢;generalize hD:s2.heap.objs.size=Dd at*;generalize hC:P2.objs.size=Cc at*;have bSk:Dd≠Cc:=by omega
 have bJ9: ∀b o,P2.get? b=some o->h₁.get? b=some o:=fun b o e=>hsb₁.extBut b o (Q1 (by rw[<-hC];exact Qo e)) (Qg _ e)
 have bJ8: ∀b o,s2.heap.get? b=some o->P2.get? b=some o:=fun b o e=>by rw[<-hP];exact Qg _ e
 have nD2:H2 Dd=none:=I2.hok.fresh (by omega);have nC2:H2 Cc=none:=I2.hok.fresh (by omega);have neL:l≠Dd:=aA7 hw2 nD2;have sm0:Same H2 (upd H2 Dd (.lst [])):=aA5 nD2 _;have fp0: ∀b∈fp,bC6 X pins (upd H2 Dd (.lst [])) b/\b<P2.objs.size:=fun b hb=>by
  have hb':=fpl b hb;obtain⟨f0,f1⟩:=f2 b hb;exact⟨⟨by rw[aAv (Q1 hb')];exact f0,f1⟩,by rw[hC,hsz];exact Ul hb'⟩
 have IC:=aP6 (tk:=s2.toks+([]:List (Str×Qc)).length) I0 hkind hcl hnm hf hl fp0 bJ9 (by rw[hC];exact hns₁);rw[hC] at IC;have loop: ∀s₄:Qe,s₄={s2 with heap:=h₁,toks:=s2.toks+([]:List (Str×Qc)).length}->
   codeAny (Qp X.prog X.w) X.A (.compLoop (.ListComp (.Call (.Attribute (.Name xt p) "pop" apos) [] [] cpos) [⟨tg,iter,[],0⟩] scope pos) 0 (.ref ia) (.ref Dd) (compEnvC scope cl Cc X.env)) (compPost (Qp X.prog X.w) X.A X.xe use Q' (.ref Dd) Cc) s₄:=by
  rintro s₄ rfl
  refine aGy (fun k s'=> ∃j Hj,k=n+1-j/\j<=n/\Inv (cxC X scope cl N' Cc {s2 with heap:=P2} (upd H2 Dd (.lst [])) fp) [] (σ++Q9 m none) Hj s'/\tn j s'.heap/\(∀b∈fp,Hj b=none)/\
   Hj Dd=some (.lst (ws.drop (ws.length-j)).reverse)/\Hj l=some (.lst (ws.take (ws.length-j)))/\∀b o,b≠l->H2 b=some o->Hj b=some o) ?_ (n+1)
   ⟨0,_,rfl,Ye _,IC,T.keep _ _ _ st2 fun b hb o e=>bJ9 _ _ (bJ8 _ _ e),fun b hb=>(fp0 b hb).1.1,by rw[aAy,Ud,List.drop_length];rfl,by rw[aAv neL,Ud,Wg];exact hw2,fun b o _ q=>sm0 b o q⟩
  rintro k s' ⟨j,Hj,rfl,hj,IJ,stj,frj,hDj,hLj,smj⟩
  have fpX: ∀{H':Hp},(∀b∈fp,H' b=none)->∀b∈fp,bC6 (cxC X scope cl N' Cc {s2 with heap:=P2} (upd H2 Dd (.lst [])) fp) [] H' b:=fun hn b hb=>
   ⟨hn b hb,(IJ.ok.exf b hb).1,IJ.ok.bFs b hb,.inl hb,(IJ.ok.exf b hb).2,(fun p hp=>by cases hp)⟩
  by_cases hlt:j<n
  ·refine thn (T.item (cxC X scope cl N' Cc {s2 with heap:=P2} (upd H2 Dd (.lst [])) fp) rfl rfl rfl hcm j [] s' _ Hj (fun _ _=>False) IJ (fpX frj) stj hlt) fun r s3 ⟨u,hr,h4⟩=> ?_
   subst hr;refine thn h4 fun _ s5 ⟨xv,H5,I5,r5,y5,st5,fr5⟩=> ?_
   obtain⟨rfl,rfl⟩:=y5;obtain⟨es,hGe⟩:=hG (.int (0+(j:Int)));have I5':=I5.pinned (fpX fr5) (T.obj _ _ st5);rw[List.nil_append] at I5';refine thn (hg Cc {s2 with heap:=P2} (upd H2 Dd (.lst [])) fp _ s5 _ H5 _ u (fun σ6 H6=>H6=H5/\∃vs',σ6=aUd (σ++Q9 m none) ks vs') I5' r5 ⟨.int (0+(j:Int)),es,.int _,hGe,fun vs' iv' _=>⟨rfl,vs',rfl⟩⟩) fun _ s6 ⟨σ6,H6,I6,q6⟩=> ?_
   obtain⟨rfl,vs',rfl⟩:=q6;refine wpAny_tests_nil ?_;rw[if_pos rfl];have hσ6:(aUd (σ++Q9 m none) ks vs')[j0]? =some (some (.ref l)):=by
    rw[aMm (fun hi=>absurd (hks j0 hi) (by omega)),Ze (by rw[I2.len];exact hj0)];exact hσ
   have hlen:(ws.take (ws.length-j)).length=ws.length-j:=by rw[Za];omega
   have hy:(ws.take (ws.length-j))[(ws.take (ws.length-j)).length-1]? =some (ws[ws.length-j-1]'(by omega)):=by
    rw[hlen,Um (by omega),Qj (by omega)]
   have hdl:(ws.take (ws.length-j)).dropLast=ws.take (ws.length-(j+1)):=by
    rw[Uz,hlen,List.take_take,show min (ws.length-j-1) (ws.length-j)=ws.length-(j+1) by omega]
   have hdr:ws.drop (ws.length-(j+1))=(ws[ws.length-j-1]'(by omega))::ws.drop (ws.length-j):=by
    rw[show ws.length-(j+1)=ws.length-j-1 by omega,Jv (by omega),show ws.length-j-1+1=ws.length-j by omega]
   refine thn (bAl Jb Wu Wt bG7 (aHo hN' (hv' Cc {s2 with heap:=P2} (upd H2 Dd (.lst [])) fp) hd hcd) (hbase Cc {s2 with heap:=P2} (upd H2 Dd (.lst [])) fp) hline _ s6 _ H6 (fun v8 H8=>v8=ws[ws.length-j-1]'(by omega)/\H8=upd H6 l (.lst (ws.take (ws.length-(j+1))))) I6 ⟨_,hσ6,.inl ⟨rfl,_,SqL.of hLj⟩,l,_,_,rfl,rfl,hLj,hy,rfl,by rw[hdl]⟩) fun u8 s8 ⟨v8,H8,I8,rv8,ev8,eH8⟩=> ?_
   subst eH8 ev8;have hD8:upd H6 l (.lst (ws.take (ws.length-(j+1)))) Dd=some (.lst (ws.drop (ws.length-j)).reverse):=by rw[aAv (Ne.symm neL)];exact hDj
   refine thn (aNj _ s8 _ _ (.ref Dd) [ws[ws.length-j-1]'(by omega)] (.ref Dd) [u8] (fun v9 H9=>H9=upd (upd H6 l (.lst (ws.take (ws.length-(j+1))))) Dd (.lst ((ws.drop (ws.length-j)).reverse++ [ws[ws.length-j-1]'(by omega)]))) I8 rfl (.cons rv8 .nil) ⟨Dd,_,_,rfl,rfl,hD8,by rw[U7,Z5];have:=sizeLine_eq;omega,rfl⟩) fun u9 s9 ⟨v9,H9,I9,_,e9⟩=> ?_
   have pin: ∀b∈fp,∀o,s5.heap.get? b=some o->s9.heap.get? b=some o/\H9 b=none:=fun b hb o e=>
    let z:=I9.pin (b,o) (Zd _ (aIq hb e));⟨z.1,z.2.1⟩
   refine⟨n+1-(j+1),by omega,j+1,H9,rfl,hlt,?_,T.keep _ _ _ st5 fun b hb o e=>(pin b hb o e).1,fun b hb=> ?_,?_,?_,fun b o nb q=> ?_⟩
   ·have I10:Inv (cxC X scope cl N' Cc {s2 with heap:=P2} (upd H2 Dd (.lst [])) fp) [] (aUd (σ++Q9 m none) ks vs') H9 s9:=I9.aQw (fun p hp=>by cases hp)
    refine I10.weak (by rw[aJn]) fun i v e=> ?_
    rw[aMm]
    ·exact e
    ·intro hi
     have:=hks i hi;rw[Zi (by rw[I2.len];exact this),Yd] at e;split at e<;>cases e
   ·obtain⟨o,ho,_⟩:=T.obj _ _ st5 b hb
    exact (pin b hb o ho).2
   ·rw[e9,aAy,hdr,Y0]
   ·rw[e9,aAv neL,aAy]
   ·rw[e9,aAv (aA7 q nD2),aAv nb]
    exact smj b o nb q
  ·have ej:j=n:=by omega
   subst ej;refine thn (T.done (cxC X scope cl N' Cc {s2 with heap:=P2} (upd H2 Dd (.lst [])) fp) rfl rfl rfl hcm j [] s' _ Hj (fun _ _=>False) IJ (fpX frj) stj (Qr _)) fun r s3 ⟨hr,I3⟩=> ?_
   subst hr;obtain⟨mm,hmm,_⟩:=I3.loc;have nCj:Hj Cc=none:=I3.free;have zC:=I2.bHl (b:=Cc) (H':=H2) (by rw[hD,hsz];exact J2 _) nC2;refine fin Dd Cc s3 Hj ?_ ⟨mm,hmm⟩ ⟨zC.2.2.2.1,zC.2.1,zC.2.2.2.2.1,zC.2.2.2.2.2⟩ nCj (fun b o q=> ?_) (none_of e1 nD2) hDj
   ·intro h' hsb
    have U1:Un (frs X.stack) (Cc::fp) H2 (upd H2 Dd (.lst [])) s2.heap P2:=Un.laid bJ8 (by rw[hD];exact Qr _) nD2;have U2:Un (frs X.stack) (Cc::fp) (upd H2 Dd (.lst [])) Hj P2 s3.heap:=I3.base.mono (fun _ z=>z) (fun b z=>Qm _ z);have kp: ∀b o,b≠Cc->s3.heap.get? b=some o->h'.get? b=some o:=fun b o hb e=>hsb.extBut b o hb e
    have nc: ∀b,b∉Cc::fp->b≠Cc:=fun b hb z=>hb (by rw[z];exact Qq)
    have U3:Un (frs X.stack) (Cc::fp) Hj Hj s3.heap h':=⟨fun b o e _ _ hx=>kp b o (nc b hx) e,fun b o e _ _ hx=>⟨o.slots,kp b o (nc b hx) e⟩,fun _ _ _ n _=>n,fun b o e hx=>⟨o,kp b o (nc b hx) e⟩,fun _ _ e=>e,fun _ _ _ e=>e,fun b ps e=>e⟩;have hok':HOk X.prog X.w Hj h':=fun b u e=>(I3.hok b u e).stay (fun c v hc q=>kp c v (fun z=>by
     rcases hc with hc | hc
     ·rw[hc] at z;rw[z,nCj] at e;cases e
     ·rw[z,nCj] at hc;cases hc) q) (fun _ q=>q) fun _ _ q=>q
    exact I2.call' (ch:=Cc::fp) I3.os ((U1.trans U2).trans U3) hok' I3.bare fun b hb=>by
     rcases List.mem_cons.mp hb with rfl | hb
     ·have z:=I2.bHl (b:=b) (H':=H2) (by rw[hD,hsz];exact J2 _) nC2
      exact⟨z.2.2.2.1,z.2.1,z.2.2.2.2.1,z.2.2.2.2.2⟩
     ·obtain⟨z0,z1,z2,z3,z4,z5⟩:=f2 b hb
      exact⟨z3,z1,z4,z5⟩
   ·by_cases hb:b=l
    ·subst hb;rw[aAy] at q;cases q;exact hLj
    ·rw[aAv hb] at q;exact smj b o hb (e1 _ _ q)
 exact codeAny_compStart_list (loop _ rfl) (T.self _ 0 _ _ _ (T.keep _ _ _ st2 fun b hb o e=>bJ9 _ _ (bJ8 _ _ e)) (loop _ rfl))
end
open Classical in
def onO (H:Hp)(O:Nat->Option Addr)(H':Hp):Hp:=fun b=>if∃i,O i=some b then H b else H' b
theorem aSy {H H':Hp}{O:Nat->Option Addr}{b:Addr}{i:Nat}(h:O i=some b):onO H O H' b=H b:=by unfold onO;rw[if_pos ⟨i,h⟩]
theorem aG4 {H H':Hp}{O:Nat->Option Addr}{b:Addr}(h: ∀i,O i≠some b):onO H O H' b=H' b:=by unfold onO;rw[if_neg (fun⟨i,e⟩=>h i e)]
def bK4 (u:HO):Prop:=(∃xs,u= .lst xs)\/(∃kvs,u= .dK kvs)\/∃kvs,u= .dT kvs
def bGf (H:Hp)(O:Nat->Option Addr):Prop:= ∀i a,O i=some a->∃u,H a=some u/\bK4 u
section
variable {P:Qv}{w:Q8}{outer:List Env}{s s':Qe}{H H':Hp}{O:Nat->Option Addr}{Q Q':VK}{E E':XK}{r:Result}{h h':Heap}
theorem aDu (ho:bGf H O){b:Addr}{u:HO}(q:H b=some u)(n:¬bK4 u)(i:Nat):O i≠some b:=fun e=>by
 obtain⟨u',h1,h2⟩:=ho i b e;rw[q] at h1;cases h1;exact n h2
theorem bAy (ho:bGf H O){b:Addr}(q:H b=none)(i:Nat):O i≠some b:=fun e=>by
 obtain⟨u',h1,h2⟩:=ho i b e;rw[q] at h1;cases h1
theorem aKl {xs:List V}:¬bK4 (.tup xs):=fun z=>by rcases z with⟨_,z⟩ |⟨_,z⟩ |⟨_,z⟩<;>cases z
theorem bEx {x:Addr}:¬bK4 (.own x):=fun z=>by rcases z with⟨_,z⟩ |⟨_,z⟩ |⟨_,z⟩<;>cases z
theorem aRa {o:Obj}{u:HO}:¬bK4 (.frz o u):=fun z=>by rcases z with⟨_,z⟩ |⟨_,z⟩ |⟨_,z⟩<;>cases z
theorem aQ9 {q:Bool×Pos×Str}:¬bK4 (.tbl q):=fun z=>by rcases z with⟨_,z⟩ |⟨_,z⟩ |⟨_,z⟩<;>cases z
theorem bJ7 (x:HOk P w H h)(ho:bGf H O):HOk P w (Off H O) h:=fun b u q=>
 (x b u (Off.same _ _ b u q)).stay (fun _ _ _ z=>z) (fun c z=>Off.of z fun i=>aDu ho z bEx i) (fun c xs z=>Off.of z fun i=>aDu ho z aKl i) fun c xs z=>Off.of z fun i=>aDu ho z aRa i
theorem aQ7 (ho:bGf H O){b:Addr}(q:H b=none):Off H O b=none:=by
 cases z:Off H O b with
 | none=>rfl
 | some u=>rw[Off.same _ _ b u z] at q;cases q
theorem bA1 {b:Addr}{i:Nat}(e:O i=some b):Off H O b=none:=by unfold Off;rw[if_pos ⟨i,e⟩]
theorem bHg (ho:bGf H O)(x:HOk P w H h)(kp: ∀i a o,O i=some a->h.get? a=some o->h'.get? a=some o)(nf: ∀i a,O i=some a->H' a=none)(tu: ∀b xs,H b=some (.tup xs)->H' b=some (.tup xs))(y:HOk P w H' h'):HOk P w (onO H O H') h':=fun b u q=>by
 by_cases hb: ∃i,O i=some b
 ·obtain⟨i,e⟩:=hb
  rw[aSy e] at q;obtain⟨u',z1,z2⟩:=ho i b e;rw[q] at z1;cases z1;have xx:=x b u q;rcases z2 with⟨xs,rfl⟩ |⟨kvs,rfl⟩ |⟨kvs,rfl⟩
  ·obtain⟨z,its,n,r,e'⟩:=xx;exact⟨z,its,n,r,kp i b _ e e'⟩
  ·obtain⟨z,yy,vs,r,ob,es,ep,e',c⟩:=xx;exact⟨z,yy,vs,r,ob,es,ep,kp i b _ e e',c⟩
  ·obtain⟨z,yy,xs,r,ob,es,ep,e',c⟩:=xx
   exact⟨z,yy,xs,Paired.bOz r fun p q z=>⟨z.1,by rw[aG4 fun j=>aDu ho z.2.1 aKl j];exact tu _ _ z.2.1,z.2.2⟩,ob,es,ep,kp i b _ e e',c⟩
 ·have hb': ∀i,O i≠some b:=fun i e=>hb ⟨i,e⟩
  rw[aG4 hb'] at q;have out: ∀c u,H' c=some u->onO H O H' c=some u:=fun c u z=>by
   rw[aG4 fun i e=>by rw[nf i c e] at z;cases z];exact z
  exact (y b u q).stay (fun _ _ _ z=>z) (fun c z=>out c _ z) (fun c xs z=>out c _ z) fun c xs z=>out c _ z
theorem bLj (ho:bGf H O)(un:Un (frs outer) [] (Off H O) H' h h'):Un (frs outer) [] H (onO H O H') h h':=by
 have no: ∀b,H b=none->Off H O b=none:=fun b q=>aQ7 ho q
 refine⟨fun b o q n hb hx=>un.keep b o q (no b n) hb hx,fun b o q n hb hx=>un.slot b o q (no b n) hb hx,fun b o q n hx=> ?_,fun b o q hx=>un.there b o q hx,fun b xs q=> ?_,fun b o u q=> ?_,fun b ps q=> ?_⟩
 ·rw[aG4 (bAy ho n)];exact un.free b o q (no b n) hx
 ·rw[aG4 fun i=>aDu ho q aKl i];exact un.tups b xs (Off.of q fun i=>aDu ho q aKl i)
 ·rw[aG4 fun i=>aDu ho q aRa i];exact un.aOy b o u (Off.of q fun i=>aDu ho q aRa i)
 ·rw[aG4 fun i=>aDu ho q aQ9 i];exact un.aLs b ps (Off.of q fun i=>aDu ho q aQ9 i)
theorem bIe {a:Addr}{u:HO}(q:bK4 u)(x:aCe P w H h a u): ∃o,h.get? a=some o:=by
 rcases q with⟨xs,rfl⟩ |⟨kvs,rfl⟩ |⟨kvs,rfl⟩
 ·obtain⟨z,its,n,r,e'⟩:=x;exact⟨_,e'⟩
 ·obtain⟨z,yy,vs,r,ob,es,ep,e',c⟩:=x;exact⟨_,e'⟩
 ·obtain⟨z,yy,xs,r,ob,es,ep,e',c⟩:=x;exact⟨_,e'⟩
theorem bQ7 (ho:bGf H O)(hok:HOk P w H s.heap)(hfr: ∀b∈frs outer,H b=none)(hQ: ∀v H',(∀i a,O i=some a->H' a=none)->Q' v H'->Q v (onO H O H'))(hE: ∀c a H',(∀i a,O i=some a->H' a=none)->E' c a H'->E c a (onO H O H'))
  (x:CR (CXD P w) outer P w (Off H O) s Q' E' r s'):CR (CXD P w) outer P w H s Q E r s':=by
 have ex: ∀i a,O i=some a->(∃o,s.heap.get? a=some o)/\a∉frs outer:=fun i a e=>by
  obtain⟨u,h1,h2⟩:=ho i a e;exact⟨bIe h2 (hok a u h1),fun z=>by rw[hfr a z] at h1;cases h1⟩
 have nf: ∀{H':Hp} {h':Heap},Un (frs outer) [] (Off H O) H' s.heap h'->∀i a,O i=some a->H' a=none:=fun un i a e=>by
  obtain⟨⟨o,z⟩,_⟩:=ex i a e;exact un.free a o z (bA1 e) (by simp)
 have kp: ∀{H':Hp} {h':Heap},Un (frs outer) [] (Off H O) H' s.heap h'->∀i a o,O i=some a->s.heap.get? a=some o->h'.get? a=some o:=fun un i a o e z=>un.keep a o z (bA1 e) (ex i a e).2 (by simp)
 have tu: ∀{H':Hp} {h':Heap},Un (frs outer) [] (Off H O) H' s.heap h'->∀b xs,H b=some (.tup xs)->H' b=some (.tup xs):=fun un b xs q=>un.tups b xs (Off.of q fun i=>aDu ho q aKl i)
 cases r with
 | error e=>
  obtain⟨c,ea,H',ee,os,bare,un,⟨Bs,a0,fl,old,hok'⟩,q⟩:=x;exact⟨c,ea,_,ee,os,bare,bLj ho un,⟨Bs,a0,fl,old,bHg ho hok (fun i a o e z=>old a o o z (ex i a e).2 (kp un i a o e z)) (nf un) (tu un) hok'⟩,hE _ _ _ (nf un) q⟩
 | ok fl=>
  cases fl with
  | ret u=>
   obtain⟨v,H',os,bare,un,hok',rv,q⟩:=x;exact⟨v,_,os,bare,bLj ho un,bHg ho hok (kp un) (nf un) (tu un) hok',rv,hQ _ _ (nf un) q⟩
  | next=>exact Qd x
  | brk=>exact Qd x
  | cont=>exact Qd x
end
def bJk (ρ:Rho):Bool:=ρ.all fun o=>match o with | some (.oin _ _ _ _)=>false | some (.nl _ _)=>false | _=>true
theorem bJj {ρ:Rho}(h:bJk ρ=true):bOw ρ=true:=by
 unfold bJk at h;unfold bOw;rw[Yt] at h⊢;intro o ho;have:=h o ho;cases o with
 | none=>rfl
 | some sv=>cases sv<;>first | rfl |(cases this;done)
theorem bI8 {K:Qa}{H:Hp}{ρ:Rho}{σ:St}{O:Nat->Option Addr}(h:bJk ρ=true)(h3: ∀i sv,ρ[i]? =some (some sv)->Slot K H O σ i sv)(h4: ∀j a,O j=some a->ownAt ρ j=true):bGf H O:=fun i a e=>by
 have hj:=h4 i a e;unfold ownAt at hj;split at hj
 ·rename_i es q
  obtain⟨b,ws,z1,z2,z3,z4⟩:=h3 i _ q;rw[e] at z1;cases z1;exact⟨_,z3,.inl ⟨_,rfl⟩⟩
 ·rename_i b C dx fs q
  have:=List.all_eq_true.mp h _ (Zx q);cases this
 ·rename_i o q
  obtain⟨b,ww,z1,z2,z3,z4⟩:=h3 i _ q;rw[e] at z1;cases z1;refine⟨_,z3,?_⟩;cases o<;>cases ww<;>first | exact Qd z4 | skip
  ·exact .inr (.inl ⟨_,rfl⟩)
  ·exact .inr (.inr ⟨_,rfl⟩)
 ·cases hj
section
variable {X:Cx}{B:Hp}{T:Addr}{pq:Bool×Pos×Str}{k:Nat}{Φ:D->List D->M D}{x f:Str}{p pos pos' cpos:Pos}{e:Expr}{es:List Expr}{ga:Rho->M (List D)}{i j:Nat}
def bQ1 (K:Qa)(B:Hp)(ρ:Rho)(σ:St)(H:Hp)(d:D)(v:V):Prop:= ∃O:Nat->Option Addr,(∀i j a,O i=some a->O j=some a->i=j)/\aSb H O/\Same B (Off H O)/\ρ.length=σ.length/\(∀i sv,ρ[i]? =some (some sv)->Slot K H O σ i sv)/\Is K (Off H O) d v
theorem bEj (G:aO8 X.prog X.w X.K X.mg X.base T pq k Φ)(hT:X.H₀ T=some (.tbl pq))(hr:aFz k X.A)(ha:PDA X B (e::es) ga)(hN:X.N[j]? =some f)(hv:Vis X.env.scope f)
  (hd:(f==("__debug__":Str))=false) (hcd:(f==("__classdict__":Str))=false) (he:Qu (e::es) X.env=(false,eval e X.env)::Qu es X.env) (hpl:(backTo pos (Qu es X.env)).any (·.1)=false):
  PE X (.Call (.Name f p) (e::es) [] pos) (fun σ H Q=> ∃ρ dv,Rel X.K B ρ σ H/\ρ[j]? =some (some (.sh dv))/\dv.fnl=true/\bJk ρ=true/\Res X σ H (fun ds=>aCo ds=true/\Res X σ H (fun d=> ∀v H',bQ1 X.K B ρ σ H' d v->Q v H') (Φ dv ds)) (ga ρ)):=by
 intro pins s σ H Q I h;obtain⟨ρ,dv,r,qd,hf,no,h⟩:=h;obtain⟨v,e1,e2⟩:=r.get qd;have e2:Is X.K H dv v:=e2;obtain⟨fa,rfl⟩: ∃f,v= .ref f:=by
  cases e2<;>first | exact⟨_,rfl⟩ |(cases hf;done) |(simp[D.fnl] at hf;done)
 refine Yh (thn (aHo hN hv hd hcd pins s σ H (fun v' H'=>v'= .ref fa/\H'=H) I ⟨_,e1,rfl,rfl⟩) fun u s1 ⟨v',H',I1,rv,ev,eH⟩=> ?_);subst ev eH;cases rv;refine aP8 (thn (ha pos pins s1 σ H' (fun vs H1=>Same H' H1/\∃ds,IsL X.K H1 ds vs/\aCo ds=true/\Res X σ H' (fun d=> ∀v H',bQ1 X.K B ρ σ H' d v->Q v H') (Φ dv ds)) I1 ⟨ρ,r,h.imp fun ds h1 vs H1 e1 i1=>⟨e1,ds,i1,h1.1,h1.2⟩⟩) fun us s2 ⟨vs,H1,I2,r2,sm,ds,i1,im,qq⟩=> ?_) he hpl;obtain⟨O,h1,ho,hB,hl,h3,h4⟩:=(r.mono sm).tight (bJj no);have hs:bGf H1 O:=bI8 no h3 h4;obtain⟨v',y1,y2⟩:=h3 j _ qd;have y2:Is X.K (Off H1 O) dv (.ref fa):=by
  rw[e1] at y1;cases y1;exact y2
 obtain⟨z,hz⟩: ∃z,Φ dv ds=some z:=by
  cases hz:Φ dv ds with
  | none=>rw[hz] at qq;exact Qd qq
  | some z=>exact⟨z,rfl⟩
 refine⟨?_,?_⟩
 ·cases dv with
  | fn a=>
   cases y2;obtain⟨oc,od,fd,osl,hk⟩:=G.1 fa ds z hz;exact⟨oc,od,fd,osl,I2.kIn _ _ hk⟩
  | clo c d=>
   cases y2 with
   | clo hca ir=>
    obtain⟨ca,cd,T',doc,pm,ctv,u,oc,ob,g1,_⟩:=hca;obtain⟨o1,_⟩:=(show aCe X.prog X.w H1 s2.heap fa _ from I2.hok fa _ (Off.same _ _ _ _ g1));exact⟨_,_,_,_,o1⟩
  | _=>simp[D.fnl] at hf
 ·have e0:=I2.env0
  have e0':bDi X.prog X.w X.K X.mg X.base X.A X.stack s2 (Off H1 O):=⟨e0.frames,e0.mod,fun b o q=>⟨(e0.bs b o q).1,aQ7 hs (e0.bs b o q).2⟩,e0.bsz,e0.aRq,fun b hb=>aQ7 hs (e0.frf b hb),bJ7 e0.hok hs,e0.bare⟩;have hT1:Off H1 O T=some (.tbl pq):=Off.of (I2.base.aLs _ _ hT) fun i=>aDu hs (I2.base.aLs _ _ hT) aQ9 i
  have hsp:spR X.K (Off H1 O) (fun v' H'=>Same (Off H1 O) H'/\∃d',Φ dv ds=some (.ok d')/\Is X.K H' d' v') (fun cv a H'=>Same (Off H1 O) H'/\∃c,cv= .ref c/\Φ dv ds=some (.error c)) (Φ dv ds):=by
   rw[hz];cases z with
   | error c=>exact fun H' e=>⟨e,c,rfl,rfl⟩
   | ok d=>exact fun v' H' e i'=>⟨e,d,rfl,i'⟩
  have smo: ∀{H':Hp},Same (Off H1 O) H'->Same H1 (onO H1 O H'):=fun {H'} sm b o q=>by
   by_cases hb: ∃i,O i=some b
   ·obtain⟨i,e⟩:=hb
    rw[aSy e];exact q
   ·rw[aG4 fun i e=>hb ⟨i,e⟩]
    exact sm b o (Off.of q fun i e=>hb ⟨i,e⟩)
  refine wpAny_call (Jc (G.2 X.A X.stack s2 (Off H1 O) us vs _ _ fa dv ds hr e0' hT1 y2 r2 (aIp ho im i1) hsp) fun r s' hq=> ?_);have hq2:=bQ7 (Q:=fun v' H'=>Q v' H') (E:=fun cv a H'=> ∃c,cv= .ref c/\Same H1 H'/\Thr X σ H1 c) hs I2.hok e0.frf (fun v' H' nf ⟨z1,d',z2,z3⟩=>by
    rw[z2] at qq;have eo:Off (onO H1 O H') O=H':=by
     funext b
     by_cases hb: ∃i,O i=some b
     ·obtain⟨i,e⟩:=hb
      rw[bA1 e,nf i b e]
     ·have hb': ∀i,O i≠some b:=fun i e=>hb ⟨i,e⟩
      unfold Off;rw[if_neg hb,aG4 hb']
    refine (show∀v H',bQ1 X.K B ρ σ H' d' v->Q v H' from qq) v' _ ⟨O,h1,fun i a e=>by rw[aSy e];exact ho i a e,by rw[eo];exact hB.trans z1,hl,fun i sv q=> ?_,by rw[eo];exact z3⟩;have zz:=h3 i sv q;cases sv with
    | sh d=>obtain⟨v,a1,a2⟩:=zz;exact⟨v,a1,by rw[eo];exact a2.mono z1⟩
    | own ds=>obtain⟨a,vs,a1,a2,a3,a4⟩:=zz;exact⟨a,vs,a1,a2,by rw[aSy a1];exact a3,by rw[eo];exact a4.mono z1⟩
    | oin a C dx fs=>have:=List.all_eq_true.mp no _ (Zx q);cases this
    | ow o=>obtain⟨a,w,a1,a2,a3,a4⟩:=zz;exact⟨a,w,a1,a2,by rw[aSy a1];exact a3,by rw[eo];exact a4.mono z1⟩
    | tk ks=>obtain⟨a,a1,a2⟩:=zz;exact⟨a,a1,by rw[eo];exact z1 _ _ a2⟩
    | nl kd ls=>have:=List.all_eq_true.mp no _ (Zx q);cases this)
   (fun cv a H' nf ⟨z1,c,ec,z2⟩=>by
    rw[z2] at qq;exact⟨c,ec,smo z1,Thr.mono sm qq⟩) hq
  cases r with
  | error e=>
   obtain⟨c,ea,H',ee,os,bare,un,fl,c',ec,sm',th⟩:=hq2;cases ec;exact th pins s' H' e sm' ⟨ea,ee,.inr ⟨s2,H1,I2,os,bare,un,fl⟩⟩
  | ok fl=>
   cases fl with
   | ret u=>exact I2.after hq2
   | next=>exact Qd hq2
   | brk=>exact Qd hq2
   | cont=>exact Qd hq2
def aX0 (i:Nat)(Φ:D->List D->M D)(j:Nat)(g:Rho->M (List D)):Rho->Option Out:=fun ρ=>match ρ[j]? with
 | some (some (.sh dv))=>if dv.fnl=true/\bJk ρ=true then lft (bnd (g ρ) fun ds=>if aCo ds=true then Φ dv ds else none) ρ fun d=>some (.nx (ρ.set i (some (.sh d)))) else none
 | _=>none
theorem bEl (G:aO8 X.prog X.w X.K X.mg X.base T pq k Φ)(hT:X.H₀ T=some (.tbl pq))(hr:aFz k X.A)(hNd:X.N.Nodup)(hi:X.N[i]? =some x)(hx:Loc X.env.scope x)(ha:PDA X B (e::es) ga)(hN:X.N[j]? =some f:=by rfl)(hv:Vis X.env.scope f:=by first | exact Qz rfl | exact Yi (Qz rfl) | exact Yi (Yi rfl))
  (hd:(f==("__debug__":Str))=false:=by decide) (hcd:(f==("__classdict__":Str))=false:=by decide) (he:Qu (e::es) X.env=(false,eval e X.env)::Qu es X.env:=by exact aBf rfl) (hpl:(backTo cpos (Qu es X.env)).any (·.1)=false:=by rfl)
  (hs:Yr (.Call (.Name f p) (e::es) [] cpos) (some (.Name x pos')) pos.line X.env=pure false:=by rfl) (hf:X.fn x=true\/X.env.scope.names.lookup x=some .local:=by first | exact .inl rfl | exact .inr rfl | assumption):
  PDS X B (.Assign [.Name x pos'] (.Call (.Name f p) (e::es) [] cpos) pos) (aX0 i Φ j ga):=by
 refine PS.of (aM7 hNd hi hx (bEj (B:=B) G hT hr ha hN hv hd hcd he hpl) hs hf) fun E σ H h=> ?_
 obtain⟨ρ,r,h⟩:=h;unfold aX0 at h;split at h
 ·rename_i dv q
  split at h
  ·rename_i hh
   refine⟨ρ,dv,r,q,hh.1,hh.2,(Res.bind (aCh r h)).imp fun ds h1=> ?_⟩;split at h1
   ·rename_i him
    refine⟨him,h1.imp fun d h2 v H' hw=> ?_⟩;obtain⟨O,o1,o2,o3,o4,o5,o6⟩:=hw;exact h2 _ _ (Rel.aWl O o1 o2 o3 o4 (fun j sv q _=>o5 j sv q) o6)
   ·exact Qd h1
  ·exact Qd h
 ·exact Qd h
end
theorem IsL.rev {K:Qa}{H:Hp}: ∀{ds:List D} {vs:List V},IsL K H ds vs->IsL K H ds.reverse vs.reverse:=by
 intro ds
 induction ds with
 | nil=>intro vs h;cases h;exact .nil
 | cons d ds ih=>
  intro vs h;cases h with | cons i r=>rw[Y0,Y0];exact (ih r).append (.cons i .nil)
theorem aTh: ∀{ds:List D} (n:Nat),aCo ds=true->aCo (ds.drop n)=true
 | _,0,h=>h
 | [],_+1,_=>rfl
 | d::ds,n+1,h=>by
  rw[aCo,Qw] at h;exact aTh n h.2
theorem aXa: ∀{ds:List D},aCo ds=true->aCo ds.reverse=true
 | [],_=>rfl
 | d::ds,h=>by
  rw[aCo,Qw] at h;rw[Y0,aJr,aXa h.2];show (d.imm&&true)=true;rw[h.1];rfl
section
variable {X:Cx}{B:Hp}{x y:Str}{p pos pos' apos cpos:Pos}{i j:Nat}
def bLb (i j:Nat):Rho->Option Out:=fun ρ=>match ρ[j]? with
 | some (some (.own ds))=>(match ds[ds.length-1]? with
  | some d=>if d.imm=true then some (.nx ((ρ.set j (some (.own ds.dropLast))).set i (some (.sh d)))) else none
  | none=>none)
 | _=>none
theorem bIv (hNd:X.N.Nodup)(hi:X.N[i]? =some x)(hx:Loc X.env.scope x)(hN:X.N[j]? =some y)(hv:Vis X.env.scope y)(hline:(apos.endLine==cpos.line)=true:=by rfl)(hd:(y==("__debug__":Str))=false:=by decide)(hcd:(y==("__classdict__":Str))=false:=by decide)
  (hs:Yr (.Call (.Attribute (.Name y p) "pop" apos) [] [] cpos) (some (.Name x pos')) pos.line X.env=pure false:=by rfl) (hf:X.fn x=true\/X.env.scope.names.lookup x=some .local:=by first | exact .inl rfl | exact .inr rfl | assumption):
  PDS X B (.Assign [.Name x pos'] (.Call (.Attribute (.Name y p) "pop" apos) [] [] cpos) pos) (bLb i j):=by
 refine PS.of (aM7 hNd hi hx (bAl Jb Wu Wt bG7 (aHo hN hv hd hcd) (by rfl) hline) hs hf) fun E σ H h=> ?_
 obtain⟨ρ,r,h⟩:=h;unfold bLb at h;split at h
 ·rename_i ds q
  split at h
  ·rename_i d qd
   split at h
   ·rename_i him
    obtain⟨O,h1,ho,h2,hl,h3⟩:=(show Rel X.K B ρ σ H from r);obtain⟨a,vs,z1,z2,z3,z4⟩:=h3 j _ q;obtain⟨v,y1,y2⟩:=z4.get qd;have hdl:IsL X.K (Off H O) ds.dropLast vs.dropLast:=by rw[Uz,Uz,z4.length];exact z4.take _
    refine⟨.ref a,z2,.inl ⟨rfl,_,SqL.of z3⟩,a,vs,v,rfl,rfl,z3,by rw[<-z4.length];exact y1,?_⟩;have r2:=Rel.aNb O h1 ho h2 hl h3 q z1 z2 hdl;have eo:Off (upd H a (.lst vs.dropLast)) O=Off H O:=Off.upd z1;have iv:Is X.K (upd H a (.lst vs.dropLast)) d v:=(show Is X.K (Off (upd H a (.lst vs.dropLast)) O) d v by rw[eo];exact y2).mono (Off.same _ _);have r3:=r2.aQl (i:=i) iv;rw[aQl,if_pos him] at r3;exact h _ _ r3
   ·exact Qd h
  ·exact Qd h
 ·exact Qd h
def bLu (i:Nat):Rho->Option Out:=fun ρ=>match ρ[i]? with
 | some (some (.own ds))=>some (.nx (ρ.set i (some (.own ds.reverse))))
 | _=>none
theorem aU0 (hN:X.N[i]? =some x)(hv:Vis X.env.scope x)(hline:(apos.endLine==cpos.line)=true:=by rfl)(hsw:Yr (.Call (.Attribute (.Name x p) "reverse" apos) [] [] cpos) none pos.line X.env=pure false:=by rfl)
  (hd:(x==("__debug__":Str))=false:=by decide) (hcd:(x==("__classdict__":Str))=false:=by decide):PDS X B (.Expr (.Call (.Attribute (.Name x p) "reverse" apos) [] [] cpos) pos) (bLu i):=by
 refine PS.of (aQv (bAl Jb PySem.F.slot_list_reverse PySem.F.type_list_reverse aYd (aHo hN hv hd hcd) (by rfl) hline) hsw) fun E σ H h=> ?_
 obtain⟨ρ,r,h⟩:=h;unfold bLu at h;split at h
 ·rename_i ds q
  obtain⟨O,h1,ho,h2,hl,h3⟩:=(show Rel X.K B ρ σ H from r);obtain⟨a,vs,z1,z2,z3,z4⟩:=h3 i _ q;exact⟨.ref a,z2,.inl ⟨rfl,_,SqL.of z3⟩,a,vs,rfl,rfl,z3,h _ _ (Rel.aNb O h1 ho h2 hl h3 q z1 z2 z4.rev)⟩
 ·exact Qd h
def aX1 (i j:Nat)(f:Rho->M D):Rho->Option Out:=fun ρ=>match ρ[j]?,f ρ with
 | some (some (.own ds)),some (.ok (.int n))=>if 0<=n/\n.toNat<=ds.length/\ds.length<=100000/\aCo ds=true then some (.nx ((ρ.set j (some (.own (ds.take (ds.length-n.toNat))))).set i (some (.own (ds.drop (ds.length-n.toNat)).reverse)))) else none
 | _,_=>none
variable {scope:Scope}{cl:List (Str×Addr)}{N':List Str}{m:Nat}{tg a:Expr}{ks:List Nat}{Gc:D->Option (List D)}{fa:Rho->M D}{p1 p2 spos:Pos}
theorem bEm (hN:X.N.Nodup)(hi0:X.N[i]? =some x)(hx:Loc X.env.scope x)(hclos:closureFor scope X.env=pure cl)(hcell:scope.names.all (fun y=>y.2 != .cell)=true)(hkind:scope.kind= .function)(hnames:scope.names.all (fun y=>y.2 != .local || scope.names.lookup y.1==some .local)=true)(hcl:aOp cl X.env=true)
  (hnm:aYc X.N N' (relabel scope X.env)=true) (hf:aVu cl (relabel scope X.env)=true) (hl:N'.length=X.N.length+m) (hks:ks.all (fun k=>decide (X.N.length<=k))=true) (hcm:X.calm=true) (hgl:Gl X "range") (hm:X.mg "range"=none) (ha:PD X B a fa)
  (hg: ∀C s₀ H₀ ex,PDH (cxC X scope cl N' C s₀ H₀ ex) tg ks Gc) (hG: ∀d,∃es,Gc d=some es) (hj0:j<X.N.length) (hN':N'[j]? =some y) (hv': ∀C s₀ H₀ ex,Vis (cxC X scope cl N' C s₀ H₀ ex).env.scope y)
  (hd:(y==("__debug__":Str))=false:=by decide) (hcd:(y==("__classdict__":Str))=false:=by decide) (hbase: ∀C s₀ H₀ ex,attributeBase (.Name y p) "pop" (cxC X scope cl N' C s₀ H₀ ex).env (eval (.Name y p) (cxC X scope cl N' C s₀ H₀ ex).env)=eval (.Name y p) (cxC X scope cl N' C s₀ H₀ ex).env:=by intros;rfl) (hline:(apos.endLine==cpos.line)=true:=by rfl)
  (hst:Qu [a] X.env=[(false,eval a X.env)]:=by exact aHy rfl)
  (hsw:Yr (.ListComp (.Call (.Attribute (.Name y p) "pop" apos) [] [] cpos) [⟨tg,.Call (.Name "range" p1) [a] [] p2,[],0⟩] scope pos) (some (.Name x pos')) spos.line X.env=pure true:=by rfl) (hs: ∀z,Zp (.Call (.Name "range" p1) [a] [] p2) X.env z=pure z:=by intro _;rfl)
  (hfn:X.fn x=true\/X.env.scope.names.lookup x=some .local:=by first | exact .inl rfl | exact .inr rfl | assumption):
  PDS X B (.Assign [.Name x pos'] (.ListComp (.Call (.Attribute (.Name y p) "pop" apos) [] [] cpos) [⟨tg,.Call (.Name "range" p1) [a] [] p2,[],0⟩] scope pos) spos) (aX1 i j fa):=by
 intro pins s σ H E I h;obtain⟨ρ,r,h⟩:=h;unfold aX1 at h;split at h
 ·rename_i ds n q qf
  split at h
  ·rename_i hh
   obtain⟨n0,hnl,hW,im⟩:=hh;obtain⟨O,h1,ho,h2,hl',h3⟩:=(show Rel X.K B ρ σ H from r);obtain⟨l,vs,z1,z2,z3,z4⟩:=h3 j _ q;have hlv:ds.length=vs.length:=z4.length;rw[exec_Assign_Name_used _ _ _ _ hsw];refine Qb (wpAny_standAt (Qb (Qb (bF2 (n:=n.toNat) (ws:=vs) (use:=some _) hclos (fun y hy=>by have:=List.all_eq_true.mp hcell y hy;simpa using this) hkind
    (fun y hy z=>by have:=List.all_eq_true.mp hnames y hy;rw[z] at this;simpa using this) hcl hnm hf hl
    (fun k hk=>of_decide_eq_true (List.all_eq_true.mp hks k hk)) hcm hg hG hs hj0 hN' hv' hd hcd hbase hline I z2 z3 (by omega) (by omega) (aM8 hgl hm (aBx ha aD4 hst) hst pins s σ H _ I ⟨ρ,r,by
     rw[qf];intro v H1 e1 i1;cases i1;exact⟨n,rfl,by omega,by omega,rfl,e1⟩⟩) ?_))))
   intro Dd Cc s3 Hj IX ⟨mm,hmm⟩ oc nC sm hn0 hD;have I3:Inv X pins σ Hj s3:=IX s3.heap (Heap.SameBut.refl Cc s3.heap);have r2:=Rel.aNb O h1 ho h2 hl' h3 q z1 z2 (z4.take (vs.length-n.toNat));have sm2:Same (Off H O) Hj:=fun b o qb=>by
    refine sm b o ?_;rw[aAv (fun z=>Off.not qb j (by rw[z];exact z1))];exact Off.same _ _ b o qb
   have hf0:upd H l (.lst (vs.take (vs.length-n.toNat))) Dd=none:=by rw[aAv (fun z=>by rw[z,z3] at hn0;cases hn0)];exact hn0
   have r3:=r2.bM0 (i:=i) sm hf0 hD (ds:=(ds.drop (vs.length-n.toNat)).reverse) (aXa (aTh _ im)) (((z4.drop _).rev).mono sm2);refine wpAny_assign_Name (aSi I3 hN hi0 hx (v:= .ref Dd) rfl (fun s4 I4 ⟨a,sb,ha⟩=>⟨mm,hmm.sameBut sb ?_,fun h' hsb=> ?_⟩) hfn)
   ·rcases ha with ha | ha
    ·rw[ha];exact oc.2.1
    ·exact Ne.symm (oc.2.2.1 x a ha)
   ·rw[hlv] at h
    exact Qf (Qf ⟨_,Hj,Inv.offC I4 oc nC hsb,h _ Hj r3⟩)
  ·exact Qd h
 ·exact Qd h
end
def aRu (f:D->D->Option Bool):List D->List D->Option Bool
 | [],[]=>some true
 | [],_::_=>some false
 | _::_,[]=>some false
 | x::xs,y::ys=>match f x y,aRu f xs ys with | some a,some b=>some (a&&b) | _,_=>none
def eqN:Nat->D->D->Option Bool
 | _,.non,.non=>some true
 | _,.bl a,.bl b=>some (a==b)
 | _,.int a,.int b=>some (a==b)
 | _,.str a,.str b=>some (a==b)
 | _,.str _,.tup _=>some false
 | _,.tup _,.str _=>some false
 | n+1,.tup xs,.tup ys=>aRu (eqN n) xs ys
 | _,_,_=>none
theorem aRs {f:D->D->Option Bool}: ∀{xs ys:List D} {b:Bool} {j:Nat} {x y:D},aRu f xs ys=some b->xs[j]? =some x->ys[j]? =some y->∃c,f x y=some c
 | [],_,_,_,_,_,_,h,_=>by simp at h
 | _::_,[],_,_,_,_,_,_,h=>by simp at h
 | a::xs,c::ys,b,j,x,y,h,h1,h2=>by
  unfold aRu at h;split at h
  ·rename_i p q e1 e2
   cases j with
   | zero=>simp at h1 h2;subst h1 h2;exact⟨_,e1⟩
   | succ j=>exact aRs (j:=j) e2 (by simpa using h1) (by simpa using h2)
  ·cases h
def eqJ (f:D->D->Option Bool)(xs ys:List D)(j:Nat):Bool:=match xs[j]?,ys[j]? with
 | some x,some y=>(f x y).getD false
 | _,_=>false
theorem aRt {f:D->D->Option Bool}: ∀{xs ys:List D} {b:Bool},aRu f xs ys=some b->b=((Zj (min xs.length ys.length)).all (eqJ f xs ys)&&xs.length==ys.length)
 | [],[],b,h=>by cases h;rfl
 | [],_::_,b,h=>by cases h;simp
 | _::_,[],b,h=>by cases h;simp
 | x::xs,y::ys,b,h=>by
  unfold aRu at h;split at h
  ·rename_i p q e1 e2
   cases h;have ih:=aRt e2;rw[Zc,Zc,Nat.succ_min_succ,List.range_succ_eq_map,Zo,List.all_map,ih];have z0:eqJ f (x::xs) (y::ys) 0=p:=by simp[eqJ,e1]
   have z1:(eqJ f (x::xs) (y::ys)∘Nat.succ)=eqJ f xs ys:=by funext j;simp[eqJ]
   have z2:(xs.length+1==ys.length+1)=(xs.length==ys.length):=by simp
   rw[z0,z1,z2,Bool.and_assoc]
  ·cases h
theorem aXf {f:D->D->Option Bool}{K:Qa}{H:Hp}(hf: ∀d e b v,f d e=some b->Is K H d v->Is K H e v->b=true): ∀{xs ys:List D} {vs:List V} {b:Bool},aRu f xs ys=some b->IsL K H xs vs->IsL K H ys vs->b=true
 | [],[],_,b,h,_,_=>by cases h;rfl
 | [],_::_,_,_,_,h1,h2=>by cases h1;cases h2
 | _::_,[],_,_,_,h1,h2=>by cases h2;cases h1
 | x::xs,y::ys,_,b,h,.cons i1 r1,.cons i2 r2=>by
  unfold aRu at h;split at h
  ·rename_i p q e1 e2
   cases h;rw[hf _ _ _ _ e1 i1 i2,aXf hf e2 r1 r2];rfl
  ·cases h
theorem bKm {K:Qa}{H:Hp}: ∀(n:Nat) (d e:D) (b:Bool) (v:V),eqN n d e=some b->Is K H d v->Is K H e v->b=true:=by
 intro n
 induction n with
 | zero=>intro d e b v h i1 i2;cases i1<;>cases i2<;>first |(simp[eqN] at h;done) |(simp[eqN] at h;exact h.symm▸rfl) |(simp[eqN] at h;exact h)
 | succ n ih=>
  intro d e b v h i1 i2;cases i1 with
  | tup h1 r1=>
   cases i2 with
   | tup h2 r2=>
    have e':some (HO.tup _)=some (HO.tup _):=(show _=_ from h1).symm.trans (show _=_ from h2);cases e';exact aXf (fun d e b v=>ih d e b v) (show aRu (eqN n) _ _=some b from h) r1 r2
   | _=>simp[eqN] at h
  | _=>cases i2<;>first |(simp[eqN] at h;done) |(simp[eqN] at h;exact h.symm▸rfl) |(simp[eqN] at h;exact h)
section
variable {P:Qv}{w:Q8}{K:Qa}{H:Hp}{s:Qe}
theorem aO9 {a:Addr}{vs:List V}(hok:HOk P w H s.heap)(h:TQ K H a vs): ∃its:List Qc,Vals vs its/\s.heap.IsTuple a its.toArray:=by
 obtain⟨_,its,r,p⟩:=(show aCe P w H s.heap a (.tup vs) from hok a _ h);exact⟨its,r,p.tup⟩
theorem bHo (hok:HOk P w H s.heap): ∀(n:Nat) (A:Zb) (d e:D) (b:Bool) (x y:V) (u v:Qc),eqN n d e=some b->Is K H d x->Is K H e y->RelV x u->RelV y v->A.units+n<cLine->SeqAt.EqAt A s u v b:=by
 intro n;have base: ∀(n:Nat) (A:Zb) (d e:D) (b:Bool) (x y:V) (u v:Qc),eqN n d e=some b->(∀xs ys,d= .tup xs->e= .tup ys->False)->Is K H d x->Is K H e y->RelV x u->RelV y v->A.units<cLine->SeqAt.EqAt A s u v b:=by
  intro n A d e b x y u v h nt i1 i2 r1 r2 hu;cases i1 with
  | non=>
   cases i2<;>first |(cases n<;>simp[eqN] at h;done) | skip
   cases n<;>(simp[eqN] at h;subst h;cases r1;cases r2;exact SeqAt.EqAt.same _)
  | bl p=>
   cases i2<;>first |(cases n<;>simp[eqN] at h;done) | skip
   cases n<;>(simp[eqN] at h;subst h;cases r1;cases r2;exact SeqAt.EqAt.bool_bool _ _)
  | int p=>
   cases i2<;>first |(cases n<;>simp[eqN] at h;done) | skip
   cases n<;>(simp[eqN] at h;subst h;obtain⟨t,rfl⟩:=r1;obtain⟨t',rfl⟩:=r2;exact SeqAt.EqAt.int_int _ _ _ _)
  | str p=>
   obtain⟨t,rfl⟩:=r1;cases i2 with
   | str q=>cases n<;>(simp[eqN] at h;subst h;obtain⟨t',rfl⟩:=r2;exact SeqAt.EqAt.str_str _ _ _ _)
   | tup h2 q2=>
    obtain⟨its,_,p2⟩:=aO9 hok h2;cases r2;cases n<;>(simp[eqN] at h;subst h;exact SeqAt.EqAt.str_tuple _ _ p2 hu)
   | _=>cases n<;>simp[eqN] at h
  | tup h1 q1=>
   obtain⟨its,_,p1⟩:=aO9 hok h1;cases r1;cases i2 with
   | str q=>obtain⟨t',rfl⟩:=r2;cases n<;>(simp[eqN] at h;subst h;exact SeqAt.EqAt.tuple_str _ _ p1 hu)
   | tup h2 q2=>exact (nt _ _ rfl rfl).elim
   | _=>cases n<;>simp[eqN] at h
  | _=>cases n<;>simp[eqN] at h
 induction n with
 | zero=>intro A d e b x y u v h i1 i2 r1 r2 hu;exact base 0 A d e b x y u v h (fun xs ys z1 z2=>by subst z1 z2;simp[eqN] at h) i1 i2 r1 r2 hu
 | succ n ih=>
  intro A d e b x y u v h i1 i2 r1 r2 hu;by_cases nt: ∃xs ys,d= .tup xs/\e= .tup ys
  ·obtain⟨xs,ys,rfl,rfl⟩:=nt
   cases i1 with
   | tup h1 q1=>
    cases i2 with
    | tup h2 q2=>
     rename_i a1 vs1 a2 vs2;cases r1;cases r2;by_cases ea:a1=a2
     ·subst ea
      rw[bKm (n+1) _ _ b _ h (.tup h1 q1) (.tup h2 q2)];exact SeqAt.EqAt.same _
     ·obtain⟨its,rv1,p1⟩:=aO9 hok h1
      obtain⟨jts,rv2,p2⟩:=aO9 hok h2;have h':aRu (eqN n) xs ys=some b:=h;have l1:xs.length=its.length:=by rw[q1.length,rv1.length]
      have l2:ys.length=jts.length:=by rw[q2.length,rv2.length]
      have z:=SeqAt.RcAt.tuples (A:=A) (e:=eqJ (eqN n) xs ys) p1 p2 (by omega) fun j g1 g2=>by
       have g1':j<xs.length:=by rw[l1];simpa using g1
       have g2':j<ys.length:=by rw[l2];simpa using g2
       obtain⟨c,hc⟩:=aRs h' (Qj g1') (Qj g2');obtain⟨x',a1,a2⟩:=q1.get (Qj g1');obtain⟨y',b1,b2⟩:=q2.get (Qj g2');obtain⟨u',c1,c2⟩:=rv1.get a1;obtain⟨v',d1,d2⟩:=rv2.get b1;have e1:its.toArray[j]=u':=by
        have:its[j]? =some u':=c1;rw[Qj (by rw[<-l1];exact g1')] at this
        simpa using Option.some.inj this
       have e2:jts.toArray[j]=v':=by
        have:jts[j]? =some v':=d1;rw[Qj (by rw[<-l2];exact g2')] at this
        simpa using Option.some.inj this
       rw[e1,e2];have ej:eqJ (eqN n) xs ys j=c:=by unfold eqJ;rw[Qj g1',Qj g2'];dsimp only;rw[hc];rfl
       rw[ej];exact ih A.in1 _ _ c x' y' u' v' hc a2 b2 c2 d2 (by show A.units+1+n<cLine;omega)
      rw[Qk,Qk,<-l1,<-l2,<-aRt h'] at z;exact SeqAt.EqAt.of_refs ea z
  ·exact base (n+1) A d e b x y u v h (fun xs ys z1 z2=>nt ⟨xs,ys,z1,z2⟩) i1 i2 r1 r2 (by omega)
end
section
variable {X:Cx}{B:Hp}{a b:Expr}{fa fb:Rho->M D}{pos:Pos}
def aVs:D->D->M D
 | .tup xs,.tup ys=>match aRu (eqN 8) xs ys with | some b=>ok (.bl b) | none=>none
 | _,_=>none
theorem bNh:aHd aVs:=by
 intro x y c h;unfold aVs at h
 (repeat' split at h)<;>cases h
def bRh (K:Qa):R2:=fun x y H Q=> ∃p q vs us xs ys b,x= .ref p/\y= .ref q/\TQ K H p vs/\TQ K H q us/\IsL K H xs vs/\IsL K H ys us/\aRu (eqN 8) xs ys=some b/\Q (.bl b) H
theorem bG3 {k:Nat}(hr:aFz k X.A):OpR X (Yj .Eq) (bRh X.K):=by
 intro pins s σ H x y v u Q I rx ry h;obtain⟨p,q,vs,us,xs,ys,b,rfl,rfl,h1,h2,q1,q2,h',qq⟩:=h;cases rx;cases ry;have hu:=hr.units;obtain⟨its,rv1,p1⟩:=aO9 I.hok h1;obtain⟨jts,rv2,p2⟩:=aO9 I.hok h2;have l1:xs.length=its.length:=by rw[q1.length,rv1.length]
 have l2:ys.length=jts.length:=by rw[q2.length,rv2.length]
 refine PySem.SeqAt.eq_tupleAt (e:=eqJ (eqN 8) xs ys) p1 p2 (by omega) (fun j g1 g2=> ?_) ?_
 ·have g1':j<xs.length:=by rw[l1];simpa using g1
  have g2':j<ys.length:=by rw[l2];simpa using g2
  obtain⟨c,hc⟩:=aRs h' (Qj g1') (Qj g2');obtain⟨x',a1,a2⟩:=q1.get (Qj g1');obtain⟨y',b1,b2⟩:=q2.get (Qj g2');obtain⟨u',c1,c2⟩:=rv1.get a1;obtain⟨v',d1,d2⟩:=rv2.get b1;have e1:its.toArray[j]=u':=by
   have:its[j]? =some u':=c1;rw[Qj (by rw[<-l1];exact g1')] at this
   simpa using Option.some.inj this
  have e2:jts.toArray[j]=v':=by
   have:jts[j]? =some v':=d1;rw[Qj (by rw[<-l2];exact g2')] at this
   simpa using Option.some.inj this
  rw[e1,e2];have ej:eqJ (eqN 8) xs ys j=c:=by unfold eqJ;rw[Qj g1',Qj g2'];dsimp only;rw[hc];rfl
  rw[ej];exact bHo I.hok 8 X.A.in1 _ _ c x' y' u' v' hc a2 b2 c2 d2 (by show X.A.units+1+8<cLine;omega)
 ·rw[Qk,Qk,<-l1,<-l2,<-aRt h']
  exact⟨.bl b,H,I,rfl,qq⟩
theorem bL3:aO2 X (bRh X.K) aVs:=by
 intro H x y dx dy d Q ix iy e q;unfold aVs at e;split at e
 ·split at e
  ·rename_i b hb
   cases e;cases ix with
   | tup g1 r1=>
    cases iy with
    | tup g2 r2=>exact⟨_,_,_,_,_,_,b,rfl,rfl,g1,g2,r1,r2,hb,q _ H (Same.refl H) (.bl _)⟩
  ·cases e
 ·cases e
theorem bG0 {k:Nat}(hr:aFz k X.A)(ha:PD X B a fa)(hb:PD X B b fb):PD X B (.Compare a [.Eq] [b] pos) (b2 aVs fa fb):=bG1 (bG3 hr) bL3 bNh ha hb (aIe _)
theorem bIt {k:Nat}(hr:aFz k X.A)(ha:PD X B a fa)(hb:PD X B b fb):PDT X B (.Compare a [.Eq] [b] pos) (aAm (b2 aVs fa fb)):=aEn (bG3 hr) bL3 bNh ha hb (aIe _)
end
def aYi (r:List (Key×D)):List (Key×D)->Option Bool
 | []=>some true
 |(k,d)::l=>match aQe r k with
  | none=>some false
  | some e=>match eqN 8 d e,aYi r l with | some a,some b=>some (a&&b) | _,_=>none
def bLe (l r:List (Key×D)):Option Bool:=if l.length=r.length then aYi r l else some false
def aOx:D->D->M D
 | .dk l,.dk r=>match bLe l r with | some b=>ok (.bl (!b)) | none=>none
 | _,_=>none
theorem bNf:aHd aOx:=by
 intro x y c h;unfold aOx at h
 (repeat' split at h)<;>cases h
section
variable {P:Qv}{w:Q8}{K:Qa}{H:Hp}{s:Qe}{A:Zb}
theorem bBu (hok:HOk P w H s.heap)(hu:A.units+8<cLine){r:List (Key×D)}{us:List (Key×V)}{kb:List (Key×Qc)}(ir:IsK K H r us)(rb:KV us kb): ∀{l:List (Key×D)} {vs:List (Key×V)} {ka:List (Key×Qc)} {b:Bool},IsK K H l vs->KV vs ka->aYi r l=some b->PySem.W.KeqHits A s kb ka b
 | _,_,_,b,.nil,.nil,h=>by cases h;exact .nil
 | _,_,_,b,.cons (x:=k) (d:=d) (v:=v) i rest,.cons (b:=q) hq t,h=>by
  obtain⟨k',u⟩:=q;obtain⟨e1,e2⟩:=hq;cases e1;unfold aYi at h;have z:=rb.val k;rcases aNp (k:=k) ir with⟨z1,z2⟩ |⟨d',v',z1,z2,i'⟩
  ·rw[z1] at h
   cases h;rw[z2] at z;exact .miss (aUg.none_of z)
  ·rw[z1] at h
   dsimp only at h
   split at h
   ·rename_i p q g1 g2
    cases h;rw[z2] at z;obtain⟨y,hy,ry⟩:=aUg.some_of z;exact .hit hy (bHo hok 8 A _ _ p v v' u y g1 i i' e2 ry hu) (bBu hok hu ir rb rest t g2)
   ·cases h
end
section
variable {X:Cx}{B:Hp}{a b c e:Expr}{fa fb fc:Rho->M D}{pos p p2 pos2 apos cpos:Pos}
def bL6 (K:Qa):R2:=fun x y H Q=> ∃p q l r vs us b,x= .ref p/\y= .ref q/\Rd H p (.dK vs)/\Rd H q (.dK us)/\IsK K H l vs/\IsK K H r us/\bLe l r=some b/\Q (.bl (!b)) H
theorem bJb {k:Nat}(hr:aFz k X.A):OpR X (Yj .NotEq) (bL6 X.K):=by
 intro pins s σ H x y v u Q I rx ry h;obtain⟨p,q,l,r,vs,us,b,rfl,rfl,hp,hq,il,ir,he,qq⟩:=h;cases rx;cases ry;obtain⟨_,hs1,vs1,k1,d1⟩:=aO1 I.hok hp;obtain⟨_,hs2,vs2,k2,d2⟩:=aO1 I.hok hq;have hu:=hr.units;have e1:l.length=vs1.length:=by rw[aIr il];exact k1.length
 have e2:r.length=vs2.length:=by rw[aIr ir];exact k2.length
 have hu8:X.A.in1.units+8<cLine:=by show X.A.units+1+8<cLine;omega
 unfold bLe at he;split at he
 ·rename_i hl
  refine PySem.W.keq_ne hs1 hs2 d1 d2 (by omega) (fun _=>bBu I.hok hu8 ir k2 il k1 he) ?_;have:(vs1.length==vs2.length)=true:=by rw[<-e1,<-e2,hl];simp
  rw[this,J6];exact⟨.bl _,H,I,rfl,qq⟩
 ·rename_i hl
  cases he;refine PySem.W.keq_ne (r:=true) hs1 hs2 d1 d2 (by omega) (fun z=>absurd (by rw[e1,e2];exact z) hl) ?_;have:(vs1.length==vs2.length)=false:=by rw[<-e1,<-e2];simpa using hl
  rw[this,J3];exact⟨.bl _,H,I,rfl,qq⟩
theorem bLz:aO2 X (bL6 X.K) aOx:=by
 intro H x y dx dy d Q ix iy e q;unfold aOx at e;split at e
 ·split at e
  ·rename_i b hb
   cases e;cases ix with
   | dk hx rx=>
    cases iy with
    | dk hy ry=>exact⟨_,_,_,_,_,_,b,rfl,rfl,hx,hy,rx,ry,hb,q _ H (Same.refl H) (.bl _)⟩
  ·cases e
 ·cases e
theorem bEk {k:Nat}(hr:aFz k X.A)(ha:PD X B a fa)(hb:PD X B b fb):PDT X B (.Compare a [.NotEq] [b] pos) (aAm (b2 aOx fa fb)):=aEn (bJb hr) bLz bNf ha hb (aIe _)
def bLc:D->D->M D
 | .int i,.int j=>ok (.int (if j>i then j else i))
 | _,_=>none
theorem bIz (hcm:X.calm=true)(hg:Gl X "max")(hm:X.mg "max"=none)(ha:PD X B a fa)(hb:PD X B b fb)(he:Qu [a,b] X.env=[(false,eval a X.env),(false,eval b X.env)]:=by exact aOb rfl rfl)(he2:Qu [b] X.env=[(false,eval b X.env)]:=by exact aHy rfl):
  PD X B (.Call (.Name "max" p) [a,b] [] pos) (b2 bLc fa fb):=by
 refine PE.of (aF2 (bCs hcm) hg hm PyProof.Rows.boot_max (aBx ha (aBx hb aD4 he2) (by rw[he,he2])) (he:=by rw[he,he2]) (hpl:=by rw[he2];rfl)) fun σ H Q h=> ?_
 obtain⟨ρ,r1,h⟩:=h;refine⟨ρ,r1,(Res.bind h).imp fun dx h1 v H1 e1 i1=>⟨ρ,r1.mono e1,(Res.bind h1).mono e1 fun dy h2 u H2 e2 i2=> ?_⟩⟩;unfold bLc at h2;split at h2
 ·rename_i i j
  cases i1;cases i2;exact⟨i,j,rfl,h2 _ H2 (e1.trans e2) (.int _)⟩
 ·exact Qd h2
def aZ5 (it:Rho->M (List D))(G:D->Rho->Option Rho)(F:Rho->Option Out):Rho->Option Out:=fun ρ=>lft (it ρ) ρ fun ds=>loop G F ds (free ρ)
theorem bEq {tg iter:Expr}{G:D->Rho->Option Rho}{F:Rho->Option Out}{body:List Stmt}{it:Rho->M (List D)}(hp:PassesOwn (Qp X.prog X.w) X.A X.env X.xe)(hc:X.calm=true)(hi:PIt X B tg iter it)(hg: ∀B,PDG X B tg G)(hb: ∀B,PDB X B body F)(hs: ∀x,Zp iter X.env x=pure x:=by intro _;rfl):PDS X B (.For tg iter body [] pos) (aZ5 it G F):=by
 refine aIn hp hc (wi:=fun σ H R=> ∃ρ,Rel X.K B ρ σ H/\Res X σ H (fun ds=> ∀J H1,Same H H1->ItD X.K J ds H1->R J H1) (it ρ)) (fun pins s σ H R I ⟨ρ,r,q⟩=>hi pins s σ H R ρ I r q) hg hb (fun E σ H R h k=> ?_) hs;obtain⟨ρ,r,h⟩:=h;exact⟨ρ,r,(aCh r h).imp fun ds h1 J H1 e1 i1=>k J H1 ds _ ⟨H1,i1,(r.mono e1).aJ0,(r.mono e1).kept⟩ h1⟩
def bN8 (d k e:D):M D:=match d,keyOf k with
 | .dk kvs,some key=>(match aQe kvs key with | some v=>ok v | none=>ok e)
 | _,_=>none
def bO1 (fa fb fc:Rho->M D):Rho->M D:=fun ρ=>bnd (fa ρ) fun x=>match x with
 | .dk kvs=>bnd (fb ρ) fun y=>bnd (fc ρ) fun z=>bN8 (.dk kvs) y z
 | _=>none
theorem bI3 {k:Nat}(hr:aFz k X.A)(ha:PD X B a fa)(hb:PD X B b fb)(hc:PD X B c fc)(hs:aDn b=true:=by rfl)(hs2:aDn c=true:=by rfl)(hline:(apos.endLine==cpos.line)=true:=by rfl)(hbase:attributeBase a "get" X.env (eval a X.env)=eval a X.env:=by rfl):
  PD X B (.Call (.Attribute a "get" apos) [b,c] [] cpos) (bO1 fa fb fc):=by
 refine PE.of (bEi (bBt hr) ha hb hc ⟨hbase,by rw[aOb hs hs2];rfl,hline,by rw[aOb hs hs2];rfl⟩) fun σ H Q h=> ?_
 obtain⟨ρ,r1,h⟩:=h;refine⟨ρ,r1,(Res.bind h).imp fun dx h1 v H1 e1 i1=> ?_⟩;cases i1 with
 | dk hh rr=>
  rename_i a0 kvs vs;refine⟨a0,rfl,.inl ⟨_,hh⟩,ρ,r1.mono e1,(Res.bind h1).mono e1 fun dy h2 u H2 e2 i2=>⟨ρ,(r1.mono e1).mono e2,(Res.bind h2).mono (e1.trans e2) fun dz h3 u3 H3 e3 i3=> ?_⟩⟩;unfold bN8 at h3;split at h3
  ·rename_i kvs' key e4 hk
   cases e4;have eu:=aVh (i2.mono e3) hk;subst eu;refine⟨_,.inl ⟨_,_,bAc (e2.trans e3) hh,rfl,rfl⟩,?_⟩;rcases aNp (k:=key) (IsK.mono (e2.trans e3) rr) with⟨z1,z2⟩ |⟨d',v',z1,z2,i'⟩
   ·rw[z1] at h3
    rw[z2];exact h3 _ _ ((e1.trans e2).trans e3) i3
   ·rw[z1] at h3
    rw[z2];exact h3 _ _ ((e1.trans e2).trans e3) i'
  ·exact Qd h3
 | _=>exact Qd h1
def aWa (P:Qv)(w:Q8)(K:Qa)(a:Addr)(kvs:List (Str×Int)):Prop:=
 ∀h:Heap,K.In h->(∃o,h.get? a=some o/\o.cls= .type "dict")/\∃f,h.MapOf (aC6 P w) a f/\∀x i,kvs.lookup x=some i->∃t,f (.inr x)=some (Value.int i t)
theorem bN5 {pm:Params}: ∀(l:List (Str×Nat×Int×Nat)) (k:Key),((l.map fun p=>HD.de pm p.1 p.2.1 (.int p.2.2.1 p.2.2.2)).find? fun e=>aTc k e.key).map (·.val)=match k with | .inr x=>((l.map fun p=>(p.1,p.2.2)).lookup x).map fun q=>Value.int q.1 q.2 | .inl _=>none
 | [],k=>by cases k<;>rfl
 | q::l,k=>by
  have ih:=bN5 (pm:=pm) l k;rw[Q4,Ym];cases k with
  | inl i=>exact ih
  | inr x=>
   have e:aTc (.inr x) (HD.de pm q.1 q.2.1 (.int q.2.2.1 q.2.2.2)).key=(x==q.1):=by
    show Value.isStrOf x (.str q.1 q.2.1)=(x==q.1);simp[Value.isStrOf];exact Bool.eq_iff_iff.mpr (by simp;exact eq_comm)
   rw[e,Q4]
   dsimp only
   rw[J5];cases (x==q.1) with
   | true=>rfl
   | false=>exact ih
theorem gkv: ∀(l:List (Str×Nat×Int×Nat)) (x:Str) (i:Int),(l.map fun p=>(p.1,p.2.2.1)).lookup x=some i->∃t,(l.map fun p=>(p.1,p.2.2)).lookup x=some (i,t)
 | [],x,i,h=>by cases h
 | q::l,x,i,h=>by
  rw[Q4,J5] at h⊢;cases e:(x==q.1) with
  | true=>rw[e] at h;cases h;exact⟨_,rfl⟩
  | false=>rw[e] at h;exact gkv l x i h
theorem bFl {P:Qv}{w:Q8}{K:Qa}{a:Addr}{n:Nat}{l:List (Str×Nat×Int×Nat)}(lk:K.lookup a=some (HD.od n (l.map fun p=>HD.de w.params p.1 p.2.1 (.int p.2.2.1 p.2.2.2)))):aWa P w K a (l.map fun p=>(p.1,p.2.2.1)):=fun h X=>by
 have e:=X _ _ lk;refine⟨⟨_,e,rfl⟩,(fun k=>match k with | .inr x=>((l.map fun p=>(p.1,p.2.2)).lookup x).map fun q=>Value.int q.1 q.2 | .inl _=>none),⟨_,_,_,e,⟨rfl,rfl,rfl⟩,rfl,fun en he=> ?_,fun k=> ?_⟩,fun x i hx=> ?_⟩
 ·rw[List.mem_toArray,List.mem_map] at he
  obtain⟨q,_,rfl⟩:=he;exact⟨.inr q.1,aTb q.1 q.2.1,rfl⟩
 ·unfold findBy
  rw[List.find?_toArray];exact bN5 l k
 ·obtain⟨t,ht⟩:=gkv l x i hx
  exact⟨t,by dsimp only;rw[ht];rfl⟩
def aYr (kvs:List (Str×Int)):D->M D
 | .str x=>match kvs.lookup x with | some i=>ok (.int i) | none=>none
 | _=>none
theorem bI4 {x:Str}{g:Addr}{kvs:List (Str×Int)}(hg:Gl X x)(hm:X.mg x=some (.ref g))(hD:aWa X.prog X.w X.K g kvs)(hb:PD X B b fb)(hd:(x==("__debug__":Str))=false:=by decide)(hs:bO7 b:=by intro _ _;rfl):PD X B (.Subscript (.Name x p) b pos) (f1 (aYr kvs) fb):=by
 intro pins s σ H Q I h;obtain⟨ρ,r1,h⟩:=h;refine aZp PySem.F.slot_dict_getitem.lookup hs (thn (aUx hg hm (v:= .ref g) rfl hd pins s σ H (fun v H'=>v= .ref g/\H'=H) I ⟨rfl,rfl⟩) fun u s1 ⟨y,H1,I1,rx,ex,eH⟩=> ?_);subst ex eH;cases rx;refine thn (hb pins s1 σ H1 (fun v H2=> ∃z i,v= .str z/\kvs.lookup z=some i/\Q (.int i) H2) I1 ⟨ρ,r1,(Res.bind h).imp fun d h1 v H2 e2 i2=> ?_⟩) fun iv s2 ⟨y,H2,I2,ry,z,i,ey,hz,q2⟩=> ?_
 ·cases i2<;>first | exact Qd h1 | skip
  rename_i z;unfold aYr at h1
  dsimp only at h1
  split at h1
  ·rename_i i hz
   exact⟨z,i,rfl,hz,h1 _ _ e2 (.int _)⟩
  ·exact Qd h1
 ·subst ey
  obtain⟨⟨o,o1,o2⟩,f,mp,hf⟩:=hD s2.heap I2.kIn;obtain⟨tk,hk⟩:=hf z i hz;exact⟨⟨o,o1,o2⟩,wpAny_getItem_of (k:= .inr z) (aVi (k:= .inr z) ry) mp hk ⟨.int i,H2,I2.tok _,⟨_,rfl⟩,q2⟩⟩
end
section
variable {X:Cx}{B:Hp}{a b:Expr}{fa fb:Rho->M D}{pos:Pos}
def aTq:D->D->M D
 | .int i,.int j=>if-(2^64)<j/\j<2^64 then ok (.int (i*j)) else none
 | _,_=>none
theorem bNg:aHd aTq:=by
 intro x y c h;unfold aTq at h
 (repeat' split at h)<;>cases h
theorem bL0:aO2 X (rI bO8 fun i j=> .int (i*j)) aTq:=by
 intro H x y dx dy d Q ix iy e q;unfold aTq at e;split at e
 ·split at e
  ·rename_i hj
   cases e;cases ix;cases iy;exact⟨_,_,rfl,rfl,.inr hj,q _ H (Same.refl H) (.int _)⟩
  ·cases e
 ·cases e
theorem bIx (ha:PD X B a fa)(hb:PD X B b fb):PD X B (.BinOp a .Mult b pos) (b2 aTq fa fb):=aX8 bM5 bL0 bNg ha hb
end
end L2.PU
namespace K30
open PySem PySem.Spec PyProof.Rows L2 L2.PU
abbrev St:=L2.St
def top (i:Nat):Stmt:=PySem.Challenge.pw_whence_k30_heads_of_one_word.main.body.getD i (.Pass ⟨0,0,0,0⟩)
abbrev aM1:Stmt:=top 7
abbrev aL0:Stmt:=top 8
abbrev aKb:Stmt:=top 9
abbrev aKa:Stmt:=top 10
abbrev aH6:Stmt:=top 11
abbrev aLz:Stmt:=top 13
abbrev aJa:Stmt:=top 14
abbrev aH7:Stmt:=top 15
abbrev aPg:Stmt:=top 18
abbrev aFb:Stmt:=top 19
abbrev aPl:Stmt:=top 20
abbrev aI5:Stmt:=top 21
abbrev aGt:Stmt:=top 22
abbrev aD9:Stmt:=top 23
abbrev aI9:Stmt:=top 24
abbrev aLx:Stmt:=top 25
abbrev aMx:Stmt:=top 26
abbrev aPf:Stmt:=top 27
abbrev aPk:Stmt:=top 29
abbrev aPj:Stmt:=top 30
abbrev aMy:Stmt:=top 31
abbrev aJ8:Stmt:=top 32
abbrev aJ9:Stmt:=top 33
abbrev aJ7:Stmt:=top 34
abbrev aI6:Stmt:=top 35
abbrev aSo:Stmt:=top 36
abbrev aM0:Stmt:=top 37
abbrev aLy:Stmt:=top 38
abbrev aPi:Stmt:=top 39
abbrev aI8:Stmt:=top 40
abbrev aI7:Stmt:=top 41
abbrev aPh:Stmt:=top 42
abbrev aMz:Stmt:=top 43
abbrev bDz:Stmt:=top 44
set_option genInjectivity false in
structure Adr where
 aCd:Addr
 aAl:Addr
 aA1:Addr
 aBp:Addr
 aBr:Addr
 aJx:Addr
 aIl:Addr
 aHb:Addr
 aHa:Addr
 aFr:Addr
 aIk:Addr
 aGp:Addr
 aFs:Addr
 aLb:Addr
 aBo:Addr
 aLg:Addr
 aGk:Addr
 aEp:Addr
 aE4:Addr
 aGo:Addr
 aIi:Addr
 aJt:Addr
 aLa:Addr
 aLf:Addr
 aLe:Addr
 aJu:Addr
 aG8:Addr
 aG9:Addr
 aG7:Addr
 aGl:Addr
 aNw:Addr
 aJw:Addr
 aIj:Addr
 aLd:Addr
 aGn:Addr
 aGm:Addr
 aLc:Addr
 aJv:Addr
 aVv:Addr
 cd:Addr
 tab:Addr
 aDa:Addr
def cs (t:Adr)(C:Addr):Bool:=false
def aB0:List (Str×Int):=[("table",2),("pick",2),("keep",2),("call",3),("join",1),("put",1),("ring",3)]
def pq:Bool×Pos×Str:=match aCu aD9 with
 | .FunctionDef _ _ _ _ _ _ _ _ _ fp::_=>(false,fp,"head_of.<locals>.tell")
 | _=>(false,⟨0,0,0,0⟩,"")
structure Txt (K:Qa)(mg:Str->Option Qc)(t:Adr):Prop where
 aRp:mg "WhenceError"=some (.ref t.aCd)
 bDa:Jg K t.aCd [.type "ValueError",.type "Exception",.type "BaseException",.type "object"] "ValueError.__new__"=true
 aFk:mg "NoColumn"=some (.ref t.aAl)
 aFl:Jg K t.aAl [.type "ValueError",.type "Exception",.type "BaseException",.type "object"] "ValueError.__new__"=true
 aTo:mg "NoTable"=some (.ref t.aA1)
 aXu:Jg K t.aA1 [.type "ValueError",.type "Exception",.type "BaseException",.type "object"] "ValueError.__new__"=true
 bB1:mg "NoFit"=some (.ref t.aBp)
 bDk:Jg K t.aBp [.type "ValueError",.type "Exception",.type "BaseException",.type "object"] "ValueError.__new__"=true
 bB0:mg "Twice"=some (.ref t.aBr)
 bDj:Jg K t.aBr [.type "ValueError",.type "Exception",.type "BaseException",.type "object"] "ValueError.__new__"=true
 aI2:Qy K (.ref t.aAl) (.ref t.aAl)=some true
 aKw:Qy K (.ref t.aAl) (.ref t.aBp)=some false
 aJm:Qy K (.ref t.aAl) (.ref t.aA1)=some false
 aKv:Qy K (.ref t.aAl) (.ref t.aBr)=some false
 aHx:Qy K (.ref t.aAl) (.type "ValueError")=some true
 aKu:Qy K (.ref t.aBp) (.ref t.aAl)=some false
 aOa:Qy K (.ref t.aBp) (.ref t.aBp)=some true
 aL9:Qy K (.ref t.aBp) (.ref t.aA1)=some false
 aN9:Qy K (.ref t.aBp) (.ref t.aBr)=some false
 aJl:Qy K (.ref t.aBp) (.type "ValueError")=some true
 aJk:Qy K (.ref t.aA1) (.ref t.aAl)=some false
 aL8:Qy K (.ref t.aA1) (.ref t.aBp)=some false
 aJ4:Qy K (.ref t.aA1) (.ref t.aA1)=some true
 aL7:Qy K (.ref t.aA1) (.ref t.aBr)=some false
 aH0:Qy K (.ref t.aA1) (.type "ValueError")=some true
 aKt:Qy K (.ref t.aBr) (.ref t.aAl)=some false
 aN8:Qy K (.ref t.aBr) (.ref t.aBp)=some false
 aL6:Qy K (.ref t.aBr) (.ref t.aA1)=some false
 aN7:Qy K (.ref t.aBr) (.ref t.aBr)=some true
 aJj:Qy K (.ref t.aBr) (.type "ValueError")=some true
 aVf:Own K t.aAl
 bE7:Own K t.aBp
 aYg:Own K t.aA1
 bE6:Own K t.aBr
 aUc:Zk K (.ref t.aAl) (.ref t.aAl)=some true
 aXt:Zk K (.ref t.aAl) (.ref t.aBp)=some false
 aUh:Zk K (.ref t.aAl) (.ref t.aA1)=some false
 aXs:Zk K (.ref t.aAl) (.ref t.aBr)=some false
 aG0:Zk K (.ref t.aAl) (.ref t.aCd)=some true
 bC9:Zk K (.ref t.aBp) (.ref t.aBp)=some true
 aY9:Zk K (.ref t.aBp) (.ref t.aA1)=some false
 bC8:Zk K (.ref t.aBp) (.ref t.aBr)=some false
 aI1:Zk K (.ref t.aBp) (.ref t.aCd)=some true
 aWc:Zk K (.ref t.aA1) (.ref t.aA1)=some true
 aY8:Zk K (.ref t.aA1) (.ref t.aBr)=some false
 aHw:Zk K (.ref t.aA1) (.ref t.aCd)=some true
 bC7:Zk K (.ref t.aBr) (.ref t.aBr)=some true
 aI0:Zk K (.ref t.aBr) (.ref t.aCd)=some true
 aJq:t.aAl≠t.aA1
 aK1:t.aAl≠t.aBp
 aK0:t.aAl≠t.aBr
 aMf:t.aA1≠t.aBr
 aMg:t.aBp≠t.aA1
 aOl:t.aBp≠t.aBr
 aD3: ∃fd,Fun K "kept_head" "kept_head" aM1 t.aJx fd/\Binds K fd ["head","columns"] []
 aVr:mg "kept_head"=some (.ref t.aJx)
 aDh: ∃fd,Fun K "check_once" "check_once" aL0 t.aIl fd/\Binds K fd ["columns"] []
 aTn:mg "check_once"=some (.ref t.aIl)
 aCx: ∃fd,Fun K "called_head" "called_head" aKb t.aHb fd/\Binds K fd ["head","old","new"] []
 aRo:mg "called_head"=some (.ref t.aHb)
 aCw: ∃fd,Fun K "joined_head" "joined_head" aKa t.aHa fd/\Binds K fd ["head","other"] []
 aRn:mg "joined_head"=some (.ref t.aHa)
 aBd: ∃fd,Fun K "together_head" "together_head" aH6 t.aFr fd/\Binds K fd ["head","other"] []
 aNt:mg "together_head"=some (.ref t.aFr)
 aDg: ∃fd,Fun K "columns_of" "columns_of" aLz t.aIk fd/\Binds K fd ["test"] []
 aTm:mg "columns_of"=some (.ref t.aIk)
 aBe: ∃fd,Fun K "columns_told" "columns_told" aJa t.aGp fd/\Binds K fd ["test"] []
 aJe:mg "columns_told"=some (.ref t.aGp)
 aCa: ∃fd,Fun K "check_columns" "check_columns" aH7 t.aFs fd/\Binds K fd ["test","head"] []
 aNv:mg "check_columns"=some (.ref t.aFs)
 aEr: ∃fd,Fun K "parts_of" "parts_of" aPg t.aLb fd/\Binds K fd ["question"] []
 aYk:mg "parts_of"=some (.ref t.aLb)
 aFc: ∃fd,Fun K "parts_but_of_rings" "parts_but_of_rings" aFb t.aBo fd/\Binds K fd ["question"] []
 aDp:mg "parts_but_of_rings"=some (.ref t.aBo)
 aEt: ∃fd,Fun K "laid_out" "laid_out" aPl t.aLg fd/\Binds K fd ["top","below_of"] []
 aYp:mg "laid_out"=some (.ref t.aLg)
 aCj: ∃fd,Fun K "told_through" "told_through" aI5 t.aGk fd/\Binds K fd ["top","below_of","tell"] []
 aOt:mg "told_through"=some (.ref t.aGk)
 aBy: ∃fd,Fun K "told_from_parts" "told_from_parts" aGt t.aEp fd/\Binds K fd ["question","tell"] []
 aK8:mg "told_from_parts"=some (.ref t.aEp)
 aCg: ∃fd,Fun K "head_of" "head_of" aD9 t.aE4 fd/\Binds K fd ["question","heads"] []
 bBz:mg "head_of"=some (.ref t.aE4)
 aCm: ∃fd,Fun K "head_by_word" "head_by_word" aI9 t.aGo fd/\Binds K fd ["part","below","heads"] []
 aOw:mg "head_by_word"=some (.ref t.aGo)
 aDd: ∃fd,Fun K "table_head" "table_head" aLx t.aIi fd/\Binds K fd ["name","heads"] []
 aTj:mg "table_head"=some (.ref t.aIi)
 aDe: ∃fd,Fun K "ring_head" "ring_head" aMx t.aJt fd/\Binds K fd ["ring","heads"] []
 aNu:mg "ring_head"=some (.ref t.aJt)
 aEq: ∃fd,Fun K "with_key" "with_key" aPf t.aLa fd/\Binds K fd ["one","key","value"] []
 aYj:mg "with_key"=some (.ref t.aLa)
 aBn: ∃fd,Fun K "_law_cell" "_law_cell" aPk t.aLf fd/\Binds K fd ["_law_script","_law_k"] []
 aYo:mg "_law_cell"=some (.ref t.aLf)
 aAi: ∃fd,Fun K "_law_draw" "_law_draw" aPj t.aLe fd/\Binds K fd ["_law_cell_here","_law_turn","_law_many"] []
 aYn:mg "_law_draw"=some (.ref t.aLe)
 aDf: ∃fd,Fun K "_law_words" "_law_words" aMy t.aJu fd/\Binds K fd ["_law_cell_here","_law_many"] []
 aVo:mg "_law_words"=some (.ref t.aJu)
 aBm: ∃fd,Fun K "_law_rotated" "_law_rotated" aJ8 t.aG8 fd/\Binds K fd ["_law_head","_law_cell_here"] []
 aRm:mg "_law_rotated"=some (.ref t.aG8)
 aBa: ∃fd,Fun K "_law_columns" "_law_columns" aJ9 t.aG9 fd/\Binds K fd ["_law_test"] []
 aKo:mg "_law_columns"=some (.ref t.aG9)
 aCf: ∃fd,Fun K "_law_two_due" "_law_two_due" aJ7 t.aG7 fd/\Binds K fd ["_law_question_here","_law_heads_here"] []
 aKn:mg "_law_two_due"=some (.ref t.aG7)
 aB9: ∃fd,Fun K "_law_ring_due" "_law_ring_due" aI6 t.aGl fd/\Binds K fd ["_law_question_here","_law_heads_here"] []
 aJd:mg "_law_ring_due"=some (.ref t.aGl)
 aA8: ∃fd,Fun K "_law_due" "_law_due" aSo t.aNw fd/\Binds K fd ["_law_question_here","_law_heads_here"] []
 aTk:mg "_law_due"=some (.ref t.aNw)
 aD2: ∃fd,Fun K "_law_heads" "_law_heads" aM0 t.aJw fd/\Binds K fd ["_law_script","_law_columns_here","_law_names"] []
 aVq:mg "_law_heads"=some (.ref t.aJw)
 aB2: ∃fd,Fun K "_law_column" "_law_column" aLy t.aIj fd/\Binds K fd ["_law_cell_here","_law_turn","_law_head","_law_six"] []
 aTl:mg "_law_column"=some (.ref t.aIj)
 aEs: ∃fd,Fun K "_law_some" "_law_some" aPi t.aLd fd/\Binds K fd ["_law_cell_here","_law_head","_law_six"] []
 aYm:mg "_law_some"=some (.ref t.aLd)
 aCl: ∃fd,Fun K "_law_one_word" "_law_one_word" aI8 t.aGn fd/\Binds K fd ["_law_cell_here","_law_part","_law_head","_law_six"] []
 aOv:mg "_law_one_word"=some (.ref t.aGn)
 aCk: ∃fd,Fun K "_law_question" "_law_question" aI7 t.aGm fd/\Binds K fd ["_law_cell_here","_law_other","_law_heads_here","_law_names","_law_six"] []
 aOu:mg "_law_question"=some (.ref t.aGm)
 aDm: ∃fd,Fun K "_law_told" "_law_told" aPh t.aLc fd/\Binds K fd ["_law_question_here","_law_heads_here"] []
 aYl:mg "_law_told"=some (.ref t.aLc)
 aCv: ∃fd,Fun K "_law_right" "_law_right" aMz t.aJv fd/\Binds K fd ["_law_told_here","_law_due_here"] []
 aVp:mg "_law_right"=some (.ref t.aJv)
 bQ6: ∃fd,Fun K "law" "law" bDz t.aVv fd/\Binds K fd ["_law_script"] []
 bQj:mg "law"=some (.ref t.aVv)
 aTp:mg "FIRST_PART"=some (.ref t.aDa)
 aT5:mg "ValueError"=none
 aXl:mg "dict"=none
 aDb:mg "isinstance"=none
 aLm:mg "len"=none
 bCy:mg "list"=none
 bQy:mg "max"=none
 bQx:mg "min"=none
 aJ1:mg "range"=none
 aYx:mg "reversed"=none
 aR3:mg "set"=none
 bGc:mg "sorted"=none
 bQw:mg "str"=none
 aGr:mg "tuple"=none
section
variable {P:Qv}{w:Q8}{K:Qa}{mg:Str->Option Qc}{base:Heap}{t:Adr}
def aD0 (t:Adr)(C:Addr):Option Bool:=if C=t.aAl then some true else if C=t.aBp then some false else if C=t.aA1 then some false else if C=t.aBr then some false else none
theorem aTa (T:Txt K mg t): ∀C b,aD0 t C=some b->Qy K (.ref C) (.ref t.aAl)=some b:=fun C b hC=>by
 unfold aD0 at hC;split at hC
 ·rename_i z;subst z;cases hC;exact T.aI2
 split at hC
 ·rename_i z;subst z;cases hC;exact T.aKu
 split at hC
 ·rename_i z;subst z;cases hC;exact T.aJk
 split at hC
 ·rename_i z;subst z;cases hC;exact T.aKt
 cases hC
def aG6 (t:Adr)(C:Addr):Option Bool:=if C=t.aAl then some false else if C=t.aBp then some true else if C=t.aA1 then some false else if C=t.aBr then some false else none
theorem bBe (T:Txt K mg t): ∀C b,aG6 t C=some b->Qy K (.ref C) (.ref t.aBp)=some b:=fun C b hC=>by
 unfold aG6 at hC;split at hC
 ·rename_i z;subst z;cases hC;exact T.aKw
 split at hC
 ·rename_i z;subst z;cases hC;exact T.aOa
 split at hC
 ·rename_i z;subst z;cases hC;exact T.aL8
 split at hC
 ·rename_i z;subst z;cases hC;exact T.aN8
 cases hC
def aEo (t:Adr)(C:Addr):Option Bool:=if C=t.aAl then some false else if C=t.aBp then some false else if C=t.aA1 then some true else if C=t.aBr then some false else none
theorem aVg (T:Txt K mg t): ∀C b,aEo t C=some b->Qy K (.ref C) (.ref t.aA1)=some b:=fun C b hC=>by
 unfold aEo at hC;split at hC
 ·rename_i z;subst z;cases hC;exact T.aJm
 split at hC
 ·rename_i z;subst z;cases hC;exact T.aL9
 split at hC
 ·rename_i z;subst z;cases hC;exact T.aJ4
 split at hC
 ·rename_i z;subst z;cases hC;exact T.aL6
 cases hC
def aG5 (t:Adr)(C:Addr):Option Bool:=if C=t.aAl then some false else if C=t.aBp then some false else if C=t.aA1 then some false else if C=t.aBr then some true else none
theorem bBd (T:Txt K mg t): ∀C b,aG5 t C=some b->Qy K (.ref C) (.ref t.aBr)=some b:=fun C b hC=>by
 unfold aG5 at hC;split at hC
 ·rename_i z;subst z;cases hC;exact T.aKv
 split at hC
 ·rename_i z;subst z;cases hC;exact T.aN9
 split at hC
 ·rename_i z;subst z;cases hC;exact T.aL7
 split at hC
 ·rename_i z;subst z;cases hC;exact T.aN7
 cases hC
def aB7 (t:Adr)(C:Addr):Bool:=decide (C=t.aAl) || decide (C=t.aBp) || decide (C=t.aA1) || decide (C=t.aBr)
theorem aOq (T:Txt K mg t): ∀C,aB7 t C=true->Qy K (.ref C) (.type "ValueError")=some true:=fun C hC=>by
 unfold aB7 at hC;simp only[Z1,decide_eq_true_eq] at hC;rcases hC with ((rfl | rfl) | rfl) | rfl
 ·exact T.aHx
 ·exact T.aJl
 ·exact T.aH0
 ·exact T.aJj
def kx (t:Adr)(C:Addr):Bool:=decide (C=t.aAl) || decide (C=t.aBp) || decide (C=t.aA1) || decide (C=t.aBr)
theorem bE5 (T:Txt K mg t): ∀C,kx t C=true->Own K C:=fun C hC=>by
 unfold kx at hC;simp only[Z1,decide_eq_true_eq] at hC;rcases hC with ((rfl | rfl) | rfl) | rfl
 ·exact T.aVf
 ·exact T.bE7
 ·exact T.aYg
 ·exact T.bE6
def aCy (t:Adr)(C:Addr):Option Bool:=if C=t.aAl then some true else if C=t.aBp then some true else if C=t.aA1 then some true else if C=t.aBr then some true else none
theorem aNs (T:Txt K mg t): ∀C b,aCy t C=some b->Zk K (.ref C) (.ref t.aCd)=some b:=fun C b hC=>by
 unfold aCy at hC;split at hC
 ·rename_i z;subst z;cases hC;exact T.aG0
 split at hC
 ·rename_i z;subst z;cases hC;exact T.aI1
 split at hC
 ·rename_i z;subst z;cases hC;exact T.aHw
 split at hC
 ·rename_i z;subst z;cases hC;exact T.aI0
 cases hC
def aFx:List Str:=["head","columns","column"]
theorem aLw:aBg aFx ["head","columns"] (aAp aM1):=by constructor<;>first | rfl | decide+kernel
def aDi (t:Adr)(aDh:List D->M D):Rho->Option Out:=
  (aAk (aM5 (app aDh (aAb (look 1) aAn)))
  (aAk (aSp 1 (gN 2) (aAk (sIf (aAm (b2 (gIn true) (look 2) (look 0))) (aAk (aEj t.aAl (aAb (jnd (aMq "the head has no column " (aTe (look 2) aSa))) aAn))
  aAr) aAr)
  aAr))
  (aAk (aBw (f1 toT (look 1)))
  aAr)))
theorem aS3 (T:Txt K mg t){k:Nat}{aDh:List D->M D}(aUb:Def P w K mg base k "check_once" aDh){F:List D->M D}(hL: ∀ds r,F ds=some r->ds.length=2)(hq: ∀ds r,F ds=some r->aA0 (aDi t aDh (aBu aFx ds))=some r):Def P w K mg base (k+1) "kept_head" F:=by
 obtain⟨fd,Fu,bi⟩:=T.aD3;refine⟨_,_,_,T.aVr,Fu.kp,bi,hL,bLd Fu aLw hL fun cdv A outer s H E hr=>⟨aDi t aDh,fun B=> ?_,hq⟩⟩;refine aAc ?_ ?_;(refine aWt ?_;(refine aAq aUb hr rfl ?_;(refine aAa ?_ ?_;(exact aAd 1);(exact aAg))));(refine aAc ?_ ?_;(refine aWs 1 rfl (Qz rfl) PassesOwn.leaving rfl (fun B=> ?_) (fun B=> ?_);(exact aF5 (i:=2) (aLw).nd rfl (Qz rfl));(refine aAc ?_ ?_;(refine aA3 ?_ ?_ ?_;(refine aGu ?_ ?_;(exact aAd 2);(exact aAd 0));(refine aAc ?_ ?_;(refine aE2 Zr T.aFl T.aFk rfl rfl ?_;(refine aAa ?_ ?_;(refine aGv ?_;(refine aKf ?_;(refine aPr ?_ ?_;(exact aAd 2);(exact aPs))));(exact aAg)));(exact aAe));(exact aAe));(exact aAe)));(refine aAc ?_ ?_;(refine aAo ?_;(refine aFd rfl T.aGr ?_;(exact aAd 1)));(exact aAe)))
def aE7:List Str:=["columns"]
theorem aQp:aBg aE7 ["columns"] (aAp aL0):=by constructor<;>first | rfl | decide+kernel
def aCz (t:Adr):Rho->Option Out:=
  (aAk (sIf (aAm (b2 gNe (f1 bHb (f1 toS (look 0))) (f1 aJb (look 0)))) (aAk (aEj t.aAl (aAb (con (.str "a column stands twice")) aAn))
  aAr) aAr)
  aAr)
theorem aQ6 (T:Txt K mg t){k:Nat}{F:List D->M D}(hL: ∀ds r,F ds=some r->ds.length=1)(hq: ∀ds r,F ds=some r->aA0 (aCz t (aBu aE7 ds))=some r):Def P w K mg base (k+1) "check_once" F:=by
 obtain⟨fd,Fu,bi⟩:=T.aDh;refine⟨_,_,_,T.aTn,Fu.kp,bi,hL,bLd Fu aQp hL fun cdv A outer s H E hr=>⟨aCz t,fun B=> ?_,hq⟩⟩;refine aAc ?_ ?_;(refine aA3 ?_ ?_ ?_;(refine aSu ?_ ?_;(refine bAv rfl T.aLm ?_;(refine aKj rfl rfl T.aR3 ?_;(exact aAd 0)));(refine aIb rfl T.aLm ?_;(exact aAd 0)));(refine aAc ?_ ?_;(refine aE2 Zr T.aFl T.aFk rfl rfl ?_;(refine aAa ?_ ?_;(exact aAt);(exact aAg)));(exact aAe));(exact aAe));(exact aAe)
def aEh:List Str:=["head","old","new"]
def aHv:List Str:=["?0","old","new","column"]
theorem aMj:aHv.Nodup:=by decide+kernel
theorem aOe:aBg aEh ["head","old","new"] (aAp aKb):=by constructor<;>first | rfl | decide+kernel
def aC9 (t:Adr):Rho->Option Out:=
  (aAk (sIf (aAm (b2 (gIn true) (look 1) (look 0))) (aAk (aEj t.aAl (aAb (jnd (aMq "the head has no column " (aTe (look 1) aSa))) aAn))
  aAr) aAr)
  (aAk (sIf (aYy (aAm (b2 (gIn false) (look 2) (look 0))) (aAm (b2 gNe (look 2) (look 1)))) (aAk (aEj t.aAl (aAb (jnd (aMq "the head has a column " (aTe (look 2) (aMq " already" aSa)))) aAn))
  aAr) aAr)
  (aAk (aBw (f1 toT (cmp 1 (itE (look 0)) [3] h1 (fun _=>ok true) (ifV (aAm (b2 gEq (look 3) (look 1))) (look 2) (look 3)))))
  aAr)))
theorem aOk (T:Txt K mg t){k:Nat}{F:List D->M D}(hL: ∀ds r,F ds=some r->ds.length=3)(hq: ∀ds r,F ds=some r->aA0 (aC9 t (aBu aEh ds))=some r):Def P w K mg base (k+1) "called_head" F:=by
 obtain⟨fd,Fu,bi⟩:=T.aCx;refine⟨_,_,_,T.aRo,Fu.kp,bi,hL,bLd Fu aOe hL fun cdv A outer s H E hr=>⟨aC9 t,fun B=> ?_,hq⟩⟩;refine aAc ?_ ?_;(refine aA3 ?_ ?_ ?_;(refine aGu ?_ ?_;(exact aAd 1);(exact aAd 0));(refine aAc ?_ ?_;(refine aE2 Zr T.aFl T.aFk rfl rfl ?_;(refine aAa ?_ ?_;(refine aGv ?_;(refine aKf ?_;(refine aPr ?_ ?_;(exact aAd 1);(exact aPs))));(exact aAg)));(exact aAe));(exact aAe));(refine aAc ?_ ?_;(refine aA3 ?_ ?_ ?_;(refine PDW.pdt ?_;(refine aQy ?_ ?_;(refine bGy ?_ ?_;(exact aAd 2);(exact aAd 0));(refine aMn ?_;(refine aSu ?_ ?_;(exact aAd 2);(exact aAd 1)))));(refine aAc ?_ ?_;(refine aE2 Zr T.aFl T.aFk rfl rfl ?_;(refine aAa ?_ ?_;(refine aGv ?_;(refine aKf ?_;(refine aPr ?_ ?_;(exact aAd 2);(refine aKf ?_;(exact aPs)))));(exact aAg)));(exact aAe));(exact aAe));(refine aAc ?_ ?_;(refine aAo ?_;(refine aFd rfl T.aGr ?_;(refine aG3 (N':=aHv) (m:=1) (ks:=[3]) rfl rfl rfl rfl (by repeat (first | exact aL1 | refine aIf rfl (by first | exact Qz rfl | exact Yi rfl) ?_)) rfl rfl rfl rfl rfl ?_ (fun C s₀ H₀ ex=> ?_) (fun C s₀ H₀ ex B=> ?_) (fun C s₀ H₀ ex B=> ?_);(refine bEc ?_;(exact aAd 0));(exact aSv aMj rfl (Qz rfl));(exact aKg);(refine bI2 ?_ ?_ ?_;(refine aBs ?_ ?_;(exact aAd 3);(exact aAd 1));(exact aAd 2);(exact aAd 3)))));(exact aAe)))
def aEf:List Str:=["head","other"]
def aHu:List Str:=["head","?1","column"]
theorem aMi:aHu.Nodup:=by decide+kernel
theorem aOd:aBg aEf ["head","other"] (aAp aKa):=by constructor<;>first | rfl | decide+kernel
def aC8 (t:Adr):Rho->Option Out:=
  (aAk (aBw (b2 aCc (f1 toT (look 0)) (f1 toT (cmp 1 (itE (look 1)) [2] h1 (aAm (b2 (gIn true) (look 2) (look 0))) (look 2)))))
  aAr)
theorem aOj (T:Txt K mg t){k:Nat}{F:List D->M D}(h:OkF 2 aEf (aC8 t) F):Def P w K mg base (k+1) "joined_head" F:=by
 obtain⟨hL,hq⟩:=h;obtain⟨fd,Fu,bi⟩:=T.aCw;refine⟨_,_,_,T.aRn,Fu.kp,bi,hL,aP2 Fu aOd hL fun cdv A outer s H E hr=>⟨aC8 t,fun B=> ?_,hq⟩⟩;refine aAc ?_ ?_;(refine aAo ?_;(refine aC5 ?_ ?_;(refine aFd rfl T.aGr ?_;(exact aAd 0));(refine aFd rfl T.aGr ?_;(refine aG3 (N':=aHu) (m:=1) (ks:=[2]) rfl rfl rfl rfl (by repeat (first | exact aL1 | refine aIf rfl (by first | exact Qz rfl | exact Yi rfl) ?_)) rfl rfl rfl rfl rfl ?_ (fun C s₀ H₀ ex=> ?_) (fun C s₀ H₀ ex B=> ?_) (fun C s₀ H₀ ex B=> ?_);(refine bEc ?_;(exact aAd 1));(exact aSv aMi rfl (Qz rfl));(refine aWp ?_;(refine aGu ?_ ?_;(exact aAd 2);(exact aAd 0)));(exact aAd 2)))));(exact aAe)
def aDc:List Str:=["head","other"]
theorem aMb:aBg aDc ["head","other"] (aAp aH6):=by constructor<;>first | rfl | decide+kernel
def aCq (t:Adr):Rho->Option Out:=
  (aAk (sIf (aAm (b2 bHi (f1 toS (look 0)) (f1 toS (look 1)))) (aAk (aEj t.aBp (aAb (con (.str "the columns are not the same")) aAn))
  aAr) aAr)
  (aAk (aBw (f1 toT (look 0)))
  aAr))
theorem aMd (T:Txt K mg t){k:Nat}{F:List D->M D}(hL: ∀ds r,F ds=some r->ds.length=2)(hq: ∀ds r,F ds=some r->aA0 (aCq t (aBu aDc ds))=some r):Def P w K mg base (k+1) "together_head" F:=by
 obtain⟨fd,Fu,bi⟩:=T.aBd;refine⟨_,_,_,T.aNt,Fu.kp,bi,hL,bLd Fu aMb hL fun cdv A outer s H E hr=>⟨aCq t,fun B=> ?_,hq⟩⟩;refine aAc ?_ ?_;(refine aA3 ?_ ?_ ?_;(refine aUy hr ?_ ?_;(refine aKj rfl rfl T.aR3 ?_;(exact aAd 0));(refine aKj rfl rfl T.aR3 ?_;(exact aAd 1)));(refine aAc ?_ ?_;(refine aE2 Zr T.bDk T.bB1 rfl rfl ?_;(refine aAa ?_ ?_;(exact aAt);(exact aAg)));(exact aAe));(exact aAe));(refine aAc ?_ ?_;(refine aAo ?_;(refine aFd rfl T.aGr ?_;(exact aAd 0)));(exact aAe))
def aGh:List Str:=["test"]
theorem aQo:aBg aGh ["test"] (aAp aLz):=by constructor<;>first | rfl | decide+kernel
def aEw (t:Adr)(aBe:List D->M D):Rho->Option Out:=
  (aAk (aBw (f1 bLa (f1 toS (app aBe (aAb (look 0) aAn)))))
  aAr)
theorem aQ5 (T:Txt K mg t){k:Nat}{aBe:List D->M D}(aGs:Def P w K mg base k "columns_told" aBe){F:List D->M D}(h:OkF 1 aGh (aEw t aBe) F):Def P w K mg base (k+1) "columns_of" F:=by
 obtain⟨hL,hq⟩:=h;obtain⟨fd,Fu,bi⟩:=T.aDg;refine⟨_,_,_,T.aTm,Fu.kp,bi,hL,aP2 Fu aQo hL fun cdv A outer s H E hr=>⟨aEw t aBe,fun B=> ?_,hq⟩⟩;refine aAc ?_ ?_;(refine aAo ?_;(refine bAu rfl rfl T.bGc ?_;(refine aKj rfl rfl T.aR3 ?_;(refine aAq aGs hr rfl ?_;(refine aAa ?_ ?_;(exact aAd 0);(exact aAg))))));(exact aAe)
def aCi:List Str:=["test","columns","part"]
theorem aFp:aBg aCi ["test"] (aAp aJa):=by constructor<;>first | rfl | decide+kernel
def aB4 (t:Adr)(aBe:List D->M D):Rho->Option Out:=
  (aAk (sIf (aAm (b2 gEq (b2 gIx (look 0) (con (.int 0))) (con (.str "is")))) (aAk (aBw (mkL (aAb (b2 gIx (look 0) (con (.int 1))) aAn)))
  aAr) aAr)
  (aAk (sIf (aAm (b2 gEq (b2 gIx (look 0) (con (.int 0))) (con (.str "same")))) (aAk (aBw (mkL (aAb (b2 gIx (look 0) (con (.int 1))) (aAb (b2 gIx (look 0) (con (.int 2))) aAn))))
  aAr) aAr)
  (aAk (sNew 1 aAn)
  (aAk (aM4 (aMt (look 0) (aFe (con (.int 1))) aFq) (gN 2) (aAk (bDc 1 (aAb (app aBe (aAb (look 2) aAn)) aAn))
  aAr))
  (aAk (aBw (look 1))
  aAr)))))
theorem aNi (T:Txt K mg t){k:Nat}{aBe:List D->M D}(aGs:Def P w K mg base k "columns_told" aBe){F:List D->M D}(h:OkF 1 aCi (aB4 t aBe) F):Def P w K mg base (k+1) "columns_told" F:=by
 obtain⟨hL,hq⟩:=h;obtain⟨fd,Fu,bi⟩:=T.aBe;refine⟨_,_,_,T.aJe,Fu.kp,bi,hL,aP2 Fu aFp hL fun cdv A outer s H E hr=>⟨aB4 t aBe,fun B=> ?_,hq⟩⟩;refine aAc ?_ ?_;(refine aA3 ?_ ?_ ?_;(refine aBs ?_ ?_;(refine aA2 ?_ ?_ (fun _ _=>rfl);(exact aAd 0);(exact aAh));(exact aAt));(refine aAc ?_ ?_;(refine aAo ?_;(refine aNa ?_;(refine aAa ?_ ?_;(refine aA2 ?_ ?_ (fun _ _=>rfl);(exact aAd 0);(exact aAh));(exact aAg))));(exact aAe));(exact aAe));(refine aAc ?_ ?_;(refine aA3 ?_ ?_ ?_;(refine aBs ?_ ?_;(refine aA2 ?_ ?_ (fun _ _=>rfl);(exact aAd 0);(exact aAh));(exact aAt));(refine aAc ?_ ?_;(refine aAo ?_;(refine aNa ?_;(refine aAa ?_ ?_;(refine aA2 ?_ ?_ (fun _ _=>rfl);(exact aAd 0);(exact aAh));(refine aAa ?_ ?_;(refine aA2 ?_ ?_ (fun _ _=>rfl);(exact aAd 0);(exact aAh));(exact aAg)))));(exact aAe));(exact aAe));(refine aAc ?_ ?_;(refine aQ1 (i:=1) (aFp).nd rfl (Qz rfl) ?_;(exact aAg));(refine aAc ?_ ?_;(refine aQ2 PassesOwn.never rfl ?_ (fun B=> ?_) (fun B=> ?_);(refine aF6 ?_ ?_ ?_;(exact aAd 0);(refine aF3 ?_;(exact aAh));(exact aF4));(exact aF5 (i:=2) (aFp).nd rfl (Qz rfl));(refine aAc ?_ ?_;(refine aPu (i:=1) rfl (Qz rfl) ?_;(refine aAq aGs hr rfl ?_;(refine aAa ?_ ?_;(exact aAd 2);(exact aAg))));(exact aAe)));(refine aAc ?_ ?_;(refine aAo ?_;(exact aAd 1));(exact aAe)))))
def aEg:List Str:=["test","head","column"]
theorem aHn:aBg aEg ["test","head"] (aAp aH7):=by constructor<;>first | rfl | decide+kernel
def aDj (t:Adr)(aDg:List D->M D):Rho->Option Out:=
  (aAk (aM4 (app aDg (aAb (look 0) aAn)) (gN 2) (aAk (sIf (aAm (b2 (gIn true) (look 2) (look 1))) (aAk (aEj t.aAl (aAb (jnd (aMq "the test has a column " (aTe (look 2) (aMq ", the head has not" aSa)))) aAn))
  aAr) aAr)
  aAr))
  aAr)
theorem aMe (T:Txt K mg t){k:Nat}{aDg:List D->M D}(aUa:Def P w K mg base k "columns_of" aDg){F:List D->M D}(hL: ∀ds r,F ds=some r->ds.length=2)(hq: ∀ds r,F ds=some r->aA0 (aDj t aDg (aBu aEg ds))=some r):Def P w K mg base (k+1) "check_columns" F:=by
 obtain⟨fd,Fu,bi⟩:=T.aCa;refine⟨_,_,_,T.aNv,Fu.kp,bi,hL,bLd Fu aHn hL fun cdv A outer s H E hr=>⟨aDj t aDg,fun B=> ?_,hq⟩⟩;refine aAc ?_ ?_;(refine aQ2 PassesOwn.leaving rfl ?_ (fun B=> ?_) (fun B=> ?_);(refine aAq aUa hr rfl ?_;(refine aAa ?_ ?_;(exact aAd 0);(exact aAg)));(exact aF5 (i:=2) (aHn).nd rfl (Qz rfl));(refine aAc ?_ ?_;(refine aA3 ?_ ?_ ?_;(refine aGu ?_ ?_;(exact aAd 2);(exact aAd 1));(refine aAc ?_ ?_;(refine aE2 Zr T.aFl T.aFk rfl rfl ?_;(refine aAa ?_ ?_;(refine aGv ?_;(refine aKf ?_;(refine aPr ?_ ?_;(exact aAd 2);(refine aKf ?_;(exact aPs)))));(exact aAg)));(exact aAe));(exact aAe));(exact aAe)));(exact aAe)
def aIu:List Str:=["question"]
theorem aUp:aBg aIu ["question"] (aAp aPg):=by constructor<;>first | rfl | decide+kernel
def aGa (t:Adr):Rho->Option Out:=
  (aAk (aBw (f1 toL (aMt (look 0) (aFe (f1 (aYr aB0) (b2 gIx (look 0) (con (.int 0))))) aFq)))
  aAr)
theorem aU3 (T:Txt K mg t){k:Nat}(aBi:aWa P w K t.aDa aB0){F:List D->M D}(h:OkF 1 aIu (aGa t) F):Def P w K mg base (k+1) "parts_of" F:=by
 obtain⟨hL,hq⟩:=h;obtain⟨fd,Fu,bi⟩:=T.aEr;refine⟨_,_,_,T.aYk,Fu.kp,bi,hL,aP2 Fu aUp hL fun cdv A outer s H E hr=>⟨aGa t,fun B=> ?_,hq⟩⟩;refine aAc ?_ ?_;(refine aAo ?_;(refine bI1 rfl T.bCy ?_;(refine aF6 ?_ ?_ ?_;(exact aAd 0);(refine aF3 ?_;(refine bI4 rfl T.aTp aBi ?_;(refine aA2 ?_ ?_ (fun _ _=>rfl);(exact aAd 0);(exact aAh))));(exact aF4))));(exact aAe)
def aB5:List Str:=["question"]
theorem aH3:aBg aB5 ["question"] (aAp aFb):=by constructor<;>first | rfl | decide+kernel
def aBv (t:Adr)(aEr:List D->M D):Rho->Option Out:=
  (aAk (aBw (ifV (aAm (b2 gEq (b2 gIx (look 0) (con (.int 0))) (con (.str "ring")))) (mkL aAn) (app aEr (aAb (look 0) aAn))))
  aAr)
theorem aIc (T:Txt K mg t){k:Nat}{aEr:List D->M D}(aY5:Def P w K mg base k "parts_of" aEr){F:List D->M D}(h:OkF 1 aB5 (aBv t aEr) F):Def P w K mg base (k+1) "parts_but_of_rings" F:=by
 obtain⟨hL,hq⟩:=h;obtain⟨fd,Fu,bi⟩:=T.aFc;refine⟨_,_,_,T.aDp,Fu.kp,bi,hL,aP2 Fu aH3 hL fun cdv A outer s H E hr=>⟨aBv t aEr,fun B=> ?_,hq⟩⟩;refine aAc ?_ ?_;(refine aAo ?_;(refine bI2 ?_ ?_ ?_;(refine aBs ?_ ?_;(refine aA2 ?_ ?_ (fun _ _=>rfl);(exact aAd 0);(exact aAh));(exact aAt));(refine aNa ?_;(exact aAg));(refine aAq aY5 hr rfl ?_;(refine aAa ?_ ?_;(exact aAd 0);(exact aAg)))));(exact aAe)
def aIz:List Str:=["top","below_of","ahead","order","here","below"]
theorem aFo:aBg aIz ["top","below_of"] (aAp aPl):=by constructor<;>first | rfl | decide+kernel
def aGd (t:Adr)(Φ:D->List D->M D):Rho->Option Out:=
  (aAk (sNew 2 (aAb (look 0) aAn))
  (aAk (sNew 3 aAn)
  (aAk (aZ0 (aAm (b2 gGt (f1 aJb (look 2)) (con (.int 0)))) (aAk (bLb 4 2)
  (aAk (aX0 5 Φ 1 (aAb (look 4) aAn))
  (aAk (aQr aYf 3 (aAb (mkT (aAb (look 4) (aAb (f1 aJb (look 5)) aAn))) aAn))
  (aAk (bDc 2 (aAb (look 5) aAn))
  aAr)))))
  (aAk (aBw (f1 bRa (look 3)))
  aAr))))
theorem aU8 (T:Txt K mg t){k:Nat}{Φ:D->List D->M D}(GF:aO8 P w K mg base t.tab pq k Φ){F:List D->M D}(hL: ∀ds r,F ds=some r->ds.length=2)(hq: ∀ds r,F ds=some r->aA0 (aGd t Φ (aBu aIz ds))=some r):aKs P w K mg base t.tab pq (k+1) "laid_out" F:=by
 obtain⟨fd,Fu,bi⟩:=T.aEt;refine⟨_,_,_,T.aYp,Fu.kp,bi,hL,aYs Fu aFo hL fun cdv A outer s H E hcv hT hr=>⟨aGd t Φ,fun B=> ?_,hq⟩⟩;refine aAc ?_ ?_;(refine aQ1 (i:=2) (aFo).nd rfl (Qz rfl) ?_;(refine aAa ?_ ?_;(exact aAd 0);(exact aAg)));(refine aAc ?_ ?_;(refine aQ1 (i:=3) (aFo).nd rfl (Qz rfl) ?_;(exact aAg));(refine aAc ?_ ?_;(refine bAp PassesOwn.leaving ?_ ?_;(refine aWr ?_ ?_;(refine aIb rfl T.aLm ?_;(exact aAd 2));(exact aAh));(refine aAc ?_ ?_;(exact bIv (i:=4) (j:=2) (aFo).nd rfl (Qz rfl) rfl (Qz rfl));(refine aAc ?_ ?_;(refine bEl (i:=5) (j:=1) GF hT hr (aFo).nd rfl (Qz rfl) ?_;(refine aAa ?_ ?_;(exact aAd 4);(exact aAg)));(refine aAc ?_ ?_;(refine aPv (i:=3) rfl (Qz rfl) ?_;(refine aBz ?_;(refine aAa ?_ ?_;(exact aAd 4);(refine aAa ?_ ?_;(refine aIb rfl T.aLm ?_;(exact aAd 5));(exact aAg)))));(refine aAc ?_ ?_;(refine aPu (i:=2) rfl (Qz rfl) ?_;(exact aAd 5));(exact aAe))))));(refine aAc ?_ ?_;(refine aAo ?_;(refine bI0 rfl rfl T.bCy rfl T.aYx ?_;(exact aAd 3)));(exact aAe))))
def aEx:List Str:=["top","below_of","tell","told","here","many","below"]
def aGz:List Str:=["?0","?1","?2","told","?4","?5","?6","left"]
theorem aK2:aGz.Nodup:=by decide+kernel
theorem aD7:aBg aEx ["top","below_of","tell"] (aAp aI5):=by constructor<;>first | rfl | decide+kernel
def aDv (t:Adr)(aEt:List D->M D)(Φ:D->List D->M D):Rho->Option Out:=
  (aAk (sNew 3 aAn)
  (aAk (bD3 (app aEt (aAb (look 0) (aAb (look 1) aAn))) (gN2 4 5) (aAk (aX1 6 3 (look 5))
  (aAk (bLu 6)
  (aAk (aQr aYf 3 (aAb (aZe Φ 2 (aAb (look 4) (aAb (look 6) aAn))) aAn))
  aAr))))
  (aAk (aBw (b2 gIx (look 3) (con (.int 0))))
  aAr)))
theorem aNc (T:Txt K mg t){k:Nat}{aEt:List D->M D}(aY7:aKs P w K mg base t.tab pq k "laid_out" aEt){Φ:D->List D->M D}(GF:aO8 P w K mg base t.tab pq k Φ){F:List D->M D}(hL: ∀ds r,F ds=some r->ds.length=3)(hq: ∀ds r,F ds=some r->aA0 (aDv t aEt Φ (aBu aEx ds))=some r):aKs P w K mg base t.tab pq (k+1) "told_through" F:=by
 obtain⟨fd,Fu,bi⟩:=T.aCj;refine⟨_,_,_,T.aOt,Fu.kp,bi,hL,aYs Fu aD7 hL fun cdv A outer s H E hcv hT hr=>⟨aDv t aEt Φ,fun B=> ?_,hq⟩⟩;refine aAc ?_ ?_;(refine aQ1 (i:=3) (aD7).nd rfl (Yi rfl) ?_;(exact aAg));(refine aAc ?_ ?_;(refine bEp PassesOwn.leaving rfl ?_ (fun B=> ?_) (fun B=> ?_);(refine aEu aY7 hT hr rfl ?_;(refine aAa ?_ ?_;(exact aAd 0);(refine aAa ?_ ?_;(exact aAd 1);(exact aAg))));(exact bEs (i:=4) (j:=5) rfl (aD7).nd rfl (Qz rfl) rfl (Qz rfl));(refine aAc ?_ ?_;(refine bEm (Gc:=h1) (N':=aGz) (m:=1) (ks:=[7]) (i:=6) (j:=3) (aD7).nd rfl (Qz rfl) rfl rfl rfl rfl (by repeat (first | exact aL1 | refine aIf rfl (by first | exact Qz rfl | exact Yi rfl) ?_)) rfl rfl rfl rfl rfl rfl T.aJ1 ?_ (fun C s₀ H₀ ex=> ?_) (fun _=>⟨_,rfl⟩) (by show 3<7;decide) rfl (fun _ _ _ _=>by first | exact Qz rfl | exact Yi (Qz rfl) | exact Yi (Yi rfl));(exact aAd 5);(exact aSv aK2 rfl (Qz rfl)));(refine aAc ?_ ?_;(exact aU0 (i:=6) rfl (Qz rfl));(refine aAc ?_ ?_;(refine aPv (i:=3) rfl (Yi (Qz rfl)) ?_;(refine bEt 2 GF hT hr ?_;(refine aAa ?_ ?_;(exact aAd 4);(refine aAa ?_ ?_;(exact aAd 6);(exact aAg)))));(exact aAe)))));(refine aAc ?_ ?_;(refine aAo ?_;(refine aA2 ?_ ?_ (fun _ _=>rfl);(exact aAd 3);(exact aAh)));(exact aAe)))
def aDk:List Str:=["question","tell"]
theorem aJ6:aBg aDk ["question","tell"] (aAp aGt):=by constructor<;>first | rfl | decide+kernel
def aCt (t:Adr)(aCj:List D->M D):Rho->Option Out:=
  (aAk (aBw (app aCj (aAb (look 0) (aAb (con (.fn t.aBo)) (aAb (look 1) aAn)))))
  aAr)
theorem aKk (T:Txt K mg t){k:Nat}{aCj:List D->M D}(aO3:aKs P w K mg base t.tab pq k "told_through" aCj){F:List D->M D}(hL: ∀ds r,F ds=some r->ds.length=2)(hq: ∀ds r,F ds=some r->aA0 (aCt t aCj (aBu aDk ds))=some r):aKs P w K mg base t.tab pq (k+1) "told_from_parts" F:=by
 obtain⟨fd,Fu,bi⟩:=T.aBy;refine⟨_,_,_,T.aK8,Fu.kp,bi,hL,aYs Fu aJ6 hL fun cdv A outer s H E hcv hT hr=>⟨aCt t aCj,fun B=> ?_,hq⟩⟩;refine aAc ?_ ?_;(refine aAo ?_;(refine aEu aO3 hT hr rfl ?_;(refine aAa ?_ ?_;(exact aAd 0);(refine aAa ?_ ?_;(exact bMx rfl T.aDp);(refine aAa ?_ ?_;(exact aAd 1);(exact aAg))))));(exact aAe)
def aAu:Clo:=match aCu aD9 with
 | .FunctionDef nm pr body _ _ _ scope _ _ _::_=>⟨nm,"head_of.<locals>.tell",pr,body,scope,"heads"⟩
 | _=>⟨"","",aEe (top 0),[],aAp (top 0),""⟩
def aE0:List Str:=["part","below","heads"]
theorem aMa:aR8 aE0 ["part","below"] aAu:=⟨rfl,rfl,rfl,by decide+kernel,rfl,by decide+kernel,rfl,by decide+kernel,bHk (by decide+kernel),fun us ca doc pm cd ctv h=>by obtain⟨_,_,rfl⟩:=PU.ar2 us h;rfl⟩
def aDx (t:Adr)(aCm:List D->M D):Rho->Option Out:=
  (aAk (aBw (app aCm (aAb (look 0) (aAb (look 1) (aAb (look 2) aAn)))))
  aAr)
theorem aNg (T:Txt K mg t){k:Nat}{aCm:List D->M D}(aO7:aKs P w K mg base t.tab pq k "head_by_word" aCm){F:List D->M D}(hL: ∀ds r,F ds=some r->ds.length=3)(hq: ∀ds r,F ds=some r->aA0 (aDx t aCm (aBu aE0 ds))=some r):bGh P w K mg base t.tab pq (k+1) aAu F:=by
 refine bQo aMa hL fun f ca cdv A outer s H E hT hr=>⟨aDx t aCm,fun B=> ?_,hq⟩
 refine aAc ?_ ?_;(refine aAo ?_;(refine aEu aO7 hT hr rfl ?_;(refine aAa ?_ ?_;(exact aAd 0);(refine aAa ?_ ?_;(exact aAd 1);(refine aAa ?_ ?_;(exact aAd 2);(exact aAg))))));(exact aAe)
def aKq:List Str:=["question","heads","tell"]
theorem aPe:aBg aKq ["question","heads"] (aAp aD9):=by constructor<;>first | rfl | decide+kernel
def aJy (t:Adr)(aBy:List D->M D):Rho->Option Out:=
  (aZ3 aAu 2 1 aBy (look 0))
theorem aYb (T:Txt K mg t){k:Nat}{aBy:List D->M D}(aLo:aKs P w K mg base t.tab pq k "told_from_parts" aBy)(hC:Jp base t.cd t.tab)(hB:Blt mg base)(hcd: ∀fd,Fun K "head_of" "head_of" aD9 t.aE4 fd->fd.code= .ref t.cd){F:List D->M D}(hL: ∀ds r,F ds=some r->ds.length=2)(hq: ∀ds r,F ds=some r->aA0 (aJy t aBy (aBu aKq ds))=some r):aKs P w K mg base t.tab pq (k+1) "head_of" F:=by
 obtain⟨fd,Fu,bi⟩:=T.aCg;refine⟨_,_,_,T.bBz,Fu.kp,bi,hL,aYs Fu aPe hL fun cdv A outer s H E hcv hT hr=>⟨aJy t aBy,fun B=> ?_,hq⟩⟩;have hcode:=hcv.symm.trans (hcd _ Fu);subst hcode;have hcode:(Z7 t.cd)= .ref t.cd:=rfl;refine bAt (c:=aAu) (it:=2) (iy:=1) aLo hT hr hcode hC hB (aPe).nd rfl rfl rfl ?_;(exact aAd 0)
def aE1:List Str:=["part","below","heads","word"]
theorem aH5:aBg aE1 ["part","below","heads"] (aAp aI9):=by constructor<;>first | rfl | decide+kernel
def aDy (t:Adr)(aCx:List D->M D)(aCa:List D->M D)(aCw:List D->M D)(aD3:List D->M D)(aDe:List D->M D)(aDd:List D->M D)(aBd:List D->M D):Rho->Option Out:=
  (aAk (aB6 3 (b2 gIx (look 0) (con (.int 0))))
  (aAk (sIf (aAm (b2 gEq (look 3) (con (.str "table")))) (aAk (aBw (app aDd (aAb (b2 gIx (look 0) (con (.int 1))) (aAb (look 2) aAn))))
  aAr) aAr)
  (aAk (sIf (aAm (b2 gEq (look 3) (con (.str "ring")))) (aAk (aBw (app aDe (aAb (look 0) (aAb (look 2) aAn))))
  aAr) aAr)
  (aAk (sIf (aAm (b2 gEq (look 3) (con (.str "pick")))) (aAk (aM5 (app aCa (aAb (b2 gIx (look 0) (con (.int 1))) (aAb (b2 gIx (look 1) (con (.int 0))) aAn))))
  (aAk (aBw (b2 gIx (look 1) (con (.int 0))))
  aAr)) aAr)
  (aAk (sIf (aAm (b2 gEq (look 3) (con (.str "keep")))) (aAk (aBw (app aD3 (aAb (b2 gIx (look 1) (con (.int 0))) (aAb (b2 gIx (look 0) (con (.int 1))) aAn))))
  aAr) aAr)
  (aAk (sIf (aAm (b2 gEq (look 3) (con (.str "call")))) (aAk (aBw (app aCx (aAb (b2 gIx (look 1) (con (.int 0))) (aAb (b2 gIx (look 0) (con (.int 1))) (aAb (b2 gIx (look 0) (con (.int 2))) aAn)))))
  aAr) aAr)
  (aAk (sIf (aAm (b2 gEq (look 3) (con (.str "join")))) (aAk (aBw (app aCw (aAb (b2 gIx (look 1) (con (.int 0))) (aAb (b2 gIx (look 1) (con (.int 1))) aAn))))
  aAr) aAr)
  (aAk (aBw (app aBd (aAb (b2 gIx (look 1) (con (.int 0))) (aAb (b2 gIx (look 1) (con (.int 1))) aAn))))
  aAr))))))))
theorem aNh (T:Txt K mg t){k:Nat}{aCx:List D->M D}(aR7:Def P w K mg base k "called_head" aCx){aCa:List D->M D}(aN5:Def P w K mg base k "check_columns" aCa){aCw:List D->M D}(aR6:Def P w K mg base k "joined_head" aCw){aD3:List D->M D}(aV9:Def P w K mg base k "kept_head" aD3){aDe:List D->M D}(aV7:aKs P w K mg base t.tab pq k "ring_head" aDe){aDd:List D->M D}(aT9:Def P w K mg base k "table_head" aDd){aBd:List D->M D}(aFy:Def P w K mg base k "together_head" aBd){F:List D->M D}(hL: ∀ds r,F ds=some r->ds.length=3)(hq: ∀ds r,F ds=some r->aA0 (aDy t aCx aCa aCw aD3 aDe aDd aBd (aBu aE1 ds))=some r):aKs P w K mg base t.tab pq (k+1) "head_by_word" F:=by
 obtain⟨fd,Fu,bi⟩:=T.aCm;refine⟨_,_,_,T.aOw,Fu.kp,bi,hL,aYs Fu aH5 hL fun cdv A outer s H E hcv hT hr=>⟨aDy t aCx aCa aCw aD3 aDe aDd aBd,fun B=> ?_,hq⟩⟩;refine aAc ?_ ?_;(refine aA6 (i:=3) (aH5).nd rfl (Qz rfl) ?_;(refine aA2 ?_ ?_ (fun _ _=>rfl);(exact aAd 0);(exact aAh)));(refine aAc ?_ ?_;(refine aA3 ?_ ?_ ?_;(refine aBs ?_ ?_;(exact aAd 3);(exact aAt));(refine aAc ?_ ?_;(refine aAo ?_;(refine aAq aT9 hr rfl ?_;(refine aAa ?_ ?_;(refine aA2 ?_ ?_ (fun _ _=>rfl);(exact aAd 0);(exact aAh));(refine aAa ?_ ?_;(exact aAd 2);(exact aAg)))));(exact aAe));(exact aAe));(refine aAc ?_ ?_;(refine aA3 ?_ ?_ ?_;(refine aBs ?_ ?_;(exact aAd 3);(exact aAt));(refine aAc ?_ ?_;(refine aAo ?_;(refine aEu aV7 hT hr rfl ?_;(refine aAa ?_ ?_;(exact aAd 0);(refine aAa ?_ ?_;(exact aAd 2);(exact aAg)))));(exact aAe));(exact aAe));(refine aAc ?_ ?_;(refine aA3 ?_ ?_ ?_;(refine aBs ?_ ?_;(exact aAd 3);(exact aAt));(refine aAc ?_ ?_;(refine aWt ?_;(refine aAq aN5 hr rfl ?_;(refine aAa ?_ ?_;(refine aA2 ?_ ?_ (fun _ _=>rfl);(exact aAd 0);(exact aAh));(refine aAa ?_ ?_;(refine aA2 ?_ ?_ (fun _ _=>rfl);(exact aAd 1);(exact aAh));(exact aAg)))));(refine aAc ?_ ?_;(refine aAo ?_;(refine aA2 ?_ ?_ (fun _ _=>rfl);(exact aAd 1);(exact aAh)));(exact aAe)));(exact aAe));(refine aAc ?_ ?_;(refine aA3 ?_ ?_ ?_;(refine aBs ?_ ?_;(exact aAd 3);(exact aAt));(refine aAc ?_ ?_;(refine aAo ?_;(refine aAq aV9 hr rfl ?_;(refine aAa ?_ ?_;(refine aA2 ?_ ?_ (fun _ _=>rfl);(exact aAd 1);(exact aAh));(refine aAa ?_ ?_;(refine aA2 ?_ ?_ (fun _ _=>rfl);(exact aAd 0);(exact aAh));(exact aAg)))));(exact aAe));(exact aAe));(refine aAc ?_ ?_;(refine aA3 ?_ ?_ ?_;(refine aBs ?_ ?_;(exact aAd 3);(exact aAt));(refine aAc ?_ ?_;(refine aAo ?_;(refine aAq aR7 hr rfl ?_;(refine aAa ?_ ?_;(refine aA2 ?_ ?_ (fun _ _=>rfl);(exact aAd 1);(exact aAh));(refine aAa ?_ ?_;(refine aA2 ?_ ?_ (fun _ _=>rfl);(exact aAd 0);(exact aAh));(refine aAa ?_ ?_;(refine aA2 ?_ ?_ (fun _ _=>rfl);(exact aAd 0);(exact aAh));(exact aAg))))));(exact aAe));(exact aAe));(refine aAc ?_ ?_;(refine aA3 ?_ ?_ ?_;(refine aBs ?_ ?_;(exact aAd 3);(exact aAt));(refine aAc ?_ ?_;(refine aAo ?_;(refine aAq aR6 hr rfl ?_;(refine aAa ?_ ?_;(refine aA2 ?_ ?_ (fun _ _=>rfl);(exact aAd 1);(exact aAh));(refine aAa ?_ ?_;(refine aA2 ?_ ?_ (fun _ _=>rfl);(exact aAd 1);(exact aAh));(exact aAg)))));(exact aAe));(exact aAe));(refine aAc ?_ ?_;(refine aAo ?_;(refine aAq aFy hr rfl ?_;(refine aAa ?_ ?_;(refine aA2 ?_ ?_ (fun _ _=>rfl);(exact aAd 1);(exact aAh));(refine aAa ?_ ?_;(refine aA2 ?_ ?_ (fun _ _=>rfl);(exact aAd 1);(exact aAh));(exact aAg)))));(exact aAe))))))))
def aGf:List Str:=["name","heads"]
theorem aQm:aBg aGf ["name","heads"] (aAp aLx):=by constructor<;>first | rfl | decide+kernel
def aEv (t:Adr):Rho->Option Out:=
  (aAk (sIf (aAm (b2 (aVt true) (look 0) (look 1))) (aAk (aEj t.aA1 (aAb (jnd (aMq "there is no table " (aTe (look 0) aSa))) aAn))
  aAr) aAr)
  (aAk (aBw (b2 bB2 (look 1) (look 0)))
  aAr))
theorem aQ3 (T:Txt K mg t){k:Nat}{F:List D->M D}(hL: ∀ds r,F ds=some r->ds.length=2)(hq: ∀ds r,F ds=some r->aA0 (aEv t (aBu aGf ds))=some r):Def P w K mg base (k+1) "table_head" F:=by
 obtain⟨fd,Fu,bi⟩:=T.aDd;refine⟨_,_,_,T.aTj,Fu.kp,bi,hL,bLd Fu aQm hL fun cdv A outer s H E hr=>⟨aEv t,fun B=> ?_,hq⟩⟩;refine aAc ?_ ?_;(refine aA3 ?_ ?_ ?_;(refine aX6 hr ?_ ?_;(exact aAd 0);(exact aAd 1));(refine aAc ?_ ?_;(refine aE2 Zr T.aXu T.aTo rfl rfl ?_;(refine aAa ?_ ?_;(refine aGv ?_;(refine aKf ?_;(refine aPr ?_ ?_;(exact aAd 0);(exact aPs))));(exact aAg)));(exact aAe));(exact aAe));(refine aAc ?_ ?_;(refine aAo ?_;(refine aWv hr ?_ ?_;(exact aAd 1);(exact aAd 0)));(exact aAe))
def aHe:List Str:=["ring","heads","name","start"]
theorem aH2:aBg aHe ["ring","heads"] (aAp aMx):=by constructor<;>first | rfl | decide+kernel
def aFg (t:Adr)(aCg:List D->M D)(aBd:List D->M D)(aEq:List D->M D):Rho->Option Out:=
  (aAk (aB6 2 (b2 gIx (look 0) (con (.int 1))))
  (aAk (sIf (aAm (b2 (aVt false) (look 2) (look 1))) (aAk (aEj t.aBr (aAb (jnd (aMq "there is a table or a ring " (aTe (look 2) (aMq " already" aSa)))) aAn))
  aAr) aAr)
  (aAk (aB6 3 (app aCg (aAb (b2 gIx (look 0) (con (.int 3))) (aAb (look 1) aAn))))
  (aAk (aBw (app aBd (aAb (look 3) (aAb (app aCg (aAb (b2 gIx (look 0) (con (.int 4))) (aAb (app aEq (aAb (look 1) (aAb (look 2) (aAb (look 3) aAn)))) aAn))) aAn))))
  aAr))))
theorem aSz (T:Txt K mg t){k:Nat}{aCg:List D->M D}(aKr:aKs P w K mg base t.tab pq k "head_of" aCg){aBd:List D->M D}(aFy:Def P w K mg base k "together_head" aBd){aEq:List D->M D}(aY4:Def P w K mg base k "with_key" aEq){F:List D->M D}(hL: ∀ds r,F ds=some r->ds.length=2)(hq: ∀ds r,F ds=some r->aA0 (aFg t aCg aBd aEq (aBu aHe ds))=some r):aKs P w K mg base t.tab pq (k+1) "ring_head" F:=by
 obtain⟨fd,Fu,bi⟩:=T.aDe;refine⟨_,_,_,T.aNu,Fu.kp,bi,hL,aYs Fu aH2 hL fun cdv A outer s H E hcv hT hr=>⟨aFg t aCg aBd aEq,fun B=> ?_,hq⟩⟩;refine aAc ?_ ?_;(refine aA6 (i:=2) (aH2).nd rfl (Qz rfl) ?_;(refine aA2 ?_ ?_ (fun _ _=>rfl);(exact aAd 0);(exact aAh)));(refine aAc ?_ ?_;(refine aA3 ?_ ?_ ?_;(refine aUz hr ?_ ?_;(exact aAd 2);(exact aAd 1));(refine aAc ?_ ?_;(refine aE2 Zr T.bDj T.bB0 rfl rfl ?_;(refine aAa ?_ ?_;(refine aGv ?_;(refine aKf ?_;(refine aPr ?_ ?_;(exact aAd 2);(refine aKf ?_;(exact aPs)))));(exact aAg)));(exact aAe));(exact aAe));(refine aAc ?_ ?_;(refine aA6 (i:=3) (aH2).nd rfl (Qz rfl) ?_;(refine aEu aKr hT hr rfl ?_;(refine aAa ?_ ?_;(refine aA2 ?_ ?_ (fun _ _=>rfl);(exact aAd 0);(exact aAh));(refine aAa ?_ ?_;(exact aAd 1);(exact aAg)))));(refine aAc ?_ ?_;(refine aAo ?_;(refine aAq aFy hr rfl ?_;(refine aAa ?_ ?_;(exact aAd 3);(refine aAa ?_ ?_;(refine aEu aKr hT hr rfl ?_;(refine aAa ?_ ?_;(refine aA2 ?_ ?_ (fun _ _=>rfl);(exact aAd 0);(exact aAh));(refine aAa ?_ ?_;(refine aAq aY4 hr rfl ?_;(refine aAa ?_ ?_;(exact aAd 1);(refine aAa ?_ ?_;(exact aAd 2);(refine aAa ?_ ?_;(exact aAd 3);(exact aAg)))));(exact aAg))));(exact aAg)))));(exact aAe))))
def aIt:List Str:=["one","key","value","other"]
theorem aMw:aBg aIt ["one","key","value"] (aAp aPf):=by constructor<;>first | rfl | decide+kernel
def aF9 (t:Adr):Rho->Option Out:=
  (aAk (aH8 3 (look 0))
  (aAk (aKc 3 (look 1) (look 2))
  (aAk (aBw (look 3))
  aAr)))
theorem aU2 (T:Txt K mg t){k:Nat}{F:List D->M D}(h:OkF 3 aIt (aF9 t) F):Def P w K mg base (k+1) "with_key" F:=by
 obtain⟨hL,hq⟩:=h;obtain⟨fd,Fu,bi⟩:=T.aEq;refine⟨_,_,_,T.aYj,Fu.kp,bi,hL,aP2 Fu aMw hL fun cdv A outer s H E hr=>⟨aF9 t,fun B=> ?_,hq⟩⟩;refine aAc ?_ ?_;(refine aKi (i:=3) rfl T.aXl (aMw).nd rfl (Qz rfl) ?_;(exact aAd 0));(refine aAc ?_ ?_;(refine aKh hr 3 ?_ ?_;(exact aAd 1);(exact aAd 2));(refine aAc ?_ ?_;(refine aAo ?_;(exact aAd 3));(exact aAe)))
def aIy:List Str:=["_law_script","_law_k"]
theorem aUr:aBg aIy ["_law_script","_law_k"] (aAp aPk):=by constructor<;>first | rfl | decide+kernel
def aE6 (t:Adr):Rho->Option Out:=
  (aAk (sIf (aAm (b2 gLt (look 1) (f1 aJb (look 0)))) (aAk (aBw (b2 aCc (b2 gIx (look 0) (look 1)) (b2 aD5 (con (.int 1009)) (look 1))))
  aAr) aAr)
  (aAk (aBw (b2 aD5 (con (.int 1009)) (look 1)))
  aAr))
theorem aU7 (T:Txt K mg t){k:Nat}{F:List D->M D}(h:OkF 2 aIy (aE6 t) F):Def P w K mg base (k+1) "_law_cell" F:=by
 obtain⟨hL,hq⟩:=h;obtain⟨fd,Fu,bi⟩:=T.aBn;refine⟨_,_,_,T.aYo,Fu.kp,bi,hL,aP2 Fu aUr hL fun cdv A outer s H E hr=>⟨aE6 t,fun B=> ?_,hq⟩⟩;refine aAc ?_ ?_;(refine aA3 ?_ ?_ ?_;(refine bMr ?_ ?_;(exact aAd 1);(refine aIb rfl T.aLm ?_;(exact aAd 0)));(refine aAc ?_ ?_;(refine aAo ?_;(refine aC5 ?_ ?_;(refine aA2 ?_ ?_ (fun _ _=>rfl);(exact aAd 0);(exact aAd 1));(refine aIo ?_ ?_;(exact aAh);(exact aAd 1))));(exact aAe));(exact aAe));(refine aAc ?_ ?_;(refine aAo ?_;(refine aIo ?_ ?_;(exact aAh);(exact aAd 1)));(exact aAe))
def aIx:List Str:=["_law_cell_here","_law_turn","_law_many"]
theorem aUq:aBg aIx ["_law_cell_here","_law_turn","_law_many"] (aAp aPj):=by constructor<;>first | rfl | decide+kernel
def aGc (t:Adr):Rho->Option Out:=
  (aAk (aBw (b2 aYq (b2 aYq (b2 aTq (b2 aCc (look 0) (con (.int 7))) (b2 aCc (con (.int 1327217885)) (b2 aD5 (b2 aD5 (con (.int 715225739)) (look 1)) (look 1)))) (con (.int 2147483629))) (look 2)))
  aAr)
theorem aU6 (T:Txt K mg t){k:Nat}{F:List D->M D}(h:OkF 3 aIx (aGc t) F):Def P w K mg base (k+1) "_law_draw" F:=by
 obtain⟨hL,hq⟩:=h;obtain⟨fd,Fu,bi⟩:=T.aAi;refine⟨_,_,_,T.aYn,Fu.kp,bi,hL,aP2 Fu aUq hL fun cdv A outer s H E hr=>⟨aGc t,fun B=> ?_,hq⟩⟩;refine aAc ?_ ?_;(refine aAo ?_;(refine aWu ?_ ?_;(refine aWu ?_ ?_;(refine bIx ?_ ?_;(refine aC5 ?_ ?_;(exact aAd 0);(exact aAh));(refine aC5 ?_ ?_;(exact aAh);(refine aIo ?_ ?_;(refine aIo ?_ ?_;(exact aAh);(exact aAd 1));(exact aAd 1))));(exact aAh));(exact aAd 2)));(exact aAe)
def aHf:List Str:=["_law_cell_here","_law_many","_law_at"]
def aJh:List Str:=["?0","?1","_law_at","_law_k"]
theorem aOn:aJh.Nodup:=by decide+kernel
def aJg:List Str:=["?0","?1","?2","_law_k"]
theorem aOm:aJg.Nodup:=by decide+kernel
theorem aLv:aBg aHf ["_law_cell_here","_law_many"] (aAp aMy):=by constructor<;>first | rfl | decide+kernel
def aEb (t:Adr)(aAi:List D->M D):Rho->Option Out:=
  (aAk (sIf (aAm (b2 gEq (app aAi (aAb (look 0) (aAb (con (.int 1)) (aAb (con (.int 3)) aAn)))) (con (.int 0)))) (aAk (aBw (cmp 1 (itR (look 1)) [3] h1 (fun _=>ok true) (b2 aD5 (con (.str "x")) (look 3))))
  aAr) aAr)
  (aAk (aB6 2 (app aAi (aAb (look 0) (aAb (con (.int 2)) (aAb (con (.int 4)) aAn)))))
  (aAk (aBw (cmp 1 (itR (look 1)) [3] h1 (fun _=>ok true) (b2 aCc (b2 aCc (aMt (con (.str "m-m")) aFq (aFe (look 2))) (b2 gIx (con (.str "aA bB.1~0!_-")) (look 3))) (aMt (con (.str "m-m")) (aFe (look 2)) aFq))))
  aAr)))
theorem aS0 (T:Txt K mg t){k:Nat}{aAi:List D->M D}(aAx:Def P w K mg base k "_law_draw" aAi){F:List D->M D}(h:OkF 2 aHf (aEb t aAi) F):Def P w K mg base (k+1) "_law_words" F:=by
 obtain⟨hL,hq⟩:=h;obtain⟨fd,Fu,bi⟩:=T.aDf;refine⟨_,_,_,T.aVo,Fu.kp,bi,hL,aP2 Fu aLv hL fun cdv A outer s H E hr=>⟨aEb t aAi,fun B=> ?_,hq⟩⟩;refine aAc ?_ ?_;(refine aA3 ?_ ?_ ?_;(refine aBs ?_ ?_;(refine aAq aAx hr rfl ?_;(refine aAa ?_ ?_;(exact aAd 0);(refine aAa ?_ ?_;(exact aAh);(refine aAa ?_ ?_;(exact aAh);(exact aAg)))));(exact aAh));(refine aAc ?_ ?_;(refine aAo ?_;(refine aG3 (N':=aJg) (m:=1) (ks:=[3]) rfl rfl rfl rfl (by repeat (first | exact aL1 | refine aIf rfl (by first | exact Qz rfl | exact Yi rfl) ?_)) rfl rfl rfl rfl rfl ?_ (fun C s₀ H₀ ex=> ?_) (fun C s₀ H₀ ex B=> ?_) (fun C s₀ H₀ ex B=> ?_);(refine bAj rfl T.aJ1 ?_;(exact aAd 1));(exact aSv aOm rfl (Qz rfl));(exact aKg);(refine aIo ?_ ?_;(exact aAt);(exact aAd 3))));(exact aAe));(exact aAe));(refine aAc ?_ ?_;(refine aA6 (i:=2) (aLv).nd rfl (Yi rfl) ?_;(refine aAq aAx hr rfl ?_;(refine aAa ?_ ?_;(exact aAd 0);(refine aAa ?_ ?_;(exact aAh);(refine aAa ?_ ?_;(exact aAh);(exact aAg))))));(refine aAc ?_ ?_;(refine aAo ?_;(refine aG3 (N':=aJh) (m:=1) (ks:=[3]) rfl rfl rfl rfl (by repeat (first | exact aL1 | refine aIf rfl (by first | exact Qz rfl | exact Yi rfl) ?_)) rfl rfl rfl rfl rfl ?_ (fun C s₀ H₀ ex=> ?_) (fun C s₀ H₀ ex B=> ?_) (fun C s₀ H₀ ex B=> ?_);(refine bAj rfl T.aJ1 ?_;(exact aAd 1));(exact aSv aOn rfl (Qz rfl));(exact aKg);(refine aC5 ?_ ?_;(refine aC5 ?_ ?_;(refine aF6 ?_ ?_ ?_;(exact aAt);(exact aF4);(refine aF3 ?_;(exact aAd 2)));(refine aA2 ?_ ?_ (fun _ _=>rfl);(exact aAt);(exact aAd 3)));(refine aF6 ?_ ?_ ?_;(exact aAt);(refine aF3 ?_;(exact aAd 2));(exact aF4)))));(exact aAe)))
def aFj:List Str:=["_law_head","_law_cell_here","_law_at"]
theorem aI4:aBg aFj ["_law_head","_law_cell_here"] (aAp aJ8):=by constructor<;>first | rfl | decide+kernel
def aC7 (t:Adr)(aAi:List D->M D):Rho->Option Out:=
  (aAk (sIf (aAm (b2 gEq (f1 aJb (look 0)) (con (.int 0)))) (aAk (aBw (look 0))
  aAr) aAr)
  (aAk (aB6 2 (app aAi (aAb (look 1) (aAb (con (.int 21)) (aAb (f1 aJb (look 0)) aAn)))))
  (aAk (aBw (b2 aCc (aMt (look 0) (aFe (look 2)) aFq) (aMt (look 0) aFq (aFe (look 2)))))
  aAr)))
theorem aOh (T:Txt K mg t){k:Nat}{aAi:List D->M D}(aAx:Def P w K mg base k "_law_draw" aAi){F:List D->M D}(h:OkF 2 aFj (aC7 t aAi) F):Def P w K mg base (k+1) "_law_rotated" F:=by
 obtain⟨hL,hq⟩:=h;obtain⟨fd,Fu,bi⟩:=T.aBm;refine⟨_,_,_,T.aRm,Fu.kp,bi,hL,aP2 Fu aI4 hL fun cdv A outer s H E hr=>⟨aC7 t aAi,fun B=> ?_,hq⟩⟩;refine aAc ?_ ?_;(refine aA3 ?_ ?_ ?_;(refine aBs ?_ ?_;(refine aIb rfl T.aLm ?_;(exact aAd 0));(exact aAh));(refine aAc ?_ ?_;(refine aAo ?_;(exact aAd 0));(exact aAe));(exact aAe));(refine aAc ?_ ?_;(refine aA6 (i:=2) (aI4).nd rfl (Qz rfl) ?_;(refine aAq aAx hr rfl ?_;(refine aAa ?_ ?_;(exact aAd 1);(refine aAa ?_ ?_;(exact aAh);(refine aAa ?_ ?_;(refine aIb rfl T.aLm ?_;(exact aAd 0));(exact aAg))))));(refine aAc ?_ ?_;(refine aAo ?_;(refine aC5 ?_ ?_;(refine aF6 ?_ ?_ ?_;(exact aAd 0);(refine aF3 ?_;(exact aAd 2));(exact aF4));(refine aF6 ?_ ?_ ?_;(exact aAd 0);(exact aF4);(refine aF3 ?_;(exact aAd 2)))));(exact aAe)))
def aHi:List Str:=["_law_test"]
theorem aOc:aBg aHi ["_law_test"] (aAp aJ9):=by constructor<;>first | rfl | decide+kernel
def aBb (t:Adr)(aBa:List D->M D):Rho->Option Out:=
  (aAk (sIf (aAm (b2 gEq (b2 gIx (look 0) (con (.int 0))) (con (.str "is")))) (aAk (aBw (mkL (aAb (b2 gIx (look 0) (con (.int 1))) aAn)))
  aAr) aAr)
  (aAk (sIf (aAm (b2 gEq (b2 gIx (look 0) (con (.int 0))) (con (.str "same")))) (aAk (aBw (mkL (aAb (b2 gIx (look 0) (con (.int 1))) (aAb (b2 gIx (look 0) (con (.int 2))) aAn))))
  aAr) aAr)
  (aAk (sIf (aAm (b2 gEq (b2 gIx (look 0) (con (.int 0))) (con (.str "not")))) (aAk (aBw (app aBa (aAb (b2 gIx (look 0) (con (.int 1))) aAn)))
  aAr) aAr)
  (aAk (aBw (b2 aCc (app aBa (aAb (b2 gIx (look 0) (con (.int 1))) aAn)) (app aBa (aAb (b2 gIx (look 0) (con (.int 2))) aAn))))
  aAr))))
theorem aOi (T:Txt K mg t){k:Nat}{aBa:List D->M D}(aEi:Def P w K mg base k "_law_columns" aBa){F:List D->M D}(h:OkF 1 aHi (aBb t aBa) F):Def P w K mg base (k+1) "_law_columns" F:=by
 obtain⟨hL,hq⟩:=h;obtain⟨fd,Fu,bi⟩:=T.aBa;refine⟨_,_,_,T.aKo,Fu.kp,bi,hL,aP2 Fu aOc hL fun cdv A outer s H E hr=>⟨aBb t aBa,fun B=> ?_,hq⟩⟩;refine aAc ?_ ?_;(refine aA3 ?_ ?_ ?_;(refine aBs ?_ ?_;(refine aA2 ?_ ?_ (fun _ _=>rfl);(exact aAd 0);(exact aAh));(exact aAt));(refine aAc ?_ ?_;(refine aAo ?_;(refine aNa ?_;(refine aAa ?_ ?_;(refine aA2 ?_ ?_ (fun _ _=>rfl);(exact aAd 0);(exact aAh));(exact aAg))));(exact aAe));(exact aAe));(refine aAc ?_ ?_;(refine aA3 ?_ ?_ ?_;(refine aBs ?_ ?_;(refine aA2 ?_ ?_ (fun _ _=>rfl);(exact aAd 0);(exact aAh));(exact aAt));(refine aAc ?_ ?_;(refine aAo ?_;(refine aNa ?_;(refine aAa ?_ ?_;(refine aA2 ?_ ?_ (fun _ _=>rfl);(exact aAd 0);(exact aAh));(refine aAa ?_ ?_;(refine aA2 ?_ ?_ (fun _ _=>rfl);(exact aAd 0);(exact aAh));(exact aAg)))));(exact aAe));(exact aAe));(refine aAc ?_ ?_;(refine aA3 ?_ ?_ ?_;(refine aBs ?_ ?_;(refine aA2 ?_ ?_ (fun _ _=>rfl);(exact aAd 0);(exact aAh));(exact aAt));(refine aAc ?_ ?_;(refine aAo ?_;(refine aAq aEi hr rfl ?_;(refine aAa ?_ ?_;(refine aA2 ?_ ?_ (fun _ _=>rfl);(exact aAd 0);(exact aAh));(exact aAg))));(exact aAe));(exact aAe));(refine aAc ?_ ?_;(refine aAo ?_;(refine aC5 ?_ ?_;(refine aAq aEi hr rfl ?_;(refine aAa ?_ ?_;(refine aA2 ?_ ?_ (fun _ _=>rfl);(exact aAd 0);(exact aAh));(exact aAg)));(refine aAq aEi hr rfl ?_;(refine aAa ?_ ?_;(refine aA2 ?_ ?_ (fun _ _=>rfl);(exact aAd 0);(exact aAh));(exact aAg)))));(exact aAe))))
def aFi:List Str:=["_law_question_here","_law_heads_here","_law_one","_law_other"]
def aHt:List Str:=["?0","?1","_law_one","?3","_law_name"]
theorem aMh:aHt.Nodup:=by decide+kernel
theorem aGi:aBg aFi ["_law_question_here","_law_heads_here"] (aAp aJ7):=by constructor<;>first | rfl | decide+kernel
def aEc (t:Adr)(aA8:List D->M D):Rho->Option Out:=
  (aAk (aB6 2 (app aA8 (aAb (b2 gIx (look 0) (con (.int 1))) (aAb (look 1) aAn))))
  (aAk (sIf (aAm (b2 gEq (b2 gIx (look 2) (con (.int 0))) (con (.str "no")))) (aAk (aBw (look 2))
  aAr) aAr)
  (aAk (aB6 3 (app aA8 (aAb (b2 gIx (look 0) (con (.int 2))) (aAb (look 1) aAn))))
  (aAk (sIf (aAm (b2 gEq (b2 gIx (look 3) (con (.int 0))) (con (.str "no")))) (aAk (aBw (look 3))
  aAr) aAr)
  (aAk (sIf (aAm (b2 gEq (b2 gIx (look 0) (con (.int 0))) (con (.str "join")))) (aAk (aBw (mkT (aAb (con (.str "head")) (aAb (b2 aCc (b2 gIx (look 2) (con (.int 1))) (f1 toT (cmp 1 (itE (b2 gIx (look 3) (con (.int 1)))) [4] h1 (aAm (b2 (gIn true) (look 4) (b2 gIx (look 2) (con (.int 1))))) (look 4)))) aAn))))
  aAr) aAr)
  (aAk (sIf (aAm (b2 bHi (f1 toS (b2 gIx (look 2) (con (.int 1)))) (f1 toS (b2 gIx (look 3) (con (.int 1)))))) (aAk (aBw (mkT (aAb (con (.str "no")) (aAb (con (.str "NoFit")) aAn))))
  aAr) aAr)
  (aAk (aBw (look 2))
  aAr)))))))
theorem aOg (T:Txt K mg t){k:Nat}{aA8:List D->M D}(aDt:Def P w K mg base k "_law_due" aA8){F:List D->M D}(h:OkF 2 aFi (aEc t aA8) F):Def P w K mg base (k+1) "_law_two_due" F:=by
 obtain⟨hL,hq⟩:=h;obtain⟨fd,Fu,bi⟩:=T.aCf;refine⟨_,_,_,T.aKn,Fu.kp,bi,hL,aP2 Fu aGi hL fun cdv A outer s H E hr=>⟨aEc t aA8,fun B=> ?_,hq⟩⟩;refine aAc ?_ ?_;(refine aA6 (i:=2) (aGi).nd rfl (Yi rfl) ?_;(refine aAq aDt hr rfl ?_;(refine aAa ?_ ?_;(refine aA2 ?_ ?_ (fun _ _=>rfl);(exact aAd 0);(exact aAh));(refine aAa ?_ ?_;(exact aAd 1);(exact aAg)))));(refine aAc ?_ ?_;(refine aA3 ?_ ?_ ?_;(refine aBs ?_ ?_;(refine aA2 ?_ ?_ (fun _ _=>rfl);(exact aAd 2);(exact aAh));(exact aAt));(refine aAc ?_ ?_;(refine aAo ?_;(exact aAd 2));(exact aAe));(exact aAe));(refine aAc ?_ ?_;(refine aA6 (i:=3) (aGi).nd rfl (Qz rfl) ?_;(refine aAq aDt hr rfl ?_;(refine aAa ?_ ?_;(refine aA2 ?_ ?_ (fun _ _=>rfl);(exact aAd 0);(exact aAh));(refine aAa ?_ ?_;(exact aAd 1);(exact aAg)))));(refine aAc ?_ ?_;(refine aA3 ?_ ?_ ?_;(refine aBs ?_ ?_;(refine aA2 ?_ ?_ (fun _ _=>rfl);(exact aAd 3);(exact aAh));(exact aAt));(refine aAc ?_ ?_;(refine aAo ?_;(exact aAd 3));(exact aAe));(exact aAe));(refine aAc ?_ ?_;(refine aA3 ?_ ?_ ?_;(refine aBs ?_ ?_;(refine aA2 ?_ ?_ (fun _ _=>rfl);(exact aAd 0);(exact aAh));(exact aAt));(refine aAc ?_ ?_;(refine aAo ?_;(refine aBz ?_;(refine aAa ?_ ?_;(exact aAt);(refine aAa ?_ ?_;(refine aC5 ?_ ?_;(refine aA2 ?_ ?_ (fun _ _=>rfl);(exact aAd 2);(exact aAh));(refine aFd rfl T.aGr ?_;(refine aG3 (N':=aHt) (m:=1) (ks:=[4]) rfl rfl rfl rfl (by repeat (first | exact aL1 | refine aIf rfl (by first | exact Qz rfl | exact Yi rfl) ?_)) rfl rfl rfl rfl rfl ?_ (fun C s₀ H₀ ex=> ?_) (fun C s₀ H₀ ex B=> ?_) (fun C s₀ H₀ ex B=> ?_);(refine bEc ?_;(refine aA2 ?_ ?_ (fun _ _=>rfl);(exact aAd 3);(exact aAh)));(exact aSv aMh rfl (Qz rfl));(refine aWp ?_;(refine aGu ?_ ?_;(exact aAd 4);(refine aA2 ?_ ?_ (fun _ _=>rfl);(exact aAd 2);(exact aAh))));(exact aAd 4))));(exact aAg)))));(exact aAe));(exact aAe));(refine aAc ?_ ?_;(refine aA3 ?_ ?_ ?_;(refine aUy hr ?_ ?_;(refine aKj rfl rfl T.aR3 ?_;(refine aA2 ?_ ?_ (fun _ _=>rfl);(exact aAd 2);(exact aAh)));(refine aKj rfl rfl T.aR3 ?_;(refine aA2 ?_ ?_ (fun _ _=>rfl);(exact aAd 3);(exact aAh))));(refine aAc ?_ ?_;(refine aAo ?_;(refine aBz ?_;(refine aAa ?_ ?_;(exact aAt);(refine aAa ?_ ?_;(exact aAt);(exact aAg)))));(exact aAe));(exact aAe));(refine aAc ?_ ?_;(refine aAo ?_;(exact aAd 2));(exact aAe)))))))
def aEy:List Str:=["_law_question_here","_law_heads_here","_law_start","_law_within","_law_step"]
theorem aD8:aBg aEy ["_law_question_here","_law_heads_here"] (aAp aI6):=by constructor<;>first | rfl | decide+kernel
def aDw (t:Adr)(aA8:List D->M D):Rho->Option Out:=
  (aAk (sIf (aAm (b2 (aVt false) (b2 gIx (look 0) (con (.int 1))) (look 1))) (aAk (aBw (mkT (aAb (con (.str "no")) (aAb (con (.str "Twice")) aAn))))
  aAr) aAr)
  (aAk (aB6 2 (app aA8 (aAb (b2 gIx (look 0) (con (.int 3))) (aAb (look 1) aAn))))
  (aAk (sIf (aAm (b2 gEq (b2 gIx (look 2) (con (.int 0))) (con (.str "no")))) (aAk (aBw (look 2))
  aAr) aAr)
  (aAk (aH8 3 (look 1))
  (aAk (aKc 3 (b2 gIx (look 0) (con (.int 1))) (b2 gIx (look 2) (con (.int 1))))
  (aAk (aB6 4 (app aA8 (aAb (b2 gIx (look 0) (con (.int 4))) (aAb (look 3) aAn))))
  (aAk (sIf (aYy (aAm (b2 gEq (b2 gIx (look 4) (con (.int 0))) (con (.str "head")))) (aAm (b2 bHi (f1 toS (b2 gIx (look 4) (con (.int 1)))) (f1 toS (b2 gIx (look 2) (con (.int 1))))))) (aAk (aBw (mkT (aAb (con (.str "no")) (aAb (con (.str "NoFit")) aAn))))
  aAr) aAr)
  (aAk (sIf (aAm (b2 gEq (b2 gIx (look 4) (con (.int 0))) (con (.str "no")))) (aAk (aBw (look 4))
  aAr) aAr)
  (aAk (aBw (look 2))
  aAr)))))))))
theorem aNd (T:Txt K mg t){k:Nat}{aA8:List D->M D}(aDt:Def P w K mg base k "_law_due" aA8){F:List D->M D}(h:OkF 2 aEy (aDw t aA8) F):Def P w K mg base (k+1) "_law_ring_due" F:=by
 obtain⟨hL,hq⟩:=h;obtain⟨fd,Fu,bi⟩:=T.aB9;refine⟨_,_,_,T.aJd,Fu.kp,bi,hL,aP2 Fu aD8 hL fun cdv A outer s H E hr=>⟨aDw t aA8,fun B=> ?_,hq⟩⟩;refine aAc ?_ ?_;(refine aA3 ?_ ?_ ?_;(refine aUz hr ?_ ?_;(refine aA2 ?_ ?_ (fun _ _=>rfl);(exact aAd 0);(exact aAh));(exact aAd 1));(refine aAc ?_ ?_;(refine aAo ?_;(refine aBz ?_;(refine aAa ?_ ?_;(exact aAt);(refine aAa ?_ ?_;(exact aAt);(exact aAg)))));(exact aAe));(exact aAe));(refine aAc ?_ ?_;(refine aA6 (i:=2) (aD8).nd rfl (Qz rfl) ?_;(refine aAq aDt hr rfl ?_;(refine aAa ?_ ?_;(refine aA2 ?_ ?_ (fun _ _=>rfl);(exact aAd 0);(exact aAh));(refine aAa ?_ ?_;(exact aAd 1);(exact aAg)))));(refine aAc ?_ ?_;(refine aA3 ?_ ?_ ?_;(refine aBs ?_ ?_;(refine aA2 ?_ ?_ (fun _ _=>rfl);(exact aAd 2);(exact aAh));(exact aAt));(refine aAc ?_ ?_;(refine aAo ?_;(exact aAd 2));(exact aAe));(exact aAe));(refine aAc ?_ ?_;(refine aKi (i:=3) rfl T.aXl (aD8).nd rfl (Qz rfl) ?_;(exact aAd 1));(refine aAc ?_ ?_;(refine aKh hr 3 ?_ ?_;(refine aA2 ?_ ?_ (fun _ _=>rfl);(exact aAd 0);(exact aAh));(refine aA2 ?_ ?_ (fun _ _=>rfl);(exact aAd 2);(exact aAh)));(refine aAc ?_ ?_;(refine aA6 (i:=4) (aD8).nd rfl (Qz rfl) ?_;(refine aAq aDt hr rfl ?_;(refine aAa ?_ ?_;(refine aA2 ?_ ?_ (fun _ _=>rfl);(exact aAd 0);(exact aAh));(refine aAa ?_ ?_;(exact aAd 3);(exact aAg)))));(refine aAc ?_ ?_;(refine aA3 ?_ ?_ ?_;(refine PDW.pdt ?_;(refine aQy ?_ ?_;(refine aBs ?_ ?_;(refine aA2 ?_ ?_ (fun _ _=>rfl);(exact aAd 4);(exact aAh));(exact aAt));(refine aMn ?_;(refine aUy hr ?_ ?_;(refine aKj rfl rfl T.aR3 ?_;(refine aA2 ?_ ?_ (fun _ _=>rfl);(exact aAd 4);(exact aAh)));(refine aKj rfl rfl T.aR3 ?_;(refine aA2 ?_ ?_ (fun _ _=>rfl);(exact aAd 2);(exact aAh)))))));(refine aAc ?_ ?_;(refine aAo ?_;(refine aBz ?_;(refine aAa ?_ ?_;(exact aAt);(refine aAa ?_ ?_;(exact aAt);(exact aAg)))));(exact aAe));(exact aAe));(refine aAc ?_ ?_;(refine aA3 ?_ ?_ ?_;(refine aBs ?_ ?_;(refine aA2 ?_ ?_ (fun _ _=>rfl);(exact aAd 4);(exact aAh));(exact aAt));(refine aAc ?_ ?_;(refine aAo ?_;(exact aAd 4));(exact aAe));(exact aAe));(refine aAc ?_ ?_;(refine aAo ?_;(exact aAd 2));(exact aAe)))))))))
def aFw:List Str:=["_law_question_here","_law_heads_here","_law_word","_law_part","_law_asked","_law_name"]
def aL5:List Str:=["_law_question_here","?1","?2","?3","?4","?5","_law_name"]
theorem aS5:aL5.Nodup:=by decide+kernel
theorem aEm:aBg aFw ["_law_question_here","_law_heads_here"] (aAp aSo):=by constructor<;>first | rfl | decide+kernel
def aD1 (t:Adr)(aBa:List D->M D)(aA8:List D->M D)(aB9:List D->M D)(aCf:List D->M D):Rho->Option Out:=
  (aAk (aB6 2 (b2 gIx (look 0) (con (.int 0))))
  (aAk (sIf (aAm (b2 gEq (look 2) (con (.str "table")))) (aAk (sIf (aAm (b2 (aVt false) (b2 gIx (look 0) (con (.int 1))) (look 1))) (aAk (aBw (mkT (aAb (con (.str "head")) (aAb (b2 bB2 (look 1) (b2 gIx (look 0) (con (.int 1)))) aAn))))
  aAr) aAr)
  (aAk (aBw (mkT (aAb (con (.str "no")) (aAb (con (.str "NoTable")) aAn))))
  aAr)) aAr)
  (aAk (sIf (aAm (b2 gEq (look 2) (con (.str "ring")))) (aAk (aBw (app aB9 (aAb (look 0) (aAb (look 1) aAn))))
  aAr) aAr)
  (aAk (sIf (orB (aAm (b2 gEq (look 2) (con (.str "join")))) (aAm (b2 gEq (look 2) (con (.str "put"))))) (aAk (aBw (app aCf (aAb (look 0) (aAb (look 1) aAn))))
  aAr) aAr)
  (aAk (aB6 3 (app aA8 (aAb (b2 gIx (look 0) (f1 bP4 (con (.int 1)))) (aAb (look 1) aAn))))
  (aAk (sIf (aAm (b2 gEq (b2 gIx (look 3) (con (.int 0))) (con (.str "no")))) (aAk (aBw (look 3))
  aAr) aAr)
  (aAk (aB6 4 (b2 gIx (look 0) (con (.int 1))))
  (aAk (sIf (aAm (b2 gEq (look 2) (con (.str "pick")))) (aAk (aB6 4 (app aBa (aAb (b2 gIx (look 0) (con (.int 1))) aAn)))
  aAr) aAr)
  (aAk (sIf (aAm (b2 gEq (look 2) (con (.str "call")))) (aAk (aB6 4 (mkL (aAb (b2 gIx (look 0) (con (.int 1))) aAn)))
  aAr) aAr)
  (aAk (aSp 4 (gN 5) (aAk (sIf (aAm (b2 (gIn true) (look 5) (b2 gIx (look 3) (con (.int 1))))) (aAk (aBw (mkT (aAb (con (.str "no")) (aAb (con (.str "NoColumn")) aAn))))
  aAr) aAr)
  aAr))
  (aAk (sIf (aAm (b2 gEq (look 2) (con (.str "pick")))) (aAk (aBw (look 3))
  aAr) aAr)
  (aAk (sIf (aAm (b2 gEq (look 2) (con (.str "keep")))) (aAk (sIf (aAm (b2 gNe (f1 bHb (f1 toS (look 4))) (f1 aJb (look 4)))) (aAk (aBw (mkT (aAb (con (.str "no")) (aAb (con (.str "NoColumn")) aAn))))
  aAr) aAr)
  (aAk (aBw (mkT (aAb (con (.str "head")) (aAb (look 4) aAn))))
  aAr)) aAr)
  (aAk (sIf (aYy (aAm (b2 (gIn false) (b2 gIx (look 0) (con (.int 2))) (b2 gIx (look 3) (con (.int 1))))) (aAm (b2 gNe (b2 gIx (look 0) (con (.int 2))) (b2 gIx (look 0) (con (.int 1)))))) (aAk (aBw (mkT (aAb (con (.str "no")) (aAb (con (.str "NoColumn")) aAn))))
  aAr) aAr)
  (aAk (aBw (mkT (aAb (con (.str "head")) (aAb (f1 toT (cmp 1 (itE (b2 gIx (look 3) (con (.int 1)))) [6] h1 (fun _=>ok true) (ifV (aAm (b2 gEq (look 6) (b2 gIx (look 0) (con (.int 1))))) (b2 gIx (look 0) (con (.int 2))) (look 6)))) aAn))))
  aAr))))))))))))))
theorem aPw (T:Txt K mg t){k:Nat}{aBa:List D->M D}(aEi:Def P w K mg base k "_law_columns" aBa){aA8:List D->M D}(aDt:Def P w K mg base k "_law_due" aA8){aB9:List D->M D}(aO4:Def P w K mg base k "_law_ring_due" aB9){aCf:List D->M D}(aR5:Def P w K mg base k "_law_two_due" aCf){F:List D->M D}(h:OkF 2 aFw (aD1 t aBa aA8 aB9 aCf) F):Def P w K mg base (k+1) "_law_due" F:=by
 obtain⟨hL,hq⟩:=h;obtain⟨fd,Fu,bi⟩:=T.aA8;refine⟨_,_,_,T.aTk,Fu.kp,bi,hL,aP2 Fu aEm hL fun cdv A outer s H E hr=>⟨aD1 t aBa aA8 aB9 aCf,fun B=> ?_,hq⟩⟩;refine aAc ?_ ?_;(refine aA6 (i:=2) (aEm).nd rfl (Qz rfl) ?_;(refine aA2 ?_ ?_ (fun _ _=>rfl);(exact aAd 0);(exact aAh)));(refine aAc ?_ ?_;(refine aA3 ?_ ?_ ?_;(refine aBs ?_ ?_;(exact aAd 2);(exact aAt));(refine aAc ?_ ?_;(refine aA3 ?_ ?_ ?_;(refine aUz hr ?_ ?_;(refine aA2 ?_ ?_ (fun _ _=>rfl);(exact aAd 0);(exact aAh));(exact aAd 1));(refine aAc ?_ ?_;(refine aAo ?_;(refine aBz ?_;(refine aAa ?_ ?_;(exact aAt);(refine aAa ?_ ?_;(refine aWv hr ?_ ?_;(exact aAd 1);(refine aA2 ?_ ?_ (fun _ _=>rfl);(exact aAd 0);(exact aAh)));(exact aAg)))));(exact aAe));(exact aAe));(refine aAc ?_ ?_;(refine aAo ?_;(refine aBz ?_;(refine aAa ?_ ?_;(exact aAt);(refine aAa ?_ ?_;(exact aAt);(exact aAg)))));(exact aAe)));(exact aAe));(refine aAc ?_ ?_;(refine aA3 ?_ ?_ ?_;(refine aBs ?_ ?_;(exact aAd 2);(exact aAt));(refine aAc ?_ ?_;(refine aAo ?_;(refine aAq aO4 hr rfl ?_;(refine aAa ?_ ?_;(exact aAd 0);(refine aAa ?_ ?_;(exact aAd 1);(exact aAg)))));(exact aAe));(exact aAe));(refine aAc ?_ ?_;(refine aA3 ?_ ?_ ?_;(refine PDW.pdt ?_;(refine bGx ?_ ?_;(refine aBs ?_ ?_;(exact aAd 2);(exact aAt));(refine bAn ?_;(refine aBs ?_ ?_;(exact aAd 2);(exact aAt)))));(refine aAc ?_ ?_;(refine aAo ?_;(refine aAq aR5 hr rfl ?_;(refine aAa ?_ ?_;(exact aAd 0);(refine aAa ?_ ?_;(exact aAd 1);(exact aAg)))));(exact aAe));(exact aAe));(refine aAc ?_ ?_;(refine aA6 (i:=3) (aEm).nd rfl (Qz rfl) ?_;(refine aAq aDt hr rfl ?_;(refine aAa ?_ ?_;(refine aA2 ?_ ?_ (fun _ _=>rfl);(exact aAd 0);(refine bMw ?_;(exact aAh)));(refine aAa ?_ ?_;(exact aAd 1);(exact aAg)))));(refine aAc ?_ ?_;(refine aA3 ?_ ?_ ?_;(refine aBs ?_ ?_;(refine aA2 ?_ ?_ (fun _ _=>rfl);(exact aAd 3);(exact aAh));(exact aAt));(refine aAc ?_ ?_;(refine aAo ?_;(exact aAd 3));(exact aAe));(exact aAe));(refine aAc ?_ ?_;(refine aA6 (i:=4) (aEm).nd rfl (Qz rfl) ?_;(refine aA2 ?_ ?_ (fun _ _=>rfl);(exact aAd 0);(exact aAh)));(refine aAc ?_ ?_;(refine aA3 ?_ ?_ ?_;(refine aBs ?_ ?_;(exact aAd 2);(exact aAt));(refine aAc ?_ ?_;(refine aA6 (i:=4) (aEm).nd rfl (Qz rfl) ?_;(refine aAq aEi hr rfl ?_;(refine aAa ?_ ?_;(refine aA2 ?_ ?_ (fun _ _=>rfl);(exact aAd 0);(exact aAh));(exact aAg))));(exact aAe));(exact aAe));(refine aAc ?_ ?_;(refine aA3 ?_ ?_ ?_;(refine aBs ?_ ?_;(exact aAd 2);(exact aAt));(refine aAc ?_ ?_;(refine aA6 (i:=4) (aEm).nd rfl (Qz rfl) ?_;(refine aNa ?_;(refine aAa ?_ ?_;(refine aA2 ?_ ?_ (fun _ _=>rfl);(exact aAd 0);(exact aAh));(exact aAg))));(exact aAe));(exact aAe));(refine aAc ?_ ?_;(refine aWs 4 rfl (Qz rfl) PassesOwn.never rfl (fun B=> ?_) (fun B=> ?_);(exact aF5 (i:=5) (aEm).nd rfl (Qz rfl));(refine aAc ?_ ?_;(refine aA3 ?_ ?_ ?_;(refine aGu ?_ ?_;(exact aAd 5);(refine aA2 ?_ ?_ (fun _ _=>rfl);(exact aAd 3);(exact aAh)));(refine aAc ?_ ?_;(refine aAo ?_;(refine aBz ?_;(refine aAa ?_ ?_;(exact aAt);(refine aAa ?_ ?_;(exact aAt);(exact aAg)))));(exact aAe));(exact aAe));(exact aAe)));(refine aAc ?_ ?_;(refine aA3 ?_ ?_ ?_;(refine aBs ?_ ?_;(exact aAd 2);(exact aAt));(refine aAc ?_ ?_;(refine aAo ?_;(exact aAd 3));(exact aAe));(exact aAe));(refine aAc ?_ ?_;(refine aA3 ?_ ?_ ?_;(refine aBs ?_ ?_;(exact aAd 2);(exact aAt));(refine aAc ?_ ?_;(refine aA3 ?_ ?_ ?_;(refine aSu ?_ ?_;(refine bAv rfl T.aLm ?_;(refine aKj rfl rfl T.aR3 ?_;(exact aAd 4)));(refine aIb rfl T.aLm ?_;(exact aAd 4)));(refine aAc ?_ ?_;(refine aAo ?_;(refine aBz ?_;(refine aAa ?_ ?_;(exact aAt);(refine aAa ?_ ?_;(exact aAt);(exact aAg)))));(exact aAe));(exact aAe));(refine aAc ?_ ?_;(refine aAo ?_;(refine aBz ?_;(refine aAa ?_ ?_;(exact aAt);(refine aAa ?_ ?_;(exact aAd 4);(exact aAg)))));(exact aAe)));(exact aAe));(refine aAc ?_ ?_;(refine aA3 ?_ ?_ ?_;(refine PDW.pdt ?_;(refine aQy ?_ ?_;(refine bGy ?_ ?_;(refine aA2 ?_ ?_ (fun _ _=>rfl);(exact aAd 0);(exact aAh));(refine aA2 ?_ ?_ (fun _ _=>rfl);(exact aAd 3);(exact aAh)));(refine aMn ?_;(refine aSu ?_ ?_;(refine aA2 ?_ ?_ (fun _ _=>rfl);(exact aAd 0);(exact aAh));(refine aA2 ?_ ?_ (fun _ _=>rfl);(exact aAd 0);(exact aAh))))));(refine aAc ?_ ?_;(refine aAo ?_;(refine aBz ?_;(refine aAa ?_ ?_;(exact aAt);(refine aAa ?_ ?_;(exact aAt);(exact aAg)))));(exact aAe));(exact aAe));(refine aAc ?_ ?_;(refine aAo ?_;(refine aBz ?_;(refine aAa ?_ ?_;(exact aAt);(refine aAa ?_ ?_;(refine aFd rfl T.aGr ?_;(refine aG3 (N':=aL5) (m:=1) (ks:=[6]) rfl rfl rfl rfl (by repeat (first | exact aL1 | refine aIf rfl (by first | exact Qz rfl | exact Yi rfl) ?_)) rfl rfl rfl rfl rfl ?_ (fun C s₀ H₀ ex=> ?_) (fun C s₀ H₀ ex B=> ?_) (fun C s₀ H₀ ex B=> ?_);(refine bEc ?_;(refine aA2 ?_ ?_ (fun _ _=>rfl);(exact aAd 3);(exact aAh)));(exact aSv aS5 rfl (Qz rfl));(exact aKg);(refine bI2 ?_ ?_ ?_;(refine aBs ?_ ?_;(exact aAd 6);(refine aA2 ?_ ?_ (fun _ _=>rfl);(exact aAd 0);(exact aAh)));(refine aA2 ?_ ?_ (fun _ _=>rfl);(exact aAd 0);(exact aAh));(exact aAd 6))));(exact aAg)))));(exact aAe))))))))))))))
def aHh:List Str:=["_law_script","_law_columns_here","_law_names","_law_heads_here","_law_k","_law_cell_here","_law_size","_law_first","_law_leap"]
def aJi:List Str:=["?0","_law_columns_here","?2","?3","?4","?5","?6","_law_first","_law_leap","_law_j"]
theorem aOo:aJi.Nodup:=by decide+kernel
theorem aC3:aBg aHh ["_law_script","_law_columns_here","_law_names"] (aAp aM0):=by constructor<;>first | rfl | decide+kernel
def aEd (t:Adr)(aBn:List D->M D)(aAi:List D->M D)(aBm:List D->M D):Rho->Option Out:=
  (aAk (bD2 3)
  (aAk (aPm (con (.int 3)) (gN 4) (aAk (aB6 5 (app aBn (aAb (look 0) (aAb (b2 aCc (con (.int 2)) (look 4)) aAn))))
  (aAk (aB6 6 (app aAi (aAb (look 5) (aAb (con (.int 3)) (aAb (con (.int 5)) aAn)))))
  (aAk (aB6 7 (app aAi (aAb (look 5) (aAb (con (.int 4)) (aAb (con (.int 5)) aAn)))))
  (aAk (aB6 8 (b2 aCc (con (.int 1)) (app aAi (aAb (look 5) (aAb (con (.int 5)) (aAb (con (.int 4)) aAn))))))
  (aAk (aKc 3 (b2 gIx (look 2) (look 4)) (f1 toT (cmp 1 (itR (look 6)) [9] h1 (fun _=>ok true) (b2 gIx (look 1) (b2 aYq (b2 aCc (look 7) (b2 aD5 (look 9) (look 8))) (con (.int 5)))))))
  aAr))))))
  (aAk (sIf (aAm (b2 gEq (app aAi (aAb (app aBn (aAb (look 0) (aAb (con (.int 2)) aAn))) (aAb (con (.int 6)) (aAb (con (.int 2)) aAn)))) (con (.int 0)))) (aAk (aKc 3 (b2 gIx (look 2) (con (.int 1))) (app aBm (aAb (b2 bB2 (look 3) (b2 gIx (look 2) (con (.int 0)))) (aAb (app aBn (aAb (look 0) (aAb (con (.int 3)) aAn))) aAn))))
  aAr) aAr)
  (aAk (aBw (look 3))
  aAr))))
theorem aS2 (T:Txt K mg t){k:Nat}{aBn:List D->M D}(aDl:Def P w K mg base k "_law_cell" aBn){aAi:List D->M D}(aAx:Def P w K mg base k "_law_draw" aAi){aBm:List D->M D}(aHj:Def P w K mg base k "_law_rotated" aBm){F:List D->M D}(h:OkF 3 aHh (aEd t aBn aAi aBm) F):Def P w K mg base (k+1) "_law_heads" F:=by
 obtain⟨hL,hq⟩:=h;obtain⟨fd,Fu,bi⟩:=T.aD2;refine⟨_,_,_,T.aVq,Fu.kp,bi,hL,aP2 Fu aC3 hL fun cdv A outer s H E hr=>⟨aEd t aBn aAi aBm,fun B=> ?_,hq⟩⟩;refine aAc ?_ ?_;(exact bEo (i:=3) (aC3).nd rfl (Qz rfl));(refine aAc ?_ ?_;(refine bAs rfl T.aJ1 PassesOwn.never rfl ?_ (fun B=> ?_) (fun B=> ?_);(exact aAh);(exact aF5 (i:=4) (aC3).nd rfl (Qz rfl));(refine aAc ?_ ?_;(refine aA6 (i:=5) (aC3).nd rfl (Qz rfl) ?_;(refine aAq aDl hr rfl ?_;(refine aAa ?_ ?_;(exact aAd 0);(refine aAa ?_ ?_;(refine aC5 ?_ ?_;(exact aAh);(exact aAd 4));(exact aAg)))));(refine aAc ?_ ?_;(refine aA6 (i:=6) (aC3).nd rfl (Qz rfl) ?_;(refine aAq aAx hr rfl ?_;(refine aAa ?_ ?_;(exact aAd 5);(refine aAa ?_ ?_;(exact aAh);(refine aAa ?_ ?_;(exact aAh);(exact aAg))))));(refine aAc ?_ ?_;(refine aA6 (i:=7) (aC3).nd rfl (Yi rfl) ?_;(refine aAq aAx hr rfl ?_;(refine aAa ?_ ?_;(exact aAd 5);(refine aAa ?_ ?_;(exact aAh);(refine aAa ?_ ?_;(exact aAh);(exact aAg))))));(refine aAc ?_ ?_;(refine aA6 (i:=8) (aC3).nd rfl (Yi rfl) ?_;(refine aC5 ?_ ?_;(exact aAh);(refine aAq aAx hr rfl ?_;(refine aAa ?_ ?_;(exact aAd 5);(refine aAa ?_ ?_;(exact aAh);(refine aAa ?_ ?_;(exact aAh);(exact aAg)))))));(refine aAc ?_ ?_;(refine aKh hr 3 ?_ ?_;(refine aA2 ?_ ?_ (fun _ _=>rfl);(exact aAd 2);(exact aAd 4));(refine aFd rfl T.aGr ?_;(refine aG3 (N':=aJi) (m:=1) (ks:=[9]) rfl rfl rfl rfl (by repeat (first | exact aL1 | refine aIf rfl (by first | exact Qz rfl | exact Yi rfl) ?_)) rfl rfl rfl rfl rfl ?_ (fun C s₀ H₀ ex=> ?_) (fun C s₀ H₀ ex B=> ?_) (fun C s₀ H₀ ex B=> ?_);(refine bAj rfl T.aJ1 ?_;(exact aAd 6));(exact aSv aOo rfl (Qz rfl));(exact aKg);(refine aA2 ?_ ?_ (fun _ _=>rfl);(exact aAd 1);(refine aWu ?_ ?_;(refine aC5 ?_ ?_;(exact aAd 7);(refine aIo ?_ ?_;(exact aAd 9);(exact aAd 8)));(exact aAh))))));(exact aAe)))))));(refine aAc ?_ ?_;(refine aA3 ?_ ?_ ?_;(refine aBs ?_ ?_;(refine aAq aAx hr rfl ?_;(refine aAa ?_ ?_;(refine aAq aDl hr rfl ?_;(refine aAa ?_ ?_;(exact aAd 0);(refine aAa ?_ ?_;(exact aAh);(exact aAg))));(refine aAa ?_ ?_;(exact aAh);(refine aAa ?_ ?_;(exact aAh);(exact aAg)))));(exact aAh));(refine aAc ?_ ?_;(refine aKh hr 3 ?_ ?_;(refine aA2 ?_ ?_ (fun _ _=>rfl);(exact aAd 2);(exact aAh));(refine aAq aHj hr rfl ?_;(refine aAa ?_ ?_;(refine aWv hr ?_ ?_;(exact aAd 3);(refine aA2 ?_ ?_ (fun _ _=>rfl);(exact aAd 2);(exact aAh)));(refine aAa ?_ ?_;(refine aAq aDl hr rfl ?_;(refine aAa ?_ ?_;(exact aAd 0);(refine aAa ?_ ?_;(exact aAh);(exact aAg))));(exact aAg)))));(exact aAe));(exact aAe));(refine aAc ?_ ?_;(refine aAo ?_;(exact aAd 3));(exact aAe))))
def aGg:List Str:=["_law_cell_here","_law_turn","_law_head","_law_six"]
theorem aQn:aBg aGg ["_law_cell_here","_law_turn","_law_head","_law_six"] (aAp aLy):=by constructor<;>first | rfl | decide+kernel
def aDr (t:Adr)(aAi:List D->M D):Rho->Option Out:=
  (aAk (sIf (aYy (aAm (b2 gGt (f1 aJb (look 2)) (con (.int 0)))) (aAm (b2 gGt (app aAi (aAb (look 0) (aAb (look 1) (aAb (con (.int 4)) aAn)))) (con (.int 0))))) (aAk (aBw (b2 gIx (look 2) (app aAi (aAb (look 0) (aAb (b2 aCc (look 1) (con (.int 1))) (aAb (f1 aJb (look 2)) aAn))))))
  aAr) aAr)
  (aAk (aBw (b2 gIx (look 3) (app aAi (aAb (look 0) (aAb (b2 aCc (look 1) (con (.int 2))) (aAb (con (.int 6)) aAn))))))
  aAr))
theorem aQ4 (T:Txt K mg t){k:Nat}{aAi:List D->M D}(aAx:Def P w K mg base k "_law_draw" aAi){F:List D->M D}(h:OkF 4 aGg (aDr t aAi) F):Def P w K mg base (k+1) "_law_column" F:=by
 obtain⟨hL,hq⟩:=h;obtain⟨fd,Fu,bi⟩:=T.aB2;refine⟨_,_,_,T.aTl,Fu.kp,bi,hL,aP2 Fu aQn hL fun cdv A outer s H E hr=>⟨aDr t aAi,fun B=> ?_,hq⟩⟩;refine aAc ?_ ?_;(refine aA3 ?_ ?_ ?_;(refine PDW.pdt ?_;(refine aQy ?_ ?_;(refine aWr ?_ ?_;(refine aIb rfl T.aLm ?_;(exact aAd 2));(exact aAh));(refine aMn ?_;(refine aWr ?_ ?_;(refine aAq aAx hr rfl ?_;(refine aAa ?_ ?_;(exact aAd 0);(refine aAa ?_ ?_;(exact aAd 1);(refine aAa ?_ ?_;(exact aAh);(exact aAg)))));(exact aAh)))));(refine aAc ?_ ?_;(refine aAo ?_;(refine aA2 ?_ ?_ (fun _ _=>rfl);(exact aAd 2);(refine aAq aAx hr rfl ?_;(refine aAa ?_ ?_;(exact aAd 0);(refine aAa ?_ ?_;(refine aC5 ?_ ?_;(exact aAd 1);(exact aAh));(refine aAa ?_ ?_;(refine aIb rfl T.aLm ?_;(exact aAd 2));(exact aAg)))))));(exact aAe));(exact aAe));(refine aAc ?_ ?_;(refine aAo ?_;(refine aA2 ?_ ?_ (fun _ _=>rfl);(exact aAd 3);(refine aAq aAx hr rfl ?_;(refine aAa ?_ ?_;(exact aAd 0);(refine aAa ?_ ?_;(refine aC5 ?_ ?_;(exact aAd 1);(exact aAh));(refine aAa ?_ ?_;(exact aAh);(exact aAg)))))));(exact aAe))
def aIw:List Str:=["_law_cell_here","_law_head","_law_six","_law_some_here","_law_way","_law_at"]
theorem aFm:aBg aIw ["_law_cell_here","_law_head","_law_six"] (aAp aPi):=by constructor<;>first | rfl | decide+kernel
def aE5 (t:Adr)(aAi:List D->M D)(aBm:List D->M D):Rho->Option Out:=
  (aAk (aZ1 3 (app aBm (aAb (look 1) (aAb (look 0) aAn))))
  (aAk (aB6 4 (app aAi (aAb (look 0) (aAb (con (.int 33)) (aAb (con (.int 4)) aAn)))))
  (aAk (aB6 5 (app aAi (aAb (look 0) (aAb (con (.int 34)) (aAb (b2 aCc (f1 aJb (look 3)) (con (.int 1))) aAn)))))
  (aAk (sIf (aAm (b2 gEq (look 4) (con (.int 0)))) (aAk (aQr bE4 3 (aAb (look 5) (aAb (b2 gIx (look 2) (app aAi (aAb (look 0) (aAb (con (.int 35)) (aAb (con (.int 6)) aAn))))) aAn)))
  aAr) aAr)
  (aAk (sIf (aAm (b2 gEq (look 4) (con (.int 1)))) (aAk (aB6 3 (aMt (look 3) aFq (aFe (look 5))))
  aAr) aAr)
  (aAk (aBw (f1 toT (look 3)))
  aAr))))))
theorem aU5 (T:Txt K mg t){k:Nat}{aAi:List D->M D}(aAx:Def P w K mg base k "_law_draw" aAi){aBm:List D->M D}(aHj:Def P w K mg base k "_law_rotated" aBm){F:List D->M D}(h:OkF 3 aIw (aE5 t aAi aBm) F):Def P w K mg base (k+1) "_law_some" F:=by
 obtain⟨hL,hq⟩:=h;obtain⟨fd,Fu,bi⟩:=T.aEs;refine⟨_,_,_,T.aYm,Fu.kp,bi,hL,aP2 Fu aFm hL fun cdv A outer s H E hr=>⟨aE5 t aAi aBm,fun B=> ?_,hq⟩⟩;refine aAc ?_ ?_;(refine bEn (i:=3) rfl T.bCy (aFm).nd rfl (Qz rfl) ?_;(refine aAq aHj hr rfl ?_;(refine aAa ?_ ?_;(exact aAd 1);(refine aAa ?_ ?_;(exact aAd 0);(exact aAg)))));(refine aAc ?_ ?_;(refine aA6 (i:=4) (aFm).nd rfl (Qz rfl) ?_;(refine aAq aAx hr rfl ?_;(refine aAa ?_ ?_;(exact aAd 0);(refine aAa ?_ ?_;(exact aAh);(refine aAa ?_ ?_;(exact aAh);(exact aAg))))));(refine aAc ?_ ?_;(refine aA6 (i:=5) (aFm).nd rfl (Qz rfl) ?_;(refine aAq aAx hr rfl ?_;(refine aAa ?_ ?_;(exact aAd 0);(refine aAa ?_ ?_;(exact aAh);(refine aAa ?_ ?_;(refine aC5 ?_ ?_;(refine aIb rfl T.aLm ?_;(exact aAd 3));(exact aAh));(exact aAg))))));(refine aAc ?_ ?_;(refine aA3 ?_ ?_ ?_;(refine aBs ?_ ?_;(exact aAd 4);(exact aAh));(refine aAc ?_ ?_;(refine aX7 (i:=3) rfl (Qz rfl) ?_ ?_;(exact aAd 5);(refine aA2 ?_ ?_ (fun _ _=>rfl);(exact aAd 2);(refine aAq aAx hr rfl ?_;(refine aAa ?_ ?_;(exact aAd 0);(refine aAa ?_ ?_;(exact aAh);(refine aAa ?_ ?_;(exact aAh);(exact aAg)))))));(exact aAe));(exact aAe));(refine aAc ?_ ?_;(refine aA3 ?_ ?_ ?_;(refine aBs ?_ ?_;(exact aAd 4);(exact aAh));(refine aAc ?_ ?_;(refine aA6 (i:=3) (aFm).nd rfl (Qz rfl) ?_;(refine aF6 ?_ ?_ ?_;(exact aAd 3);(exact aF4);(refine aF3 ?_;(exact aAd 5))));(exact aAe));(exact aAe));(refine aAc ?_ ?_;(refine aAo ?_;(refine aFd rfl T.aGr ?_;(exact aAd 3)));(exact aAe))))))
def aEz:List Str:=["_law_cell_here","_law_part","_law_head","_law_six","_law_way","_law_test","_law_second"]
theorem aCp:aBg aEz ["_law_cell_here","_law_part","_law_head","_law_six"] (aAp aI8):=by constructor<;>first | rfl | decide+kernel
def aCb (t:Adr)(aB2:List D->M D)(aAi:List D->M D)(aEs:List D->M D):Rho->Option Out:=
  (aAk (aB6 4 (app aAi (aAb (look 0) (aAb (con (.int 40)) (aAb (con (.int 3)) aAn)))))
  (aAk (sIf (aAm (b2 gEq (look 4) (con (.int 0)))) (aAk (aB6 5 (mkT (aAb (con (.str "is")) (aAb (app aB2 (aAb (look 0) (aAb (con (.int 41)) (aAb (look 2) (aAb (look 3) aAn))))) (aAb (b2 aYq (look 0) (b2 bKb (con (.int 10)) (con (.int 60)))) aAn)))))
  (aAk (aB6 6 (mkT (aAb (con (.str "same")) (aAb (app aB2 (aAb (look 0) (aAb (con (.int 44)) (aAb (look 2) (aAb (look 3) aAn))))) (aAb (app aB2 (aAb (look 0) (aAb (con (.int 47)) (aAb (look 2) (aAb (look 3) aAn))))) aAn)))))
  (aAk (sIf (aAm (b2 gEq (app aAi (aAb (look 0) (aAb (con (.int 50)) (aAb (con (.int 3)) aAn)))) (con (.int 0)))) (aAk (aB6 5 (mkT (aAb (con (.str "or")) (aAb (mkT (aAb (con (.str "not")) (aAb (look 6) aAn))) (aAb (look 5) aAn)))))
  aAr) aAr)
  (aAk (sIf (aAm (b2 gEq (app aAi (aAb (look 0) (aAb (con (.int 50)) (aAb (con (.int 3)) aAn)))) (con (.int 1)))) (aAk (aB6 5 (mkT (aAb (con (.str "and")) (aAb (look 5) (aAb (look 6) aAn)))))
  aAr) aAr)
  (aAk (aBw (mkT (aAb (con (.str "pick")) (aAb (look 5) (aAb (look 1) aAn)))))
  aAr))))) aAr)
  (aAk (sIf (aAm (b2 gEq (look 4) (con (.int 1)))) (aAk (aBw (mkT (aAb (con (.str "keep")) (aAb (app aEs (aAb (look 0) (aAb (look 2) (aAb (look 3) aAn)))) (aAb (look 1) aAn)))))
  aAr) aAr)
  (aAk (aBw (mkT (aAb (con (.str "call")) (aAb (app aB2 (aAb (look 0) (aAb (con (.int 51)) (aAb (look 2) (aAb (look 3) aAn))))) (aAb (app aB2 (aAb (look 0) (aAb (con (.int 54)) (aAb (look 2) (aAb (look 3) aAn))))) (aAb (look 1) aAn))))))
  aAr))))
theorem aNf (T:Txt K mg t){k:Nat}{aB2:List D->M D}(aE8:Def P w K mg base k "_law_column" aB2){aAi:List D->M D}(aAx:Def P w K mg base k "_law_draw" aAi){aEs:List D->M D}(aY6:Def P w K mg base k "_law_some" aEs){F:List D->M D}(h:OkF 4 aEz (aCb t aB2 aAi aEs) F):Def P w K mg base (k+1) "_law_one_word" F:=by
 obtain⟨hL,hq⟩:=h;obtain⟨fd,Fu,bi⟩:=T.aCl;refine⟨_,_,_,T.aOv,Fu.kp,bi,hL,aP2 Fu aCp hL fun cdv A outer s H E hr=>⟨aCb t aB2 aAi aEs,fun B=> ?_,hq⟩⟩;refine aAc ?_ ?_;(refine aA6 (i:=4) (aCp).nd rfl (Qz rfl) ?_;(refine aAq aAx hr rfl ?_;(refine aAa ?_ ?_;(exact aAd 0);(refine aAa ?_ ?_;(exact aAh);(refine aAa ?_ ?_;(exact aAh);(exact aAg))))));(refine aAc ?_ ?_;(refine aA3 ?_ ?_ ?_;(refine aBs ?_ ?_;(exact aAd 4);(exact aAh));(refine aAc ?_ ?_;(refine aA6 (i:=5) (aCp).nd rfl (Qz rfl) ?_;(refine aBz ?_;(refine aAa ?_ ?_;(exact aAt);(refine aAa ?_ ?_;(refine aAq aE8 hr rfl ?_;(refine aAa ?_ ?_;(exact aAd 0);(refine aAa ?_ ?_;(exact aAh);(refine aAa ?_ ?_;(exact aAd 2);(refine aAa ?_ ?_;(exact aAd 3);(exact aAg))))));(refine aAa ?_ ?_;(refine aWu ?_ ?_;(exact aAd 0);(refine bMu ?_ ?_;(exact aAh);(exact aAh)));(exact aAg))))));(refine aAc ?_ ?_;(refine aA6 (i:=6) (aCp).nd rfl (Qz rfl) ?_;(refine aBz ?_;(refine aAa ?_ ?_;(exact aAt);(refine aAa ?_ ?_;(refine aAq aE8 hr rfl ?_;(refine aAa ?_ ?_;(exact aAd 0);(refine aAa ?_ ?_;(exact aAh);(refine aAa ?_ ?_;(exact aAd 2);(refine aAa ?_ ?_;(exact aAd 3);(exact aAg))))));(refine aAa ?_ ?_;(refine aAq aE8 hr rfl ?_;(refine aAa ?_ ?_;(exact aAd 0);(refine aAa ?_ ?_;(exact aAh);(refine aAa ?_ ?_;(exact aAd 2);(refine aAa ?_ ?_;(exact aAd 3);(exact aAg))))));(exact aAg))))));(refine aAc ?_ ?_;(refine aA3 ?_ ?_ ?_;(refine aBs ?_ ?_;(refine aAq aAx hr rfl ?_;(refine aAa ?_ ?_;(exact aAd 0);(refine aAa ?_ ?_;(exact aAh);(refine aAa ?_ ?_;(exact aAh);(exact aAg)))));(exact aAh));(refine aAc ?_ ?_;(refine aA6 (i:=5) (aCp).nd rfl (Qz rfl) ?_;(refine aBz ?_;(refine aAa ?_ ?_;(exact aAt);(refine aAa ?_ ?_;(refine aBz ?_;(refine aAa ?_ ?_;(exact aAt);(refine aAa ?_ ?_;(exact aAd 6);(exact aAg))));(refine aAa ?_ ?_;(exact aAd 5);(exact aAg))))));(exact aAe));(exact aAe));(refine aAc ?_ ?_;(refine aA3 ?_ ?_ ?_;(refine aBs ?_ ?_;(refine aAq aAx hr rfl ?_;(refine aAa ?_ ?_;(exact aAd 0);(refine aAa ?_ ?_;(exact aAh);(refine aAa ?_ ?_;(exact aAh);(exact aAg)))));(exact aAh));(refine aAc ?_ ?_;(refine aA6 (i:=5) (aCp).nd rfl (Qz rfl) ?_;(refine aBz ?_;(refine aAa ?_ ?_;(exact aAt);(refine aAa ?_ ?_;(exact aAd 5);(refine aAa ?_ ?_;(exact aAd 6);(exact aAg))))));(exact aAe));(exact aAe));(refine aAc ?_ ?_;(refine aAo ?_;(refine aBz ?_;(refine aAa ?_ ?_;(exact aAt);(refine aAa ?_ ?_;(exact aAd 5);(refine aAa ?_ ?_;(exact aAd 1);(exact aAg))))));(exact aAe))))));(exact aAe));(refine aAc ?_ ?_;(refine aA3 ?_ ?_ ?_;(refine aBs ?_ ?_;(exact aAd 4);(exact aAh));(refine aAc ?_ ?_;(refine aAo ?_;(refine aBz ?_;(refine aAa ?_ ?_;(exact aAt);(refine aAa ?_ ?_;(refine aAq aY6 hr rfl ?_;(refine aAa ?_ ?_;(exact aAd 0);(refine aAa ?_ ?_;(exact aAd 2);(refine aAa ?_ ?_;(exact aAd 3);(exact aAg)))));(refine aAa ?_ ?_;(exact aAd 1);(exact aAg))))));(exact aAe));(exact aAe));(refine aAc ?_ ?_;(refine aAo ?_;(refine aBz ?_;(refine aAa ?_ ?_;(exact aAt);(refine aAa ?_ ?_;(refine aAq aE8 hr rfl ?_;(refine aAa ?_ ?_;(exact aAd 0);(refine aAa ?_ ?_;(exact aAh);(refine aAa ?_ ?_;(exact aAd 2);(refine aAa ?_ ?_;(exact aAd 3);(exact aAg))))));(refine aAa ?_ ?_;(refine aAq aE8 hr rfl ?_;(refine aAa ?_ ?_;(exact aAd 0);(refine aAa ?_ ?_;(exact aAh);(refine aAa ?_ ?_;(exact aAd 2);(refine aAa ?_ ?_;(exact aAd 3);(exact aAg))))));(refine aAa ?_ ?_;(exact aAd 1);(exact aAg)))))));(exact aAe))))
def aDs:List Str:=["_law_cell_here","_law_other","_law_heads_here","_law_names","_law_six","_law_way","_law_first","_law_second","_law_word","_law_ring","_law_step"]
theorem aB1:aBg aDs ["_law_cell_here","_law_other","_law_heads_here","_law_names","_law_six"] (aAp aI7):=by constructor<;>first | rfl | decide+kernel
def aBt (t:Adr)(aAi:List D->M D)(aCl:List D->M D):Rho->Option Out:=
  (aAk (aB6 5 (app aAi (aAb (look 0) (aAb (con (.int 71)) (aAb (con (.int 3)) aAn)))))
  (aAk (aB6 6 (b2 gIx (look 3) (app aAi (aAb (look 0) (aAb (con (.int 72)) (aAb (con (.int 4)) aAn))))))
  (aAk (aB6 7 (b2 gIx (look 3) (app aAi (aAb (look 1) (aAb (con (.int 73)) (aAb (con (.int 4)) aAn))))))
  (aAk (sIf (aAm (b2 gEq (look 5) (con (.int 0)))) (aAk (aBw (app aCl (aAb (look 1) (aAb (mkT (aAb (con (.str "table")) (aAb (look 6) aAn))) (aAb (bO1 (look 2) (look 6) (mkT aAn)) (aAb (look 4) aAn))))))
  aAr) aAr)
  (aAk (sIf (aAm (b2 gEq (look 5) (con (.int 1)))) (aAk (aB6 8 (app aAi (aAb (look 1) (aAb (con (.int 74)) (aAb (con (.int 3)) aAn)))))
  (aAk (sIf (aAm (b2 gEq (look 8) (con (.int 0)))) (aAk (aBw (mkT (aAb (con (.str "table")) (aAb (b2 gIx (look 3) (app aAi (aAb (look 0) (aAb (con (.int 75)) (aAb (con (.int 5)) aAn))))) aAn))))
  aAr) aAr)
  (aAk (aBw (mkT (aAb (b2 gIx (mkL (aAb (con (.str "join")) (aAb (con (.str "put")) aAn))) (b2 bKa (look 8) (con (.int 1)))) (aAb (mkT (aAb (con (.str "table")) (aAb (look 6) aAn))) (aAb (mkT (aAb (con (.str "table")) (aAb (look 7) aAn))) aAn)))))
  aAr))) aAr)
  (aAk (aB6 9 (b2 gIx (look 3) (b2 aCc (con (.int 2)) (app aAi (aAb (look 0) (aAb (con (.int 76)) (aAb (con (.int 3)) aAn)))))))
  (aAk (aB6 10 (mkT (aAb (con (.str "table")) (aAb (look 7) aAn))))
  (aAk (sIf (aAm (b2 gGt (app aAi (aAb (look 1) (aAb (con (.int 77)) (aAb (con (.int 3)) aAn)))) (con (.int 0)))) (aAk (aB6 10 (mkT (aAb (con (.str "table")) (aAb (look 9) aAn))))
  aAr) aAr)
  (aAk (aBw (mkT (aAb (con (.str "ring")) (aAb (look 9) (aAb (app aAi (aAb (look 1) (aAb (con (.int 78)) (aAb (con (.int 9)) aAn)))) (aAb (mkT (aAb (con (.str "table")) (aAb (look 6) aAn))) (aAb (look 10) aAn)))))))
  aAr)))))))))
theorem aNe (T:Txt K mg t){k:Nat}{aAi:List D->M D}(aAx:Def P w K mg base k "_law_draw" aAi){aCl:List D->M D}(aO6:Def P w K mg base k "_law_one_word" aCl){F:List D->M D}(h:OkF 5 aDs (aBt t aAi aCl) F):Def P w K mg base (k+1) "_law_question" F:=by
 obtain⟨hL,hq⟩:=h;obtain⟨fd,Fu,bi⟩:=T.aCk;refine⟨_,_,_,T.aOu,Fu.kp,bi,hL,aP2 Fu aB1 hL fun cdv A outer s H E hr=>⟨aBt t aAi aCl,fun B=> ?_,hq⟩⟩;refine aAc ?_ ?_;(refine aA6 (i:=5) (aB1).nd rfl (Qz rfl) ?_;(refine aAq aAx hr rfl ?_;(refine aAa ?_ ?_;(exact aAd 0);(refine aAa ?_ ?_;(exact aAh);(refine aAa ?_ ?_;(exact aAh);(exact aAg))))));(refine aAc ?_ ?_;(refine aA6 (i:=6) (aB1).nd rfl (Qz rfl) ?_;(refine aA2 ?_ ?_ (fun _ _=>rfl);(exact aAd 3);(refine aAq aAx hr rfl ?_;(refine aAa ?_ ?_;(exact aAd 0);(refine aAa ?_ ?_;(exact aAh);(refine aAa ?_ ?_;(exact aAh);(exact aAg)))))));(refine aAc ?_ ?_;(refine aA6 (i:=7) (aB1).nd rfl (Qz rfl) ?_;(refine aA2 ?_ ?_ (fun _ _=>rfl);(exact aAd 3);(refine aAq aAx hr rfl ?_;(refine aAa ?_ ?_;(exact aAd 1);(refine aAa ?_ ?_;(exact aAh);(refine aAa ?_ ?_;(exact aAh);(exact aAg)))))));(refine aAc ?_ ?_;(refine aA3 ?_ ?_ ?_;(refine aBs ?_ ?_;(exact aAd 5);(exact aAh));(refine aAc ?_ ?_;(refine aAo ?_;(refine aAq aO6 hr rfl ?_;(refine aAa ?_ ?_;(exact aAd 1);(refine aAa ?_ ?_;(refine aBz ?_;(refine aAa ?_ ?_;(exact aAt);(refine aAa ?_ ?_;(exact aAd 6);(exact aAg))));(refine aAa ?_ ?_;(refine bI3 hr ?_ ?_ ?_;(exact aAd 2);(exact aAd 6);(refine aBz ?_;(exact aAg)));(refine aAa ?_ ?_;(exact aAd 4);(exact aAg)))))));(exact aAe));(exact aAe));(refine aAc ?_ ?_;(refine aA3 ?_ ?_ ?_;(refine aBs ?_ ?_;(exact aAd 5);(exact aAh));(refine aAc ?_ ?_;(refine aA6 (i:=8) (aB1).nd rfl (Qz rfl) ?_;(refine aAq aAx hr rfl ?_;(refine aAa ?_ ?_;(exact aAd 1);(refine aAa ?_ ?_;(exact aAh);(refine aAa ?_ ?_;(exact aAh);(exact aAg))))));(refine aAc ?_ ?_;(refine aA3 ?_ ?_ ?_;(refine aBs ?_ ?_;(exact aAd 8);(exact aAh));(refine aAc ?_ ?_;(refine aAo ?_;(refine aBz ?_;(refine aAa ?_ ?_;(exact aAt);(refine aAa ?_ ?_;(refine aA2 ?_ ?_ (fun _ _=>rfl);(exact aAd 3);(refine aAq aAx hr rfl ?_;(refine aAa ?_ ?_;(exact aAd 0);(refine aAa ?_ ?_;(exact aAh);(refine aAa ?_ ?_;(exact aAh);(exact aAg))))));(exact aAg)))));(exact aAe));(exact aAe));(refine aAc ?_ ?_;(refine aAo ?_;(refine aBz ?_;(refine aAa ?_ ?_;(refine aA2 ?_ ?_ (fun _ _=>rfl);(refine aNa ?_;(refine aAa ?_ ?_;(exact aAt);(refine aAa ?_ ?_;(exact aAt);(exact aAg))));(refine bMt ?_ ?_;(exact aAd 8);(exact aAh)));(refine aAa ?_ ?_;(refine aBz ?_;(refine aAa ?_ ?_;(exact aAt);(refine aAa ?_ ?_;(exact aAd 6);(exact aAg))));(refine aAa ?_ ?_;(refine aBz ?_;(refine aAa ?_ ?_;(exact aAt);(refine aAa ?_ ?_;(exact aAd 7);(exact aAg))));(exact aAg))))));(exact aAe))));(exact aAe));(refine aAc ?_ ?_;(refine aA6 (i:=9) (aB1).nd rfl (Qz rfl) ?_;(refine aA2 ?_ ?_ (fun _ _=>rfl);(exact aAd 3);(refine aC5 ?_ ?_;(exact aAh);(refine aAq aAx hr rfl ?_;(refine aAa ?_ ?_;(exact aAd 0);(refine aAa ?_ ?_;(exact aAh);(refine aAa ?_ ?_;(exact aAh);(exact aAg))))))));(refine aAc ?_ ?_;(refine aA6 (i:=10) (aB1).nd rfl (Qz rfl) ?_;(refine aBz ?_;(refine aAa ?_ ?_;(exact aAt);(refine aAa ?_ ?_;(exact aAd 7);(exact aAg)))));(refine aAc ?_ ?_;(refine aA3 ?_ ?_ ?_;(refine aWr ?_ ?_;(refine aAq aAx hr rfl ?_;(refine aAa ?_ ?_;(exact aAd 1);(refine aAa ?_ ?_;(exact aAh);(refine aAa ?_ ?_;(exact aAh);(exact aAg)))));(exact aAh));(refine aAc ?_ ?_;(refine aA6 (i:=10) (aB1).nd rfl (Qz rfl) ?_;(refine aBz ?_;(refine aAa ?_ ?_;(exact aAt);(refine aAa ?_ ?_;(exact aAd 9);(exact aAg)))));(exact aAe));(exact aAe));(refine aAc ?_ ?_;(refine aAo ?_;(refine aBz ?_;(refine aAa ?_ ?_;(exact aAt);(refine aAa ?_ ?_;(exact aAd 9);(refine aAa ?_ ?_;(refine aAq aAx hr rfl ?_;(refine aAa ?_ ?_;(exact aAd 1);(refine aAa ?_ ?_;(exact aAh);(refine aAa ?_ ?_;(exact aAh);(exact aAg)))));(refine aAa ?_ ?_;(refine aBz ?_;(refine aAa ?_ ?_;(exact aAt);(refine aAa ?_ ?_;(exact aAd 6);(exact aAg))));(refine aAa ?_ ?_;(exact aAd 10);(exact aAg))))))));(exact aAe)))))))))
def aIv:List Str:=["_law_question_here","_law_heads_here","_law_found","_law_no","e"]
theorem aEk:aBg aIv ["_law_question_here","_law_heads_here"] (aAp aPh):=by constructor<;>first | rfl | decide+kernel
def aGb (t:Adr)(aCg:List D->M D):Rho->Option Out:=
  (aAk (aB6 2 (con .non))
  (aAk (aB6 3 (con .non))
  (aAk (bIf (aAk (aB6 2 (app aCg (aAb (look 0) (aAb (look 1) aAn))))
  aAr) (⟨aCy t,4,(aAk (aB6 3 (mkT (aAb (exs (aB7 t) (look 4)) (aAb (aVy (kx t) (aEo t) (look 4)) (aAb (aVy (kx t) (aD0 t) (look 4)) (aAb (aVy (kx t) (aG6 t) (look 4)) (aAb (aVy (kx t) (aG5 t) (look 4)) aAn)))))))
  aAr)⟩::[]))
  (aAk (sIf (aAm (b2 aXd (look 3) (con .non))) (aAk (aBw (mkT (aAb (con (.str "no")) (aAb (look 3) aAn))))
  aAr) aAr)
  (aAk (aBw (mkT (aAb (con (.str "head")) (aAb (look 2) aAn))))
  aAr)))))
theorem aU4 (T:Txt K mg t){k:Nat}{aCg:List D->M D}(aKr:aKs P w K mg base t.tab pq k "head_of" aCg){F:List D->M D}(h:OkF 2 aIv (aGb t aCg) F):aKs P w K mg base t.tab pq (k+1) "_law_told" F:=by
 obtain⟨hL,hq⟩:=h;obtain⟨fd,Fu,bi⟩:=T.aDm;refine⟨_,_,_,T.aYl,Fu.kp,bi,hL,bN9 Fu aEk hL fun cdv A outer s H E hcv hT hr=>⟨aGb t aCg,fun B=> ?_,hq⟩⟩;refine aAc ?_ ?_;(refine aA6 (i:=2) (aEk).nd rfl (Qz rfl) ?_;(exact aSw));(refine aAc ?_ ?_;(refine aA6 (i:=3) (aEk).nd rfl (Qz rfl) ?_;(exact aSw));(refine aAc ?_ ?_;(refine bIu rfl rfl (fun pins Q=> ?_) ?_;(refine aAc ?_ ?_;(refine aA6 (i:=2) (aEk).nd rfl (Qz rfl) ?_;(refine aEu aKr hT hr rfl ?_;(refine aAa ?_ ?_;(exact aAd 0);(refine aAa ?_ ?_;(exact aAd 1);(exact aAg)))));(exact aAe));(refine bEr (i:=4) rfl T.aRp (aNs T) (aEk).nd rfl rfl (fun e B=> ?_) ?_;(refine aAc ?_ ?_;(refine aA6 (i:=3) (aEk).nd rfl (Qz rfl) ?_;(refine aBz ?_;(refine aAa ?_ ?_;(refine bI5 (T:="ValueError") rfl T.aDb rfl T.aT5 (by decide+kernel) (aOq T) ?_;(exact aAd 4));(refine aAa ?_ ?_;(refine aMo rfl T.aDb rfl T.aTo (bE5 T) (aVg T) ?_;(exact aAd 4));(refine aAa ?_ ?_;(refine aMo rfl T.aDb rfl T.aFk (bE5 T) (aTa T) ?_;(exact aAd 4));(refine aAa ?_ ?_;(refine aMo rfl T.aDb rfl T.bB1 (bE5 T) (bBe T) ?_;(exact aAd 4));(refine aAa ?_ ?_;(refine aMo rfl T.aDb rfl T.bB0 (bE5 T) (bBd T) ?_;(exact aAd 4));(exact aAg))))))));(exact aAe));(exact bIw)));(refine aAc ?_ ?_;(refine aA3 ?_ ?_ ?_;(refine bAo ?_ ?_;(exact aAd 3);(exact aSw));(refine aAc ?_ ?_;(refine aAo ?_;(refine aBz ?_;(refine aAa ?_ ?_;(exact aAt);(refine aAa ?_ ?_;(exact aAd 3);(exact aAg)))));(exact aAe));(exact aAe));(refine aAc ?_ ?_;(refine aAo ?_;(refine aBz ?_;(refine aAa ?_ ?_;(exact aAt);(refine aAa ?_ ?_;(exact aAd 2);(exact aAg)))));(exact aAe)))))
def aHg:List Str:=["_law_told_here","_law_due_here","_law_wanted","_law_name"]
theorem aH4:aBg aHg ["_law_told_here","_law_due_here"] (aAp aMz):=by constructor<;>first | rfl | decide+kernel
def aFh (t:Adr):Rho->Option Out:=
  (aAk (sIf (aAm (b2 gEq (b2 gIx (look 1) (con (.int 0))) (con (.str "no")))) (aAk (aB6 2 (mkT (aAb (con (.bl true)) (aAb (b2 gEq (b2 gIx (look 1) (con (.int 1))) (con (.str "NoTable"))) (aAb (b2 gEq (b2 gIx (look 1) (con (.int 1))) (con (.str "NoColumn"))) (aAb (b2 gEq (b2 gIx (look 1) (con (.int 1))) (con (.str "NoFit"))) (aAb (b2 gEq (b2 gIx (look 1) (con (.int 1))) (con (.str "Twice"))) aAn)))))))
  (aAk (aBw (bO4 (b2 gEq (b2 gIx (look 0) (con (.int 0))) (con (.str "no"))) (b2 aVs (b2 gIx (look 0) (con (.int 1))) (look 2))))
  aAr)) aAr)
  (aAk (sIf (orB (aAm (b2 gNe (b2 gIx (look 0) (con (.int 0))) (con (.str "head")))) (aZb (test (isi "tuple" (b2 gIx (look 0) (con (.int 1))))))) (aAk (aBw (con (.bl false)))
  aAr) aAr)
  (aAk (aM4 (b2 gIx (look 0) (con (.int 1))) (gN 3) (aAk (sIf (aZb (test (isi "str" (look 3)))) (aAk (aBw (con (.bl false)))
  aAr) aAr)
  aAr))
  (aAk (aBw (b2 aVs (b2 gIx (look 0) (con (.int 1))) (b2 gIx (look 1) (con (.int 1)))))
  aAr))))
theorem aS1 (T:Txt K mg t){k:Nat}{F:List D->M D}(h:OkF 2 aHg (aFh t) F):Def P w K mg base (k+1) "_law_right" F:=by
 obtain⟨hL,hq⟩:=h;obtain⟨fd,Fu,bi⟩:=T.aCv;refine⟨_,_,_,T.aVp,Fu.kp,bi,hL,aP2 Fu aH4 hL fun cdv A outer s H E hr=>⟨aFh t,fun B=> ?_,hq⟩⟩;refine aAc ?_ ?_;(refine aA3 ?_ ?_ ?_;(refine aBs ?_ ?_;(refine aA2 ?_ ?_ (fun _ _=>rfl);(exact aAd 1);(exact aAh));(exact aAt));(refine aAc ?_ ?_;(refine aA6 (i:=2) (aH4).nd rfl (Qz rfl) ?_;(refine aBz ?_;(refine aAa ?_ ?_;(exact aU1);(refine aAa ?_ ?_;(refine bAw ?_ ?_;(refine aA2 ?_ ?_ (fun _ _=>rfl);(exact aAd 1);(exact aAh));(exact aAt));(refine aAa ?_ ?_;(refine bAw ?_ ?_;(refine aA2 ?_ ?_ (fun _ _=>rfl);(exact aAd 1);(exact aAh));(exact aAt));(refine aAa ?_ ?_;(refine bAw ?_ ?_;(refine aA2 ?_ ?_ (fun _ _=>rfl);(exact aAd 1);(exact aAh));(exact aAt));(refine aAa ?_ ?_;(refine bAw ?_ ?_;(refine aA2 ?_ ?_ (fun _ _=>rfl);(exact aAd 1);(exact aAh));(exact aAt));(exact aAg))))))));(refine aAc ?_ ?_;(refine aAo ?_;(refine bMy ?_ ?_;(refine bAw ?_ ?_;(refine aA2 ?_ ?_ (fun _ _=>rfl);(exact aAd 0);(exact aAh));(exact aAt));(refine bMv ?_;(refine bG0 hr ?_ ?_;(refine aA2 ?_ ?_ (fun _ _=>rfl);(exact aAd 0);(exact aAh));(exact aAd 2)))));(exact aAe)));(exact aAe));(refine aAc ?_ ?_;(refine aA3 ?_ ?_ ?_;(refine PDW.pdt ?_;(refine bGx ?_ ?_;(refine aSu ?_ ?_;(refine aA2 ?_ ?_ (fun _ _=>rfl);(exact aAd 0);(exact aAh));(exact aAt));(refine bAn ?_;(refine aQ0 ?_;(refine aQz ?_;(refine bGz (T:="tuple") rfl T.aDb rfl T.aGr (by decide+kernel) (by decide) ?_;(refine aA2 ?_ ?_ (fun _ _=>rfl);(exact aAd 0);(exact aAh))))))));(refine aAc ?_ ?_;(refine aAo ?_;(exact aU1));(exact aAe));(exact aAe));(refine aAc ?_ ?_;(refine aQ2 PassesOwn.never rfl ?_ (fun B=> ?_) (fun B=> ?_);(refine aA2 ?_ ?_ (fun _ _=>rfl);(exact aAd 0);(exact aAh));(exact aF5 (i:=3) (aH4).nd rfl (Qz rfl));(refine aAc ?_ ?_;(refine aA3 ?_ ?_ ?_;(refine aQ0 ?_;(refine aQz ?_;(refine bGz (T:="str") rfl T.aDb rfl T.bQw (by decide+kernel) (by decide) ?_;(exact aAd 3))));(refine aAc ?_ ?_;(refine aAo ?_;(exact aU1));(exact aAe));(exact aAe));(exact aAe)));(refine aAc ?_ ?_;(refine aAo ?_;(refine bG0 hr ?_ ?_;(refine aA2 ?_ ?_ (fun _ _=>rfl);(exact aAd 0);(exact aAh));(refine aA2 ?_ ?_ (fun _ _=>rfl);(exact aAd 1);(exact aAh))));(exact aAe))))
def bGg:List Str:=["_law_script","_law_columns_here","_law_names","_law_heads_here","_law_unknown","_law_k","_law_question_here","_law_due_here","_law_handed"]
theorem aHm:aBg bGg ["_law_script"] (aAp bDz):=by constructor<;>first | rfl | decide+kernel
def aRx (t:Adr)(aBn:List D->M D)(aAi:List D->M D)(aA8:List D->M D)(aD2:List D->M D)(aCk:List D->M D)(aCv:List D->M D)(aDm:List D->M D)(aDf:List D->M D):Rho->Option Out:=
  (aAk (aB6 1 (app aDf (aAb (app aBn (aAb (look 0) (aAb (con (.int 0)) aAn))) (aAb (con (.int 6)) aAn))))
  (aAk (aB6 2 (app aDf (aAb (app aBn (aAb (look 0) (aAb (con (.int 1)) aAn))) (aAb (con (.int 5)) aAn))))
  (aAk (aB6 3 (app aD2 (aAb (look 0) (aAb (aMt (look 1) aFq (aFe (con (.int 5)))) (aAb (look 2) aAn)))))
  (aAk (aB6 4 (con .non))
  (aAk (aZ5 (bNy (con (.int 5)) (b2 bLc (con (.int 6)) (b2 bN7 (f1 aJb (look 0)) (con (.int 61)))) (con (.int 2))) (gN 5) (aAk (aB6 6 (app aCk (aAb (app aBn (aAb (look 0) (aAb (look 5) aAn))) (aAb (app aBn (aAb (look 0) (aAb (b2 aCc (look 5) (con (.int 1))) aAn))) (aAb (look 3) (aAb (look 2) (aAb (look 1) aAn)))))))
  (aAk (aB6 7 (app aA8 (aAb (look 6) (aAb (look 3) aAn))))
  (aAk (aH8 8 (look 3))
  (aAk (sIf (aZb (test (app aCv (aAb (app aDm (aAb (look 6) (aAb (look 8) aAn))) (aAb (look 7) aAn))))) (aAk (aBw (con (.bl false)))
  aAr) aAr)
  (aAk (sIf (aAm (b2 aOx (look 8) (look 3))) (aAk (aBw (con (.bl false)))
  aAr) aAr)
  (aAk (sIf (aAm (b2 aVs (look 7) (mkT (aAb (con (.str "no")) (aAb (con (.str "NoTable")) aAn))))) (aAk (aB6 4 (look 6))
  aAr) aAr)
  aAr)))))))
  (aAk (sIf (aAm (b2 gIs (look 4) (con .non))) (aAk (aBw (con (.bl true)))
  aAr) aAr)
  (aAk (aH8 8 (look 3))
  (aAk (sIf (aZb (test (app aCv (aAb (app aDm (aAb (look 4) (aAb (look 8) aAn))) (aAb (mkT (aAb (con (.str "no")) (aAb (con (.str "NoTable")) aAn))) aAn))))) (aAk (aBw (con (.bl false)))
  aAr) aAr)
  (aAk (aWm (con (.int 3)) (con (.int 5)) (gN 5) (aAk (aKc 8 (b2 gIx (look 2) (look 5)) (b2 bB2 (look 3) (b2 gIx (look 2) (app aAi (aAb (app aBn (aAb (look 0) (aAb (con (.int 4)) aAn))) (aAb (con (.int 79)) (aAb (con (.int 3)) aAn)))))))
  aAr))
  (aAk (aBw (app aCv (aAb (app aDm (aAb (look 4) (aAb (look 8) aAn))) (aAb (app aA8 (aAb (look 4) (aAb (look 8) aAn))) aAn))))
  aAr))))))))))
theorem bKe (T:Txt K mg t){fd:Z9}(Fu:Fun K "law" "law" bDz t.aVv fd){k:Nat}{aBn:List D->M D}(aDl:Def P w K mg base k "_law_cell" aBn){aAi:List D->M D}(aAx:Def P w K mg base k "_law_draw" aAi){aA8:List D->M D}(aDt:Def P w K mg base k "_law_due" aA8){aD2:List D->M D}(aV8:Def P w K mg base k "_law_heads" aD2){aCk:List D->M D}(aO5:Def P w K mg base k "_law_question" aCk){aCv:List D->M D}(aJ2:Def P w K mg base k "_law_right" aCv){aDm:List D->M D}(aLp:aKs P w K mg base t.tab pq k "_law_told" aDm){aDf:List D->M D}(aN4:Def P w K mg base k "_law_words" aDf){F:List D->M D}(h:OkF 1 bGg (aRx t aBn aAi aA8 aD2 aCk aCv aDm aDf) F):FnT P w K mg base t.tab pq (k+1) t.aVv fd ["_law_script"] F:=by
 obtain⟨hL,hq⟩:=h;refine bN9 Fu aHm hL fun cdv A outer s H E hcv hT hr=>⟨aRx t aBn aAi aA8 aD2 aCk aCv aDm aDf,fun B=> ?_,hq⟩
 refine aAc ?_ ?_;(refine aA6 (i:=1) (aHm).nd rfl (Qz rfl) ?_;(refine aAq aN4 hr rfl ?_;(refine aAa ?_ ?_;(refine aAq aDl hr rfl ?_;(refine aAa ?_ ?_;(exact aAd 0);(refine aAa ?_ ?_;(exact aAh);(exact aAg))));(refine aAa ?_ ?_;(exact aAh);(exact aAg)))));(refine aAc ?_ ?_;(refine aA6 (i:=2) (aHm).nd rfl (Qz rfl) ?_;(refine aAq aN4 hr rfl ?_;(refine aAa ?_ ?_;(refine aAq aDl hr rfl ?_;(refine aAa ?_ ?_;(exact aAd 0);(refine aAa ?_ ?_;(exact aAh);(exact aAg))));(refine aAa ?_ ?_;(exact aAh);(exact aAg)))));(refine aAc ?_ ?_;(refine aA6 (i:=3) (aHm).nd rfl (Qz rfl) ?_;(refine aAq aV8 hr rfl ?_;(refine aAa ?_ ?_;(exact aAd 0);(refine aAa ?_ ?_;(refine aF6 ?_ ?_ ?_;(exact aAd 1);(exact aF4);(refine aF3 ?_;(exact aAh)));(refine aAa ?_ ?_;(exact aAd 2);(exact aAg))))));(refine aAc ?_ ?_;(refine aA6 (i:=4) (aHm).nd rfl (Qz rfl) ?_;(exact aSw));(refine aAc ?_ ?_;(refine bEq PassesOwn.never rfl ?_ (fun B=> ?_) (fun B=> ?_);(refine bMh rfl T.aJ1 ?_ ?_ ?_;(exact aAh);(refine bIz rfl rfl T.bQy ?_ ?_;(exact aAh);(refine bIy rfl rfl T.bQx ?_ ?_;(refine aIb rfl T.aLm ?_;(exact aAd 0));(exact aAh)));(exact aAh));(exact aF5 (i:=5) (aHm).nd rfl (Qz rfl));(refine aAc ?_ ?_;(refine aA6 (i:=6) (aHm).nd rfl (Qz rfl) ?_;(refine aAq aO5 hr rfl ?_;(refine aAa ?_ ?_;(refine aAq aDl hr rfl ?_;(refine aAa ?_ ?_;(exact aAd 0);(refine aAa ?_ ?_;(exact aAd 5);(exact aAg))));(refine aAa ?_ ?_;(refine aAq aDl hr rfl ?_;(refine aAa ?_ ?_;(exact aAd 0);(refine aAa ?_ ?_;(refine aC5 ?_ ?_;(exact aAd 5);(exact aAh));(exact aAg))));(refine aAa ?_ ?_;(exact aAd 3);(refine aAa ?_ ?_;(exact aAd 2);(refine aAa ?_ ?_;(exact aAd 1);(exact aAg))))))));(refine aAc ?_ ?_;(refine aA6 (i:=7) (aHm).nd rfl (Qz rfl) ?_;(refine aAq aDt hr rfl ?_;(refine aAa ?_ ?_;(exact aAd 6);(refine aAa ?_ ?_;(exact aAd 3);(exact aAg)))));(refine aAc ?_ ?_;(refine aKi (i:=8) rfl T.aXl (aHm).nd rfl (Qz rfl) ?_;(exact aAd 3));(refine aAc ?_ ?_;(refine aA3 ?_ ?_ ?_;(refine aQ0 ?_;(refine aQz ?_;(refine aAq aJ2 hr rfl ?_;(refine aAa ?_ ?_;(refine aEu aLp hT hr rfl ?_;(refine aAa ?_ ?_;(exact aAd 6);(refine aAa ?_ ?_;(exact aAd 8);(exact aAg))));(refine aAa ?_ ?_;(exact aAd 7);(exact aAg))))));(refine aAc ?_ ?_;(refine aAo ?_;(exact aU1));(exact aAe));(exact aAe));(refine aAc ?_ ?_;(refine aA3 ?_ ?_ ?_;(refine bEk hr ?_ ?_;(exact aAd 8);(exact aAd 3));(refine aAc ?_ ?_;(refine aAo ?_;(exact aU1));(exact aAe));(exact aAe));(refine aAc ?_ ?_;(refine aA3 ?_ ?_ ?_;(refine bIt hr ?_ ?_;(exact aAd 7);(refine aBz ?_;(refine aAa ?_ ?_;(exact aAt);(refine aAa ?_ ?_;(exact aAt);(exact aAg)))));(refine aAc ?_ ?_;(refine aA6 (i:=4) (aHm).nd rfl (Qz rfl) ?_;(exact aAd 6));(exact aAe));(exact aAe));(exact aAe))))))));(refine aAc ?_ ?_;(refine aA3 ?_ ?_ ?_;(refine bMs ?_ ?_;(exact aAd 4);(exact aSw));(refine aAc ?_ ?_;(refine aAo ?_;(exact aU1));(exact aAe));(exact aAe));(refine aAc ?_ ?_;(refine aKi (i:=8) rfl T.aXl (aHm).nd rfl (Qz rfl) ?_;(exact aAd 3));(refine aAc ?_ ?_;(refine aA3 ?_ ?_ ?_;(refine aQ0 ?_;(refine aQz ?_;(refine aAq aJ2 hr rfl ?_;(refine aAa ?_ ?_;(refine aEu aLp hT hr rfl ?_;(refine aAa ?_ ?_;(exact aAd 4);(refine aAa ?_ ?_;(exact aAd 8);(exact aAg))));(refine aAa ?_ ?_;(refine aBz ?_;(refine aAa ?_ ?_;(exact aAt);(refine aAa ?_ ?_;(exact aAt);(exact aAg))));(exact aAg))))));(refine aAc ?_ ?_;(refine aAo ?_;(exact aU1));(exact aAe));(exact aAe));(refine aAc ?_ ?_;(refine bAr rfl T.aJ1 PassesOwn.never rfl ?_ ?_ (fun B=> ?_) (fun B=> ?_);(exact aAh);(exact aAh);(exact aF5 (i:=5) (aHm).nd rfl (Qz rfl));(refine aAc ?_ ?_;(refine aKh hr 8 ?_ ?_;(refine aA2 ?_ ?_ (fun _ _=>rfl);(exact aAd 2);(exact aAd 5));(refine aWv hr ?_ ?_;(exact aAd 3);(refine aA2 ?_ ?_ (fun _ _=>rfl);(exact aAd 2);(refine aAq aAx hr rfl ?_;(refine aAa ?_ ?_;(refine aAq aDl hr rfl ?_;(refine aAa ?_ ?_;(exact aAd 0);(refine aAa ?_ ?_;(exact aAh);(exact aAg))));(refine aAa ?_ ?_;(exact aAh);(refine aAa ?_ ?_;(exact aAh);(exact aAg))))))));(exact aAe)));(refine aAc ?_ ?_;(refine aAo ?_;(refine aAq aJ2 hr rfl ?_;(refine aAa ?_ ?_;(refine aEu aLp hT hr rfl ?_;(refine aAa ?_ ?_;(exact aAd 4);(refine aAa ?_ ?_;(exact aAd 8);(exact aAg))));(refine aAa ?_ ?_;(refine aAq aDt hr rfl ?_;(refine aAa ?_ ?_;(exact aAd 4);(refine aAa ?_ ?_;(exact aAd 8);(exact aAg))));(exact aAg)))));(exact aAe))))))))))
end
def aLq (n:Nat)(f:List D->M D):List D->M D:=fun ds=>if ds.length=n then f ds else none
def aH1 (n:Nat)(f:List D->M D):List D->M D:=fun ds=>if ds.length=n then (match f ds with | some (.ok d)=>some (.ok d) | _=>none) else none
theorem aC2 {n:Nat}{f:List D->M D}: ∀ds r,aLq n f ds=some r->ds.length=n:=fun ds r h=>by
 unfold aLq at h;split at h
 ·assumption
 ·cases h
theorem aF1 {n:Nat}{f:List D->M D}: ∀ds r,aLq n f ds=some r->f ds=some r:=fun ds r h=>by
 unfold aLq at h;split at h
 ·exact h
 ·cases h
theorem aWf {n:Nat}{f:List D->M D}: ∀ds r,aH1 n f ds=some r->ds.length=n:=fun ds r h=>by
 unfold aH1 at h;split at h
 ·assumption
 ·cases h
theorem bGj {n:Nat}{f:List D->M D}: ∀ds r,aH1 n f ds=some r->∃d,r= .ok d/\f ds=ok d:=fun ds r h=>by
 unfold aH1 at h;split at h
 ·split at h
  ·rename_i d hd
   cases h;exact⟨d,rfl,hd⟩
  ·cases h
 ·cases h
theorem aD6 {n:Nat}{f:List D->M D}{ds:List D}{r:M D}(hl:ds.length=n)(h:f ds=r):aLq n f ds=r:=by unfold aLq;rw[if_pos hl,h]
theorem aA9 {n:Nat}{f:List D->M D}{ds:List D}{d:D}(hl:ds.length=n)(h:f ds=ok d):aH1 n f ds=ok d:=by unfold aH1;rw[if_pos hl,h];rfl
abbrev tS (xs:List Str):D:= .tup (xs.map D.str)
theorem aIh (xs:List Str):aCo (xs.map D.str)=true:=by
 induction xs with
 | nil=>rfl
 | cons x r ih=>rw[Q4,aCo,ih];rfl
theorem aHr (xs:List Str):(tS xs).imm=true:=aIh xs
theorem aOr (neg:Bool)(x:Str)(h:List Str):gIn neg (.str x) (tS h)=ok (.bl (if neg then !h.contains x else h.contains x)):=by
 unfold gIn;simp only[flD,bPk,Vc,aXe,aW9]
theorem aFv {k:Nat}{ft:Rho->M Bool}{fe:Rho->M D}{ρ:Rho}{p:Str->Bool}{g:Str->D}: ∀(l:List Str),(∀x∈l,ft (ρ.set k (some (.sh (.str x))))=ok (p x))->(∀x∈l,p x=true->fe (ρ.set k (some (.sh (.str x))))=ok (g x)/\(g x).imm=true)->
  aJ3 [k] h1 ft fe (l.map D.str) ρ=ok ((l.filter p).map g)
 | [],_,_=>rfl
 | x::l,h1',h2'=>by
  have ih:=aFv (p:=p) (g:=g) l (fun y hy=>h1' y (Qm _ hy)) (fun y hy=>h2' y (Qm _ hy));have e1:=h1' x Qq;rw[Q4];unfold aJ3;show (match ft (ρ.set k (some (.sh (.str x)))) with
   | some (.ok true)=>(match fe (ρ.set k (some (.sh (.str x)))) with
    | some (.ok r)=>if r.imm=true then bnd (aJ3 [k] h1 ft fe (l.map D.str) ρ) fun rs=>ok (r::rs) else none
    | _=>none)
   | some (.ok false)=>aJ3 [k] h1 ft fe (l.map D.str) ρ
   | _=>none)=_
  rw[e1,ih];cases hp:p x with
  | true=>
   obtain⟨e2,e3⟩:=h2' x Qq hp;rw[e2,Wv hp];show (if (g x).imm=true then bnd (ok ((l.filter p).map g)) fun rs=>ok (g x::rs) else none)=_;rw[if_pos e3];rfl
  | false=>
   rw[Ww (by simp[hp])];rfl
theorem aC4 {F G:Rho->Option Out}{ρ ρ':Rho}{c:Addr}(h:F ρ=some (.ex c ρ')):aAk F G ρ=some (.ex c ρ'):=by unfold aAk;rw[h]
theorem aM2 {C:Addr}{g:Rho->M (List D)}{ρ:Rho}{ds:List D}(h:g ρ=ok ds)(hl:ds.length<=1000):aEj C g ρ=some (.ex C ρ):=by
 unfold aEj;rw[h];show (if ds.length<=1000 then some (Out.ex C ρ) else none)=_;rw[if_pos hl]
theorem aN2 {f g:Rho->M Bool}{ρ:Rho}{a b:Bool}(h1:f ρ=ok a)(h2:g ρ=ok b):aYy f g ρ=ok (a&&b):=by
 unfold aYy;rw[h1,aBj];cases a
 ·rfl
 ·rw[if_pos rfl,h2];rfl
theorem aWw {f g:Rho->M Bool}{ρ:Rho}{a b:Bool}(h1:f ρ=ok a)(h2:g ρ=ok b):orB f g ρ=ok (a || b):=by
 unfold orB;rw[h1,aBj];cases a
 ·rw[if_neg (by decide),h2];rfl
 ·rfl
theorem aE3 {C:Addr}{f:Rho->M D}{ρ:Rho}{d:D}(h:f ρ=ok d):aAk (aEj C (aAb f aAn)) aAr ρ=some (.ex C ρ):=aC4 (aM2 (aAf h aBq) (by simp))
theorem len_app (a b:Str):(a++b).length=a.length+b.length:=W5 a b
theorem bOy {c x:Str}{f:Rho->M D}{ρ:Rho}(hc:c.length<=1000)(hx:(Zz x).length<=10000)(hf:f ρ=ok (.str x)): ∃z,jnd (aMq c (aTe f aSa)) ρ=ok (.str z):=by
 have e0:Str.empty.length=0:=rfl;have l1:(Zl++c).length<=100000:=by rw[len_app,e0];omega
 have l2:(Zz x).length<=100000/\(Zl++c++Zz x).length<=100000:=by rw[len_app,len_app,e0];omega
 refine⟨Zl++c++Zz x,?_⟩;unfold jnd aMq aTe aSa;rw[if_pos l1,hf];simp only[aBj];rw[if_pos l2,if_pos l2.2];rfl
theorem bOx {c c' x:Str}{f:Rho->M D}{ρ:Rho}(hc:c.length<=1000)(hc':c'.length<=1000)(hx:(Zz x).length<=10000)(hf:f ρ=ok (.str x)): ∃z,jnd (aMq c (aTe f (aMq c' aSa))) ρ=ok (.str z):=by
 have e0:Str.empty.length=0:=rfl;have l1:(Zl++c).length<=100000:=by rw[len_app,e0];omega
 have l2:(Zz x).length<=100000/\(Zl++c++Zz x).length<=100000:=by rw[len_app,len_app,e0];omega
 have l3:(Zl++c++Zz x++c').length<=100000:=by rw[len_app,len_app,len_app,e0];omega
 refine⟨Zl++c++Zz x++c',?_⟩;unfold jnd aMq aTe aSa;rw[if_pos l1,hf];simp only[aBj];rw[if_pos l2,if_pos l3,if_pos l3];rfl
def Sh (x:Str):Prop:=(Zz x).length<=10000
theorem bJh (t:Adr){c:List Str}(hz:c.length<=1000):aA0 (aCz t (aBu aE7 [tS c]))=if (aDz c).length=c.length then ok .non else err t.aAl:=by
 have e0:aBu aE7 [tS c]=[some (.sh (tS c))]:=rfl;rw[e0];have z2:c.length<=2000:=by omega
 by_cases he:(aDz c).length=c.length
 ·rw[if_pos he]
  simp[aCz,aAk,sIf,aAm,b2,f1,bHb,aJb,toS,aG2,z2,look,SV.cur,bnd,ok,lft,gNe,eqF,bGb,he,aAr,aA0]
 ·rw[if_neg he]
  have he':¬((aDz c).length:Int)=(c.length:Int):=by omega
  simp[aCz,aAk,sIf,aAm,b2,f1,bHb,aJb,toS,aG2,z2,look,SV.cur,bnd,ok,lft,gNe,eqF,bGb,he',aAr,aA0,aEj,aAb,aAn,con,err]
def bFq (t:Adr):List D->M D:=aLq 1 fun ds=>aA0 (aCz t (aBu aE7 ds))
def aLk (t:Adr):Rho->Option Out:=(aAk (sIf (aAm (b2 (gIn true) (look 2) (look 0))) (aAk (aEj t.aAl (aAb (jnd (aMq "the head has no column " (aTe (look 2) aSa))) aAn))
  aAr) aAr)
  aAr)
theorem aTd (t:Adr)(h:List Str)(y:D): ∀(l:List Str) (o:Option SV),(∀x∈l,Sh x)->
  (l.all (fun x=>h.contains x)=true->∃o',loop (gN 2) (aLk t) (l.map D.str) [some (.sh (tS h)),some (.sh y),o]=some (.nx [some (.sh (tS h)),some (.sh y),o']))/\
  (l.all (fun x=>h.contains x)=false->∃ρ',loop (gN 2) (aLk t) (l.map D.str) [some (.sh (tS h)),some (.sh y),o]=some (.ex t.aAl ρ'))
 | [],o,_=>⟨fun _=>⟨o,rfl⟩,fun z=>by simp at z⟩
 | x::l,o,hs=>by
  have hx:=hs x Qq;obtain⟨i1,i2⟩:=aTd t h y l (some (.sh (.str x))) (fun z hz=>hs z (Qm _ hz));have st:loop (gN 2) (aLk t) ((x::l).map D.str) [some (.sh (tS h)),some (.sh y),o]=match aLk t [some (.sh (tS h)),some (.sh y),some (.sh (.str x))] with
    | some (.nx ρ2)=>loop (gN 2) (aLk t) (l.map D.str) ρ2
    | some (.ct ρ2)=>loop (gN 2) (aLk t) (l.map D.str) ρ2
    | some (.bk ρ2)=>some (.nx ρ2)
    | some (.rt d)=>some (.rt d)
    | some (.ex c ρ2)=>some (.ex c ρ2)
    | none=>none:=rfl
  obtain⟨z,hz⟩:=bOy (c:="the head has no column ") (x:=x) (f:=look 2) (ρ:=[some (.sh (tS h)),some (.sh y),some (.sh (.str x))]) (by decide) hx rfl;cases hc:h.contains x with
  | true=>
   have hb:aLk t [some (.sh (tS h)),some (.sh y),some (.sh (.str x))]=some (.nx [some (.sh (tS h)),some (.sh y),some (.sh (.str x))]):=by
    have g1:(b2 (gIn true) (look 2) (look 0)) [some (.sh (tS h)),some (.sh y),some (.sh (.str x))]=ok (.bl false):=by
     show gIn true (.str x) (tS h)=_;rw[aOr,hc];rfl
    unfold aLk;rw[aAj ((aJo (aA4 g1)).trans rfl)];rfl
   rw[st,hb,Zo,hc,J6];exact⟨i1,i2⟩
  | false=>
   have hb:aLk t [some (.sh (tS h)),some (.sh y),some (.sh (.str x))]=some (.ex t.aAl [some (.sh (tS h)),some (.sh y),some (.sh (.str x))]):=by
    have g1:(b2 (gIn true) (look 2) (look 0)) [some (.sh (tS h)),some (.sh y),some (.sh (.str x))]=ok (.bl true):=by
     show gIn true (.str x) (tS h)=_;rw[aOr,hc];rfl
    unfold aLk;exact aC4 ((aDo (aA4 g1)).trans (aE3 hz))
   rw[st,hb,Zo,hc,J3];exact And.intro (fun z=>Q5 z) (fun _=>⟨_,rfl⟩)
theorem bJ0 (t:Adr){h c:List Str}(hz:c.length<=1000)(hs: ∀x∈c,Sh x):aA0 (aDi t (bFq t) (aBu aFx [tS h,tS c]))=if (aDz c).length=c.length/\c.all (fun x=>h.contains x)=true then ok (tS c) else err t.aAl:=by
 have e0:aBu aFx [tS h,tS c]=[some (.sh (tS h)),some (.sh (tS c)),none]:=rfl;rw[e0];have h1:bFq t [tS c]=if (aDz c).length=c.length then ok .non else err t.aAl:=aD6 rfl (bJh t hz)
 by_cases he:(aDz c).length=c.length
 ·rw[if_pos he] at h1
  obtain⟨i1,i2⟩:=aTd t h (tS c) c none hs;have d1:aM5 (app (bFq t) (aAb (look 1) aAn)) [some (.sh (tS h)),some (.sh (tS c)),none]=some (.nx [some (.sh (tS h)),some (.sh (tS c)),none]):=by
   simp[aM5,app,aAb,aAn,look,SV.cur,bnd,ok,lft,h1]
  have d2:aSp 1 (gN 2) (aLk t) [some (.sh (tS h)),some (.sh (tS c)),none]=loop (gN 2) (aLk t) (c.map D.str) [some (.sh (tS h)),some (.sh (tS c)),none]:=rfl;unfold aDi;rw[aAj d1];show aA0 (aAk (aSp 1 (gN 2) (aLk t)) _ _)=_;cases hc:c.all (fun x=>h.contains x) with
  | true=>
   obtain⟨o',hl⟩:=i1 hc;rw[aAj (d2.trans hl),if_pos ⟨he,rfl⟩];rfl
  | false=>
   obtain⟨ρ',hl⟩:=i2 hc;rw[if_neg (by simp)];unfold aAk;rw[d2,hl];rfl
 ·rw[if_neg he] at h1
  rw[if_neg (fun z=>he z.1)];simp[aDi,aAk,aM5,app,aAb,aAn,look,SV.cur,bnd,ok,err,lft,h1,aA0]
def bKi (t:Adr):List D->M D:=aLq 2 fun ds=>aA0 (aDi t (bFq t) (aBu aFx ds))
theorem bCp (t:Adr){h:List Str}{x y:Str}(hz:h.length<=1000)(hx:Sh x)(hy:Sh y):
  aA0 (aC9 t (aBu aEh [tS h,.str x,.str y]))=if h.contains x=true/\¬(h.contains y=true/\y≠x) then ok (tS (h.map fun c=>if c=x then y else c)) else err t.aAl:=by
 have e0:aBu aEh [tS h,.str x,.str y]=[some (.sh (tS h)),some (.sh (.str x)),some (.sh (.str y))]:=rfl;rw[e0];obtain⟨z1,hz1⟩:=bOy (c:="the head has no column ") (x:=x) (f:=look 1) (ρ:=[some (.sh (tS h)),some (.sh (.str x)),some (.sh (.str y))]) (by decide) hx rfl;obtain⟨z2,hz2⟩:=bOx (c:="the head has a column ") (c':=" already") (x:=y) (f:=look 2) (ρ:=[some (.sh (tS h)),some (.sh (.str x)),some (.sh (.str y))]) (by decide) (by decide) hy rfl;have hl:h.length<=1000000:=by omega
 have cm:cmp 1 (itE (look 0)) [3] h1 (fun _=>ok true) (ifV (aAm (b2 gEq (look 3) (look 1))) (look 2) (look 3)) [some (.sh (tS h)),some (.sh (.str x)),some (.sh (.str y))]=ok (.lst ((h.map fun c=>if c=x then y else c).map D.str)):=by
  have e1:=aFv (k:=3) (ft:=fun _=>ok true) (fe:=ifV (aAm (b2 gEq (look 3) (look 1))) (look 2) (look 3)) (ρ:=[some (.sh (tS h)),some (.sh (.str x)),some (.sh (.str y)),none]) (p:=fun _=>true) (g:=fun c=> .str (if c=x then y else c)) h (fun _ _=>rfl) (fun c _ _=>by
   refine⟨?_,rfl⟩;by_cases hc:c=x
   ·subst hc
    simp[ifV,aAm,b2,look,SV.cur,bnd,ok,gEq,eqF,bGb]
   ·simp[ifV,aAm,b2,look,SV.cur,bnd,ok,gEq,eqF,bGb,hc])
  unfold cmp;show bnd (ok (h.map D.str)) _=_;rw[aBj,if_pos (by rw[Qi];exact hl)];show bnd (aJ3 [3] h1 (fun _=>ok true) _ (h.map D.str) [some (.sh (tS h)),some (.sh (.str x)),some (.sh (.str y)),none]) _=_;rw[e1,aBj,List.filter_eq_self.mpr (fun _ _=>rfl),Yu];rfl
 have g0:(b2 (gIn true) (look 1) (look 0)) [some (.sh (tS h)),some (.sh (.str x)),some (.sh (.str y))]=ok (.bl (!h.contains x)):=aOr true x h;have g1:(b2 (gIn false) (look 2) (look 0)) [some (.sh (tS h)),some (.sh (.str x)),some (.sh (.str y))]=ok (.bl (h.contains y)):=aOr false y h;have g2:(b2 gNe (look 2) (look 1)) [some (.sh (tS h)),some (.sh (.str x)),some (.sh (.str y))]=ok (.bl (!decide (y=x))):=rfl;unfold aC9;cases hc:h.contains x with
 | false=>
  rw[if_neg (by simp)];rw[hc] at g0;rw[aC4 ((aDo (aA4 g0)).trans (aE3 hz1))];rfl
 | true=>
  rw[hc] at g0;rw[aAj ((aJo (aA4 g0)).trans rfl)];have g3:=aN2 (aA4 g1) (aA4 g2);by_cases hb:h.contains y=true/\y≠x
  ·rw[if_neg (fun z=>z.2 hb)]
   have e:(h.contains y&& !decide (y=x))=true:=by rw[hb.1,decide_eq_false hb.2];rfl
   rw[e] at g3;rw[aC4 ((aDo g3).trans (aE3 hz2))];rfl
  ·rw[if_pos ⟨rfl,hb⟩]
   have e:(h.contains y&& !decide (y=x))=false:=by
    cases hy':h.contains y with
    | false=>rfl
    | true=>
     have e:y=x:=Jq fun q=>hb ⟨hy',q⟩
     rw[decide_eq_true e];rfl
   rw[e] at g3;rw[aAj ((aJo g3).trans rfl)];have e2:f1 toT (cmp 1 (itE (look 0)) [3] h1 (fun _=>ok true) (ifV (aAm (b2 gEq (look 3) (look 1))) (look 2) (look 3))) [some (.sh (tS h)),some (.sh (.str x)),some (.sh (.str y))]=ok (tS (h.map fun c=>if c=x then y else c)):=by
    unfold f1;rw[cm];rfl
   rw[aBl (aC0 e2)];rfl
def aVx (t:Adr):List D->M D:=aLq 3 fun ds=>aA0 (aC9 t (aBu aEh ds))
theorem bBh (t:Adr){h o:List Str}(hz:h.length<=1000)(ho:o.length<=1000):aA0 (aC8 t (aBu aEf [tS h,tS o]))=ok (tS (h++o.filter fun c=> !h.contains c)):=by
 have e0:aBu aEf [tS h,tS o]=[some (.sh (tS h)),some (.sh (tS o))]:=rfl;rw[e0];have hl:o.length<=1000000:=by omega
 have cm:cmp 1 (itE (look 1)) [2] h1 (aAm (b2 (gIn true) (look 2) (look 0))) (look 2) [some (.sh (tS h)),some (.sh (tS o))]=ok (.lst ((o.filter fun c=> !h.contains c).map D.str)):=by
  have e1:=aFv (k:=2) (ft:=aAm (b2 (gIn true) (look 2) (look 0))) (fe:=look 2) (ρ:=[some (.sh (tS h)),some (.sh (tS o)),none]) (p:=fun c=> !h.contains c) (g:=D.str) o (fun c _=>by
   have g0:(b2 (gIn true) (look 2) (look 0)) [some (.sh (tS h)),some (.sh (tS o)),some (.sh (.str c))]=ok (.bl (!h.contains c)):=aOr true c h;show aAm _ [some (.sh (tS h)),some (.sh (tS o)),some (.sh (.str c))]=_;unfold aAm;rw[g0];rfl) (fun c _ _=>⟨rfl,rfl⟩)
  unfold cmp;show bnd (ok (o.map D.str)) _=_;rw[aBj,if_pos (by rw[Qi];exact hl)];show bnd (aJ3 [2] h1 _ _ (o.map D.str) [some (.sh (tS h)),some (.sh (tS o)),none]) _=_;rw[e1,aBj]
 have hlen:(h.map D.str).length+((o.filter fun c=> !h.contains c).map D.str).length<=100000:=by
  rw[Qi,Qi];have:=W4 (fun c=> !h.contains c) o;omega
 have e2:b2 aCc (f1 toT (look 0)) (f1 toT (cmp 1 (itE (look 1)) [2] h1 (aAm (b2 (gIn true) (look 2) (look 0))) (look 2))) [some (.sh (tS h)),some (.sh (tS o))]=ok (tS (h++o.filter fun c=> !h.contains c)):=by
  refine aAs (x:=tS h) (y:=tS (o.filter fun c=> !h.contains c)) rfl (by unfold f1;rw[cm];rfl) ?_;show (if _ then _ else _)=_;rw[if_pos hlen,<-Z0]
 unfold aC8;rw[aBl (aC0 e2)];rfl
def bB8 (t:Adr):List D->M D:=aH1 2 fun ds=>aA0 (aC8 t (aBu aEf ds))
theorem aUl (t:Adr){h o:List Str}(hz:h.length<=1000)(ho:o.length<=1000):aA0 (aCq t (aBu aDc [tS h,tS o]))=if (decide ((aDz h).length=(aDz o).length)&&(aDz h).all fun k=>(aDz o).contains k)=true then ok (tS h) else err t.aBp:=by
 have e0:aBu aDc [tS h,tS o]=[some (.sh (tS h)),some (.sh (tS o))]:=rfl;rw[e0];have z1:h.length<=2000:=by omega
 have z2:o.length<=2000:=by omega
 have g0:(b2 bHi (f1 toS (look 0)) (f1 toS (look 1))) [some (.sh (tS h)),some (.sh (tS o))]=ok (.bl (!(decide ((aDz h).length=(aDz o).length)&&(aDz h).all fun k=>(aDz o).contains k))):=by
  refine aAs (x:= .set (aDz h)) (y:= .set (aDz o)) ?_ ?_ rfl
  ·simp[f1,look,SV.cur,bnd,ok,toS,aG2,z1]
  ·simp[f1,look,SV.cur,bnd,ok,toS,aG2,z2]
 unfold aCq;cases hb:(decide ((aDz h).length=(aDz o).length)&&(aDz h).all fun k=>(aDz o).contains k) with
 | true=>
  rw[hb] at g0;rw[if_pos rfl,aAj ((aJo (aA4 g0)).trans rfl),aBl (aC0 (show f1 toT (look 0) _=ok (tS h) from rfl))];rfl
 | false=>
  rw[hb] at g0;rw[if_neg (by simp),aC4 ((aDo (aA4 g0)).trans (aE3 (show con _ _=ok _ from rfl)))];rfl
def aFt (t:Adr):List D->M D:=aLq 2 fun ds=>aA0 (aCq t (aBu aDc ds))
inductive Tst where
 | is (c:Str) (v:D) | same (a b:Str) | no (t:Tst) | an (a b:Tst) | or (a b:Tst)
def Flat (v:D):Prop:=(∃i,v= .int i)\/∃x,v= .str x
def Tst.d:Tst->D
 | .is c v=> .tup [.str "is",.str c,v]
 | .same a b=> .tup [.str "same",.str a,.str b]
 | .no t=> .tup [.str "not",t.d]
 | .an a b=> .tup [.str "and",a.d,b.d]
 | .or a b=> .tup [.str "or",a.d,b.d]
def Tst.cols:Tst->List Str
 | .is c _=> [c]
 | .same a b=> [a,b]
 | .no t=>t.cols
 | .an a b=>a.cols++b.cols
 | .or a b=>a.cols++b.cols
def pt (x y c:Str):Str:=if c=x then y else c
def Tst.put (x y:Str):Tst->Tst
 | .is c v=> .is (pt x y c) v
 | .same a b=> .same (pt x y a) (pt x y b)
 | .no t=> .no (t.put x y)
 | .an a b=> .an (a.put x y) (b.put x y)
 | .or a b=> .or (a.put x y) (b.put x y)
def Tst.wf:Tst->Prop
 | .is _ v=>Flat v
 | .same _ _=>True
 | .no t=>t.wf
 | .an a b=>a.wf/\b.wf
 | .or a b=>a.wf/\b.wf
def Tst.ht:Tst->Nat
 | .is _ _=>0
 | .same _ _=>0
 | .no t=>t.ht+1
 | .an a b=>max a.ht b.ht+1
 | .or a b=>max a.ht b.ht+1
theorem Flat.imm {v:D}(h:Flat v):v.imm=true:=by rcases h with⟨i,rfl⟩ |⟨x,rfl⟩<;>rfl
theorem Flat.pl {v:D}(h:Flat v):v.pl=true:=by rcases h with⟨i,rfl⟩ |⟨x,rfl⟩<;>rfl
theorem Flat.dep {v:D}(h:Flat v):v.dep=0:=by rcases h with⟨i,rfl⟩ |⟨x,rfl⟩<;>rfl
theorem Tst.imm: ∀{T:Tst},T.wf->T.d.imm=true
 | .is c v,h=>by simp[Tst.d,D.imm,aCo,Flat.imm h]
 | .same a b,_=>rfl
 | .no t,h=>by simp[Tst.d,D.imm,aCo,Tst.imm (T:=t) h]
 | .an a b,h=>by simp[Tst.d,D.imm,aCo,Tst.imm (T:=a) h.1,Tst.imm (T:=b) h.2]
 | .or a b,h=>by simp[Tst.d,D.imm,aCo,Tst.imm (T:=a) h.1,Tst.imm (T:=b) h.2]
theorem Tst.pl: ∀{T:Tst},T.wf->T.d.pl=true
 | .is c v,h=>by simp[Tst.d,D.pl,plL,Flat.pl h]
 | .same a b,_=>rfl
 | .no t,h=>by simp[Tst.d,D.pl,plL,Tst.pl (T:=t) h]
 | .an a b,h=>by simp[Tst.d,D.pl,plL,Tst.pl (T:=a) h.1,Tst.pl (T:=b) h.2]
 | .or a b,h=>by simp[Tst.d,D.pl,plL,Tst.pl (T:=a) h.1,Tst.pl (T:=b) h.2]
theorem Tst.dep: ∀{T:Tst},T.wf->T.d.dep=T.ht+1
 | .is c v,h=>by simp[Tst.d,D.dep,bKo,Flat.dep h,Tst.ht]
 | .same a b,_=>rfl
 | .no t,h=>by simp[Tst.d,D.dep,bKo,Tst.dep (T:=t) h,Tst.ht]
 | .an a b,h=>by simp[Tst.d,D.dep,bKo,Tst.dep (T:=a) h.1,Tst.dep (T:=b) h.2,Tst.ht]
 | .or a b,h=>by simp[Tst.d,D.dep,bKo,Tst.dep (T:=a) h.1,Tst.dep (T:=b) h.2,Tst.ht]
theorem wd {f:Rho->M D}{ρ:Rho}{x y:Str}(h:f ρ=ok (.str x)):aAm (b2 gEq f (con (.str y))) ρ=ok (decide (x=y)):=aA4 (aAs h rfl rfl)
theorem w1:decide (("is":Str)="is")=true:=by decide+kernel
theorem w2:decide (("same":Str)="is")=false:=by decide+kernel
theorem w3:decide (("not":Str)="is")=false:=by decide+kernel
theorem w4:decide (("and":Str)="is")=false:=by decide+kernel
theorem w5:decide (("or":Str)="is")=false:=by decide+kernel
theorem w6:decide (("same":Str)="same")=true:=by decide+kernel
theorem w7:decide (("not":Str)="same")=false:=by decide+kernel
theorem w8:decide (("and":Str)="same")=false:=by decide+kernel
theorem w9:decide (("or":Str)="same")=false:=by decide+kernel
theorem aAw {ds:List D}{j:Nat}{d:D}(h:ds[j]? =some d):gIx (.tup ds) (.int (j:Int))=ok d:=by
 show (match atI ds (j:Int) with | some d=>ok d | none=>none)=_;rw[aN0 h]
def bB6 (t:Adr):Nat->List D->M D
 | 0=>fun _=>none
 | k+1=>aH1 1 fun ds=>aA0 (aB4 t (bB6 t k) (aBu aCi ds))
def bCw (F:List D->M D):Rho->Option Out:=(aAk (bDc 1 (aAb (app F (aAb (look 2) aAn)) aAn))
  aAr)
theorem bF8 {F:List D->M D}{x p:D}{ds:List D}{xs:List Str}(h:F [p]=ok (.lst (xs.map D.str)))(hl:ds.length+xs.length<=100000):bCw F [some (.sh x),some (.own ds),some (.sh p)]=some (.nx [some (.sh x),some (.own (ds++xs.map D.str)),some (.sh p)]):=by
 have e:bDc 1 (aAb (app F (aAb (look 2) aAn)) aAn) [some (.sh x),some (.own ds),some (.sh p)]=some (.nx [some (.sh x),some (.own (ds++xs.map D.str)),some (.sh p)]):=by
  unfold bDc;show lft _ _ _=_;rw[aAf ((aBk (aAf (d:=p) rfl aBq)).trans h) aBq];show (if aCo (xs.map D.str)=true/\ds.length+(xs.map D.str).length<=100000 then _ else _)=_;rw[if_pos ⟨aIh xs,by rw[Qi];exact hl⟩];rfl
 unfold bCw;rw[aAj e];rfl
theorem aSg {F:List D->M D}{x:D}: ∀(ps:List Tst) (ds:List D) (o:Option SV),(∀T∈ps,T.wf/\F [T.d]=ok (.lst (T.cols.map D.str)))->ds.length+(ps.flatMap Tst.cols).length<=100000->
  ∃o',loop (gN 2) (bCw F) (ps.map Tst.d) [some (.sh x),some (.own ds),o]=some (.nx [some (.sh x),some (.own (ds++(ps.flatMap Tst.cols).map D.str)),o'])
 | [],ds,o,_,_=>⟨o,by simp[loop]⟩
 | T::ps,ds,o,h,hl=>by
  obtain⟨h1,h2⟩:=h T Qq;rw[List.flatMap_cons,Ql] at hl;obtain⟨o',ih⟩:=aSg (x:=x) ps (ds++T.cols.map D.str) (some (.sh T.d)) (fun S hS=>h S (Qm _ hS)) (by rw[Ql,Qi];omega);refine⟨o',?_⟩;have g:gN 2 T.d [some (.sh x),some (.own ds),o]=some [some (.sh x),some (.own ds),some (.sh T.d)]:=by
   unfold gN;rw[aMl (Tst.imm h1)];rfl
  rw[Q4];unfold loop;rw[g]
  dsimp only
  rw[bF8 h2 (by omega)]
  dsimp only
  rw[ih,List.flatMap_cons,Z0,We]
theorem aMu {t:Adr}{F:List D->M D}{w:Str}{x:D}(ps:List Tst)(hx:x= .tup (.str w::ps.map Tst.d))(h1:decide (w="is")=false)(h2:decide (w="same")=false)(hw:x.imm=true)(h: ∀T∈ps,T.wf/\F [T.d]=ok (.lst (T.cols.map D.str)))(hl:(ps.flatMap Tst.cols).length<=1000):
  aA0 (aB4 t F (aBu aCi [x]))=ok (.lst ((ps.flatMap Tst.cols).map D.str)):=by
 have e0:aBu aCi [x]=[some (.sh x),none,none]:=rfl;rw[e0];have i0:b2 gIx (look 0) (con (.int 0)) [some (.sh x),none,none]=ok (.str w):=by
  subst hx;exact aAs (x:= .tup (.str w::ps.map Tst.d)) (y:= .int ((0:Nat):Int)) rfl rfl (aAw rfl)
 unfold aB4;rw[aAj ((aJo ((wd i0).trans (by rw[h1]))).trans rfl),aAj ((aJo ((wd i0).trans (by rw[h2]))).trans rfl)];have n1:sNew 1 aAn [some (.sh x),none,none]=some (.nx [some (.sh x),some (.own []),none]):=by simp[sNew,aAn,ok,lft,aCo]
 rw[aAj n1];have c1:aMt (look 0) (aFe (con (.int 1))) aFq [some (.sh x),some (.own []),none]=ok (.tup (ps.map Tst.d)):=by
  subst hx;unfold aMt aFe aFq con;show ok (D.tup (cutD (.str w::ps.map Tst.d) (some ((1:Nat):Int)) none))=_;rw[aMs _ (by rw[Zc];omega)];rfl
 have im:(D.tup (ps.map Tst.d)).imm=true:=by
  subst hx;rw[D.imm,aCo] at hw
  simpa[D.imm] using hw
 obtain⟨o',hlp⟩:=aSg (F:=F) (x:=x) ps [] none h (by simpa using Z2 hl (by decide));have s2:aM4 (aMt (look 0) (aFe (con (.int 1))) aFq) (gN 2) (bCw F) [some (.sh x),some (.own []),none]=some (.nx [some (.sh x),some (.own ((ps.flatMap Tst.cols).map D.str)),o']):=by
  rw[aQs c1 rfl,if_pos im,hlp];rfl
 show aA0 (aAk (aM4 _ (gN 2) (bCw F)) _ _)=_;rw[aAj s2];rfl
theorem aKx (t:Adr): ∀(T:Tst) (k:Nat),T.wf->T.ht<k->T.cols.length<=1000->bB6 t k [T.d]=ok (.lst (T.cols.map D.str))
 | _,0,_,h,_=>absurd h (Nat.not_lt_zero _)
 | .is c v,k+1,hw,h,hl=>by
  refine aA9 rfl ?_;have e0:aBu aCi [(Tst.is c v).d]=[some (.sh (Tst.is c v).d),none,none]:=rfl;rw[e0];unfold aB4;have i0:b2 gIx (look 0) (con (.int 0)) [some (.sh (Tst.is c v).d),none,none]=ok (.str "is"):=rfl;rw[aBl ((aDo ((wd i0).trans (by rw[w1]))).trans (aBl (aC0 (bG8 (aAf (d:= .str c) rfl aBq)))))];rfl
 | .same a b,k+1,hw,h,hl=>by
  refine aA9 rfl ?_;have e0:aBu aCi [(Tst.same a b).d]=[some (.sh (Tst.same a b).d),none,none]:=rfl;rw[e0];unfold aB4;have i0:b2 gIx (look 0) (con (.int 0)) [some (.sh (Tst.same a b).d),none,none]=ok (.str "same"):=rfl;rw[aAj ((aJo ((wd i0).trans (by rw[w2]))).trans rfl),aBl ((aDo ((wd i0).trans (by rw[w6]))).trans (aBl (aC0 (bG8 (aAf (d:= .str a) rfl (aAf (d:= .str b) rfl aBq))))))];rfl
 | .no a,k+1,hw,h,hl=>by
  have h':a.ht<k:=by simp[Tst.ht] at h;omega
  have ih:=aKx t a k hw h' hl;refine aA9 rfl ((aMu [a] rfl w3 w7 (Tst.imm (T:= .no a) hw) (fun S hS=> ?_) (by simpa[Tst.cols] using hl)).trans (by simp[Tst.cols]));rw[Ys] at hS;subst hS;exact⟨hw,ih⟩
 | .an a b,k+1,hw,h,hl=>by
  have h':max a.ht b.ht<k:=by simp[Tst.ht] at h;omega
  have hl2:a.cols.length+b.cols.length<=1000:=by simpa[Tst.cols] using hl
  have iha:=aKx t a k hw.1 (by omega) (by omega);have ihb:=aKx t b k hw.2 (by omega) (by omega);refine aA9 rfl ((aMu [a,b] rfl w4 w8 (Tst.imm (T:= .an a b) hw) (fun S hS=> ?_) (by simpa using hl2)).trans (by simp[Tst.cols]));rcases List.mem_cons.mp hS with rfl | hS
  ·exact⟨hw.1,iha⟩
  ·rw[Ys] at hS
   subst hS;exact⟨hw.2,ihb⟩
 | .or a b,k+1,hw,h,hl=>by
  have h':max a.ht b.ht<k:=by simp[Tst.ht] at h;omega
  have hl2:a.cols.length+b.cols.length<=1000:=by simpa[Tst.cols] using hl
  have iha:=aKx t a k hw.1 (by omega) (by omega);have ihb:=aKx t b k hw.2 (by omega) (by omega);refine aA9 rfl ((aMu [a,b] rfl w5 w9 (Tst.imm (T:= .or a b) hw) (fun S hS=> ?_) (by simpa using hl2)).trans (by simp[Tst.cols]));rcases List.mem_cons.mp hS with rfl | hS
  ·exact⟨hw.1,iha⟩
  ·rw[Ys] at hS
   subst hS;exact⟨hw.2,ihb⟩
def csS (l:List Str):List Str:=bDr (aDz l)
theorem bLq {f:Rho->M D}{ρ:Rho}{l:List Str}(h:f ρ=ok (.lst (l.map D.str)))(hl:l.length<64):f1 bLa (f1 toS f) ρ=ok (.lst ((csS l).map D.str)):=by
 have z:l.length<=2000:=by omega
 have e1:f1 toS f ρ=ok (.set (aDz l)):=by
  unfold f1;rw[h];show (match bGo (l.map D.str) with | some xs=>if xs.length<=2000 then ok (D.set (aDz xs)) else none | none=>none)=_;rw[aG2];show (if l.length<=2000 then _ else _)=_;rw[if_pos z]
 have e2:bLa (.set (aDz l))=ok (.lst ((csS l).map D.str)):=by
  show (if (aDz l).length<64/\(aDz l).Nodup then _ else _)=_;rw[if_pos ⟨Wd (bA7 l) hl,aPx l⟩];rfl
 show bnd (f1 toS f ρ) bLa=_;rw[e1];exact e2
theorem bCk {l:List Str}{x:Str}:x∈csS l↔x∈l:=by
 unfold csS;rw[(aMv (aDz l)).mem_iff];have:=bEz l x;rw[<-U0,<-U0,this]
def bFr (t:Adr)(n:Nat):List D->M D:=aH1 1 fun ds=>aA0 (aEw t (bB6 t n) (aBu aGh ds))
theorem bKs (t:Adr){T:Tst}{n:Nat}(hw:T.wf)(hn:T.ht<n)(hl:T.cols.length<64):bFr t n [T.d]=ok (.lst ((csS T.cols).map D.str)):=by
 refine aA9 rfl ?_;have e0:aBu aGh [T.d]=[some (.sh T.d)]:=rfl;rw[e0];have e1:app (bB6 t n) (aAb (look 0) aAn) [some (.sh T.d)]=ok (.lst (T.cols.map D.str)):=(aBk (aAf (d:=T.d) rfl aBq)).trans (aKx t T n hw hn (by omega));unfold aEw;rw[aBl (aC0 (bLq e1 hl))];rfl
def aP3 (t:Adr)(n:Nat):List D->M D:=aLq 2 fun ds=>aA0 (aDj t (bFr t n) (aBu aEg ds))
def aLl (t:Adr):Rho->Option Out:=(aAk (sIf (aAm (b2 (gIn true) (look 2) (look 1))) (aAk (aEj t.aAl (aAb (jnd (aMq "the test has a column " (aTe (look 2) (aMq ", the head has not" aSa)))) aAn))
  aAr) aAr)
  aAr)
theorem aP7 (t:Adr)(h:List Str)(y:D): ∀(l:List Str) (o:Option SV),(∀x∈l,Sh x)->
  (l.all (fun x=>h.contains x)=true->∃o',loop (gN 2) (aLl t) (l.map D.str) [some (.sh y),some (.sh (tS h)),o]=some (.nx [some (.sh y),some (.sh (tS h)),o']))/\
  (l.all (fun x=>h.contains x)=false->∃ρ',loop (gN 2) (aLl t) (l.map D.str) [some (.sh y),some (.sh (tS h)),o]=some (.ex t.aAl ρ'))
 | [],o,_=>⟨fun _=>⟨o,rfl⟩,fun z=>by simp at z⟩
 | x::l,o,hs=>by
  have hx:=hs x Qq;obtain⟨i1,i2⟩:=aP7 t h y l (some (.sh (.str x))) (fun z hz=>hs z (Qm _ hz));have st:loop (gN 2) (aLl t) ((x::l).map D.str) [some (.sh y),some (.sh (tS h)),o]=match aLl t [some (.sh y),some (.sh (tS h)),some (.sh (.str x))] with
    | some (.nx ρ2)=>loop (gN 2) (aLl t) (l.map D.str) ρ2
    | some (.ct ρ2)=>loop (gN 2) (aLl t) (l.map D.str) ρ2
    | some (.bk ρ2)=>some (.nx ρ2)
    | some (.rt d)=>some (.rt d)
    | some (.ex c ρ2)=>some (.ex c ρ2)
    | none=>none:=rfl
  obtain⟨z,hz⟩:=bOx (c:="the test has a column ") (c':=", the head has not") (x:=x) (f:=look 2) (ρ:=[some (.sh y),some (.sh (tS h)),some (.sh (.str x))]) (by decide) (by decide) hx rfl;have g0:(b2 (gIn true) (look 2) (look 1)) [some (.sh y),some (.sh (tS h)),some (.sh (.str x))]=ok (.bl (!h.contains x)):=aOr true x h;cases hc:h.contains x with
  | true=>
   rw[hc] at g0;have hb:aLl t [some (.sh y),some (.sh (tS h)),some (.sh (.str x))]=some (.nx [some (.sh y),some (.sh (tS h)),some (.sh (.str x))]):=by
    unfold aLl;rw[aAj ((aJo (aA4 g0)).trans rfl)];rfl
   rw[st,hb,Zo,hc,J6];exact⟨i1,i2⟩
  | false=>
   rw[hc] at g0;have hb:aLl t [some (.sh y),some (.sh (tS h)),some (.sh (.str x))]=some (.ex t.aAl [some (.sh y),some (.sh (tS h)),some (.sh (.str x))]):=by
    unfold aLl;exact aC4 ((aDo (aA4 g0)).trans (aE3 hz))
   rw[st,hb,Zo,hc,J3];exact And.intro (fun z=>Q5 z) (fun _=>⟨_,rfl⟩)
theorem bHt {l h:List Str}:(csS l).all (fun x=>h.contains x)=l.all (fun x=>h.contains x):=by
 rw[Jl,Yt,Yt];exact⟨fun q x hx=>q x (bCk.mpr hx),fun q x hx=>q x (bCk.mp hx)⟩
theorem bF6 (t:Adr){T:Tst}{n:Nat}{h:List Str}(hw:T.wf)(hn:T.ht<n)(hl:T.cols.length<64)(hs: ∀x∈T.cols,Sh x):aP3 t n [T.d,tS h]=if T.cols.all (fun x=>h.contains x)=true then ok .non else err t.aAl:=by
 refine aD6 rfl ?_;have e0:aBu aEg [T.d,tS h]=[some (.sh T.d),some (.sh (tS h)),none]:=rfl;rw[e0];have e1:app (bFr t n) (aAb (look 0) aAn) [some (.sh T.d),some (.sh (tS h)),none]=ok (.lst ((csS T.cols).map D.str)):=(aBk (aAf (d:=T.d) rfl aBq)).trans (bKs t hw hn hl);obtain⟨i1,i2⟩:=aP7 t h T.d (csS T.cols) none (fun x hx=>hs x (bCk.mp hx));have d2:aM4 (app (bFr t n) (aAb (look 0) aAn)) (gN 2) (aLl t) [some (.sh T.d),some (.sh (tS h)),none]=loop (gN 2) (aLl t) ((csS T.cols).map D.str) [some (.sh T.d),some (.sh (tS h)),none]:=by
  rw[aQs e1 rfl];rfl
 unfold aDj;show aA0 (aAk (aM4 _ (gN 2) (aLl t)) _ _)=_;cases hc:T.cols.all (fun x=>h.contains x) with
 | true=>
  obtain⟨o',hlp⟩:=i1 (by rw[bHt];exact hc);rw[aAj (d2.trans hlp),if_pos rfl];rfl
 | false=>
  obtain⟨ρ',hlp⟩:=i2 (by rw[bHt];exact hc);rw[if_neg (by simp),aC4 (d2.trans hlp)];rfl
abbrev so (o:Option D):Option SV:=o.map SV.sh
abbrev RL (q:D)(f:Addr)(A Or:List D)(o4 o5:Option D):Rho:=[some (.sh q),some (.sh (.fn f)),some (.own A),some (.own Or),so o4,so o5]
def bF9 (Φ:D->List D->M D):Rho->Option Out:=(aAk (bLb 4 2)
  (aAk (aX0 5 Φ 1 (aAb (look 4) aAn))
  (aAk (aQr aYf 3 (aAb (mkT (aAb (look 4) (aAb (f1 aJb (look 5)) aAn))) aAn))
  (aAk (bDc 2 (aAb (look 5) aAn))
  aAr))))
theorem bE2 {Φ:D->List D->M D}{q x:D}{f:Addr}{A Or bs:List D}{o4 o5:Option D}(h:Φ (.fn f) [x]=ok (.lst bs))(hx:x.imm=true)(hb:aCo bs=true)(hA:A.length+bs.length<=1000)(hO:Or.length<=1000):
  bF9 Φ (RL q f (A++ [x]) Or o4 o5)=some (.nx (RL q f (A++bs) (Or++ [.tup [x,.int bs.length]]) (some x) (some (.lst bs)))):=by
 have s1:bLb 4 2 (RL q f (A++ [x]) Or o4 o5)=some (.nx (RL q f A Or (some x) o5)):=by
  unfold bLb;have e:(A++ [x])[(A++ [x]).length-1]? =some x:=by simp
  show (match (A++ [x])[(A++ [x]).length-1]? with
   | some d=>if d.imm=true then some (Out.nx (((RL q f (A++ [x]) Or o4 o5).set 2 (some (.own (A++ [x]).dropLast))).set 4 (some (.sh d)))) else none
   | none=>none)=_
  rw[e]
  dsimp only
  rw[if_pos hx,List.dropLast_concat];rfl
 have s2:aX0 5 Φ 1 (aAb (look 4) aAn) (RL q f A Or (some x) o5)=some (.nx (RL q f A Or (some x) (some (.lst bs)))):=by
  have no:bJk (RL q f A Or (some x) o5)=true:=by cases o5<;>rfl
  unfold aX0;show (if (D.fn f).fnl=true/\bJk (RL q f A Or (some x) o5)=true then lft (bnd (aAb (look 4) aAn (RL q f A Or (some x) o5)) fun ds=>if aCo ds=true then Φ (.fn f) ds else none) (RL q f A Or (some x) o5) fun d=>some (Out.nx ((RL q f A Or (some x) o5).set 5 (some (.sh d)))) else none)=_;rw[if_pos ⟨rfl,no⟩,show aAb (look 4) aAn (RL q f A Or (some x) o5)=ok [x] from rfl,aBj,if_pos (by rw[aCo,hx];rfl),h,aDq];rfl
 have s3:aQr aYf 3 (aAb (mkT (aAb (look 4) (aAb (f1 aJb (look 5)) aAn))) aAn) (RL q f A Or (some x) (some (.lst bs)))=some (.nx (RL q f A (Or++ [.tup [x,.int bs.length]]) (some x) (some (.lst bs)))):=by
  unfold aQr;show lft (ok [D.tup [x,.int bs.length]]) _ (fun as=>if aCo as=true/\Or.length<100000 then (match aYf Or as with | some ds'=>some (Out.nx ((RL q f A Or (some x) (some (.lst bs))).set 3 (some (.own ds')))) | none=>none) else none)=_;rw[aDq,if_pos ⟨by simp[aCo,D.imm,hx],by omega⟩];rfl
 have s4:bDc 2 (aAb (look 5) aAn) (RL q f A (Or++ [.tup [x,.int bs.length]]) (some x) (some (.lst bs)))=some (.nx (RL q f (A++bs) (Or++ [.tup [x,.int bs.length]]) (some x) (some (.lst bs)))):=by
  unfold bDc;show lft (ok [D.lst bs]) _ (fun as=>(match as with | [.lst es]=>if aCo es=true/\A.length+es.length<=100000 then some (Out.nx ((RL q f A (Or++ [.tup [x,.int bs.length]]) (some x) (some (.lst bs))).set 2 (some (.own (A++es))))) else none | _=>none))=_;rw[aDq]
  dsimp only
  rw[if_pos ⟨hb,by omega⟩];rfl
 unfold bF9;rw[aAj s1,aAj s2,aAj s3,aAj s4];rfl
def bKr:Rho->M Bool:=aAm (b2 gGt (f1 aJb (look 2)) (con (.int 0)))
theorem aXh {q:D}{f:Addr}{A Or:List D}{o4 o5:Option D}:bKr (RL q f A Or o4 o5)=ok (decide (0<A.length)):=by
 refine aA4 (aAs (aRr (d:= .lst A) rfl rfl) rfl ?_);show ok (D.bl (decide ((0:Int)<(A.length:Int))))=_
 congr 3
 simp
inductive aT8:List D->List D->List (D×List D)->List D->Prop where
 | nil (Or:List D):aT8 [] Or [] Or
 | cons {A:List D} {x:D} {bs Or:List D} {r:List (D×List D)} {O2:List D} (h:aT8 (A++bs) (Or++ [.tup [x,.int bs.length]]) r O2):aT8 (A++ [x]) Or ((x,bs)::r) O2
theorem bJx {Φ:D->List D->M D}{q:D}{f:Addr}: ∀{st:List (D×List D)} {A Or O2:List D},aT8 A Or st O2->∀(o4 o5:Option D) (n:Nat),(∀p∈st,Φ (.fn f) [p.1]=ok (.lst p.2)/\p.1.imm=true/\aCo p.2=true/\p.2.length<=5)->A.length+5*st.length<=900->Or.length+st.length<=900->st.length<n->
  ∃o4' o5',sWh bKr (bF9 Φ) n (RL q f A Or o4 o5)=some (.nx (RL q f [] O2 o4' o5')):=by
 intro st A Or O2 h
 induction h with
 | nil Or=>
  intro o4 o5 n _ _ _ hn;obtain⟨n,rfl⟩: ∃m,n=m+1:=⟨n-1,by simp at hn;omega⟩;exact⟨o4,o5,bD0 (by rw[aXh];rfl) n⟩
 | @cons A x bs Or r O2 h ih=>
  intro o4 o5 n hp hA hO hn;obtain⟨p1,p2,p3,p4⟩:=hp (x,bs) Qq;obtain⟨n,rfl⟩: ∃m,n=m+1:=⟨n-1,by simp at hn;omega⟩;simp only[Zc,Ql,Wk] at hA hO hn
  dsimp only at p4
  obtain⟨o4',o5',hr⟩:=ih (some x) (some (.lst bs)) n (fun p hq=>hp p (Qm _ hq)) (by rw[Ql];omega) (by rw[Ql,Zs];omega) (by omega);refine⟨o4',o5',?_⟩;rw[bD1 (by rw[aXh];simp) (bE2 p1 p2 p3 (show A.length+bs.length<=1000 by omega) (by omega)) n];exact hr
def bBb (t:Adr)(Φ:D->List D->M D):List D->M D:=aLq 2 fun ds=>aA0 (aGd t Φ (aBu aIz ds))
theorem bBa (t:Adr){Φ:D->List D->M D}{q:D}{f:Addr}{st:List (D×List D)}{O2:List D}(hq:q.imm=true)(hp: ∀p∈st,Φ (.fn f) [p.1]=ok (.lst p.2)/\p.1.imm=true/\aCo p.2=true/\p.2.length<=5)(hl:st.length<=100)(h:aT8 [q] [] st O2):
  bBb t Φ [q,.fn f]=ok (.lst O2.reverse):=by
 refine aD6 rfl ?_;have e0:aBu aIz [q,.fn f]=[some (.sh q),some (.sh (.fn f)),none,none,none,none]:=rfl;rw[e0];have s1:sNew 2 (aAb (look 0) aAn) [some (.sh q),some (.sh (.fn f)),none,none,none,none]=some (.nx [some (.sh q),some (.sh (.fn f)),some (.own [q]),none,none,none]):=by
  unfold sNew;show lft (ok [q]) _ (fun ds=>if aCo ds=true/\ds.length<=1000 then some (Out.nx ([some (.sh q),some (.sh (.fn f)),none,none,none,none].set 2 (some (.own ds)))) else none)=_;rw[aDq,if_pos ⟨by rw[aCo,hq];rfl,by simp⟩];rfl
 obtain⟨o4,o5,hr⟩:=bJx (q:=q) (f:=f) h none none 100000 hp (by simp;omega) (by simp;omega) (by omega);have s3:aZ0 bKr (bF9 Φ) (RL q f [q] [] none none)=some (.nx (RL q f [] O2 o4 o5)):=hr;unfold aGd;rw[aAj s1,aAj (ρ':=RL q f [q] [] none none) rfl];exact (congrArg aA0 (aAj s3)).trans rfl
abbrev RT (q:D)(f:Addr)(tl:D)(R:List D)(o4 o5:Option D)(o6:Option SV):Rho:=[some (.sh q),some (.sh (.fn f)),some (.sh tl),some (.own R),so o4,so o5,o6]
def aHs (Φ:D->List D->M D):Rho->Option Out:=(aAk (aX1 6 3 (look 5))
  (aAk (bLu 6)
  (aAk (aQr aYf 3 (aAb (aZe Φ 2 (aAb (look 4) (aAb (look 6) aAn))) aAn))
  aAr)))
theorem aSh {Φ:D->List D->M D}{q x tl:D}{f:Addr}{R0 R1:List D}{o6:Option SV}(hf:tl.fnl=true)(h0:aCo (R0++R1)=true)(hl:(R0++R1).length<=1000):
  (∀r,Φ tl [x,.lst R1]=ok r->r.imm=true->aHs Φ (RT q f tl (R0++R1) (some x) (some (.int R1.length)) o6)=some (.nx (RT q f tl (R0++ [r]) (some x) (some (.int R1.length)) (some (.own R1)))))/\
  ∀c,Φ tl [x,.lst R1]=err c->∃ρ,aHs Φ (RT q f tl (R0++R1) (some x) (some (.int R1.length)) o6)=some (.ex c ρ):=by
 have s1:aX1 6 3 (look 5) (RT q f tl (R0++R1) (some x) (some (.int R1.length)) o6)=some (.nx (RT q f tl R0 (some x) (some (.int R1.length)) (some (.own R1.reverse)))):=by
  unfold aX1;show (if 0<=(R1.length:Int)/\(R1.length:Int).toNat<=(R0++R1).length/\(R0++R1).length<=100000/\aCo (R0++R1)=true then some (Out.nx (((RT q f tl (R0++R1) (some x) (some (.int R1.length)) o6).set 3 (some (.own ((R0++R1).take ((R0++R1).length-(R1.length:Int).toNat))))).set 6 (some (.own ((R0++R1).drop ((R0++R1).length-(R1.length:Int).toNat)).reverse)))) else none)=_;have e:(R0++R1).length-(R1.length:Int).toNat=R0.length:=by rw[Ql];omega
  rw[if_pos ⟨by omega,by rw[Ql];omega,by omega,h0⟩,e,List.take_left,List.drop_left];rfl
 have s2:bLu 6 (RT q f tl R0 (some x) (some (.int R1.length)) (some (.own R1.reverse)))=some (.nx (RT q f tl R0 (some x) (some (.int R1.length)) (some (.own R1)))):=by
  show some (Out.nx ((RT q f tl R0 (some x) (some (.int R1.length)) (some (.own R1.reverse))).set 6 (some (.own R1.reverse.reverse))))=_;rw[List.reverse_reverse];rfl
 have s3: ∀m,Φ tl [x,.lst R1]=m->aAb (aZe Φ 2 (aAb (look 4) (aAb (look 6) aAn))) aAn (RT q f tl R0 (some x) (some (.int R1.length)) (some (.own R1)))=bnd m fun r=>ok [r]:=fun m hm=>by
  have e:aZe Φ 2 (aAb (look 4) (aAb (look 6) aAn)) (RT q f tl R0 (some x) (some (.int R1.length)) (some (.own R1)))=m:=by
   unfold aZe;show (if tl.fnl=true then bnd (ok [x,.lst R1]) (fun ds=>Φ tl ds) else none)=m;rw[if_pos hf,aBj,hm]
  show bnd (aZe Φ 2 (aAb (look 4) (aAb (look 6) aAn)) (RT q f tl R0 (some x) (some (.int R1.length)) (some (.own R1)))) (fun r=>bnd (aAn _) fun xs=>ok (r::xs))=_;rw[e];rfl
 have l0:R0.length<100000:=by rw[Ql] at hl;omega
 refine⟨fun r hr hi=> ?_,fun c hc=> ?_⟩
 ·have s4:aQr aYf 3 (aAb (aZe Φ 2 (aAb (look 4) (aAb (look 6) aAn))) aAn) (RT q f tl R0 (some x) (some (.int R1.length)) (some (.own R1)))=some (.nx (RT q f tl (R0++ [r]) (some x) (some (.int R1.length)) (some (.own R1)))):=by
   unfold aQr;show lft (aAb (aZe Φ 2 (aAb (look 4) (aAb (look 6) aAn))) aAn (RT q f tl R0 (some x) (some (.int R1.length)) (some (.own R1)))) _ (fun as=>if aCo as=true/\R0.length<100000 then (match aYf R0 as with | some ds'=>some (Out.nx ((RT q f tl R0 (some x) (some (.int R1.length)) (some (.own R1))).set 3 (some (.own ds')))) | none=>none) else none)=_;rw[s3 _ hr,aBj,aDq,if_pos ⟨by rw[aCo,hi];rfl,l0⟩];rfl
  unfold aHs;rw[aAj s1,aAj s2,aAj s4];rfl
 ·refine⟨RT q f tl R0 (some x) (some (.int R1.length)) (some (.own R1)),?_⟩
  have s4:aQr aYf 3 (aAb (aZe Φ 2 (aAb (look 4) (aAb (look 6) aAn))) aAn) (RT q f tl R0 (some x) (some (.int R1.length)) (some (.own R1)))=some (.ex c (RT q f tl R0 (some x) (some (.int R1.length)) (some (.own R1)))):=by
   unfold aQr;show lft (aAb (aZe Φ 2 (aAb (look 4) (aAb (look 6) aAn))) aAn (RT q f tl R0 (some x) (some (.int R1.length)) (some (.own R1)))) _ (fun as=>if aCo as=true/\R0.length<100000 then (match aYf R0 as with | some ds'=>some (Out.nx ((RT q f tl R0 (some x) (some (.int R1.length)) (some (.own R1))).set 3 (some (.own ds')))) | none=>none) else none)=_;rw[s3 _ hc,aR2,bJt]
  unfold aHs;rw[aAj s1,aAj s2,aC4 s4]
def aWb (m:M D):Prop:=(∃r,m=ok r/\r.imm=true)\/∃c,m=err c
def ttF (t:Adr)(Φ:D->List D->M D):List D->M D:=aLq 3 fun ds=>aA0 (aDv t (bBb t Φ) Φ (aBu aEx ds))
section
variable {Φ:D->List D->M D}{q p p2 x tl:D}{f:Addr}
theorem bJq {G:D->Rho->Option Rho}{F:Rho->Option Out}{d:D}{ds:List D}{ρ ρ1 ρ2:Rho}{c:Addr}(h1:G d ρ=some ρ1)(h2:F ρ1=some (.ex c ρ2)):loop G F (d::ds) ρ=some (.ex c ρ2):=by
 unfold loop;rw[h1]
 dsimp only
 rw[h2]
theorem gx (hx:x.imm=true){R:List D}{n:Int}{o4 o5:Option D}{o6:Option SV}:gN2 4 5 (.tup [x,.int n]) (RT q f tl R o4 o5 o6)=some (RT q f tl R (some x) (some (.int n)) o6):=by
 show some (aQl 5 (.int n) (aQl 4 x (RT q f tl R o4 o5 o6)))=_;rw[aMl hx,aMl rfl];rfl
theorem aXy {R0 R1 ds:List D}{o4 o5:Option D}{o6:Option SV}{r:D}(hx:x.imm=true)(hf:tl.fnl=true)(h0:aCo (R0++R1)=true)(hl:(R0++R1).length<=1000)(h:Φ tl [x,.lst R1]=ok r)(hi:r.imm=true):
  loop (gN2 4 5) (aHs Φ) (.tup [x,.int R1.length]::ds) (RT q f tl (R0++R1) o4 o5 o6)=loop (gN2 4 5) (aHs Φ) ds (RT q f tl (R0++ [r]) (some x) (some (.int R1.length)) (some (.own R1))):=
 aEa (ρ1:=RT q f tl (R0++R1) (some x) (some (.int R1.length)) o6) (gx hx) ((aSh hf h0 hl).1 r h hi)
theorem aPa {R0 R1 ds:List D}{o4 o5:Option D}{o6:Option SV}{c:Addr}(hx:x.imm=true)(hf:tl.fnl=true)(h0:aCo (R0++R1)=true)(hl:(R0++R1).length<=1000)(h:Φ tl [x,.lst R1]=err c):
  ∃ρ,loop (gN2 4 5) (aHs Φ) (.tup [x,.int R1.length]::ds) (RT q f tl (R0++R1) o4 o5 o6)=some (.ex c ρ):=by
 obtain⟨ρ,hρ⟩:=(aSh (q:=q) (f:=f) (o6:=o6) hf h0 hl).2 c h;exact⟨ρ,bJq (ρ1:=RT q f tl (R0++R1) (some x) (some (.int R1.length)) o6) (gx hx) hρ⟩
theorem aHq {ds:List D}{j:Nat}{d:D}(h:ds[j]? =some d):gIx (.lst ds) (.int (j:Int))=ok d:=by
 show (match atI ds (j:Int) with | some d=>ok d | none=>none)=_;rw[aN0 h]
theorem bH2 (t:Adr){O:List D}{m:M D}(h:bBb t Φ [q,.fn f]=ok (.lst O))(hi:aCo O=true)(hn:O≠[])
  (hl:(∃r Rr o4 o5 o6,m=ok r/\loop (gN2 4 5) (aHs Φ) O (RT q f tl [] none none none)=some (.nx (RT q f tl (r::Rr) o4 o5 o6)))\/∃c ρ,m=err c/\loop (gN2 4 5) (aHs Φ) O (RT q f tl [] none none none)=some (.ex c ρ)):ttF t Φ [q,.fn f,tl]=m:=by
 refine aD6 rfl ?_;have e0:aBu aEx [q,.fn f,tl]=[some (.sh q),some (.sh (.fn f)),some (.sh tl),none,none,none,none]:=rfl;rw[e0];have ha:ap (.lst O) (RT q f tl [] none none none)=true:=by
  show (aCo O&&(true&&(true&&(true&&((decide (O.length≠([]:List D).length) || bRn O [])&&(true&&(true&&(true&&true))))))))=true;have:decide (O.length≠([]:List D).length)=true:=by simpa using hn
  rw[hi,this];rfl
 have s2:bD3 (app (bBb t Φ) (aAb (look 0) (aAb (look 1) aAn))) (gN2 4 5) (aHs Φ) (RT q f tl [] none none none)=loop (gN2 4 5) (aHs Φ) O (RT q f tl [] none none none):=by
  unfold bD3;rw[aBk (ds:=[q,.fn f]) rfl,h,aDq];show (if ap (.lst O) (RT q f tl [] none none none)=true then loop (gN2 4 5) (aHs Φ) O (RT q f tl [] none none none) else none)=_;rw[if_pos ha]
 unfold aDv;rw[aAj (ρ':=RT q f tl [] none none none) rfl];rcases hl with⟨r,Rr,o4,o5,o6,rfl,hlp⟩ |⟨c,ρ,rfl,hlp⟩
 ·refine (congrArg aA0 (aAj (s2.trans hlp))).trans ?_
  have e1:gIx (.lst (r::Rr)) (.int 0)=ok r:=aHq (j:=0) rfl;rw[aBl (aC0 (aAs (x:= .lst (r::Rr)) (y:= .int 0) rfl rfl e1))];rfl
 ·exact congrArg aA0 (aC4 (s2.trans hlp))
theorem tt0 (t:Adr)(hf:tl.fnl=true)(hq:q.imm=true)(h:bBb t Φ [q,.fn f]=ok (.lst [.tup [q,.int 0]]))(h1:aWb (Φ tl [q,.lst []])):ttF t Φ [q,.fn f,tl]=Φ tl [q,.lst []]:=by
 refine bH2 t h (by simp[aCo,D.imm,hq]) (by simp) ?_;rcases h1 with⟨r,hr,hi⟩ |⟨c,hc⟩
 ·exact .inl ⟨r,[],_,_,_,hr,(aXy (R0:=[]) (R1:=[]) hq hf rfl (by simp) hr hi).trans rfl⟩
 ·obtain⟨ρ,hρ⟩:=aPa (q:=q) (f:=f) (R0:=[]) (R1:=[]) (ds:=[]) (o4:=none) (o5:=none) (o6:=none) hq hf rfl (by simp) hc
  exact .inr ⟨c,ρ,hc,hρ⟩
theorem tt1 (t:Adr)(hf:tl.fnl=true)(hq:q.imm=true)(hp:p.imm=true)(h:bBb t Φ [q,.fn f]=ok (.lst [.tup [p,.int 0],.tup [q,.int 1]]))(h1:aWb (Φ tl [p,.lst []]))(h2: ∀r,Φ tl [p,.lst []]=ok r->aWb (Φ tl [q,.lst [r]])):
  ttF t Φ [q,.fn f,tl]=bnd (Φ tl [p,.lst []]) fun r=>Φ tl [q,.lst [r]]:=by
 refine bH2 t h (by simp[aCo,D.imm,hq,hp]) (by simp) ?_;rcases h1 with⟨r,hr,hi⟩ |⟨c,hc⟩
 ·have s1:=aXy (q:=q) (f:=f) (R0:=[]) (R1:=[]) (ds:=[.tup [q,.int 1]]) (o4:=none) (o5:=none) (o6:=none) hp hf rfl (by simp) hr hi
  rw[hr,aBj];rcases h2 r hr with⟨r2,hr2,hi2⟩ |⟨c,hc⟩
  ·exact .inl ⟨r2,[],_,_,_,hr2,s1.trans ((aXy (R0:=[]) (R1:=[r]) hq hf (by simp[aCo,hi]) (by simp) hr2 hi2).trans rfl)⟩
  ·obtain⟨ρ,hρ⟩:=aPa (q:=q) (f:=f) (R0:=[]) (R1:=[r]) (ds:=[]) (o4:=some p) (o5:=some (.int (([]:List D).length:Nat))) (o6:=some (.own [])) hq hf (by simp[aCo,hi]) (by simp) hc
   exact .inr ⟨c,ρ,hc,s1.trans hρ⟩
 ·obtain⟨ρ,hρ⟩:=aPa (q:=q) (f:=f) (R0:=[]) (R1:=[]) (ds:=[.tup [q,.int 1]]) (o4:=none) (o5:=none) (o6:=none) hp hf rfl (by simp) hc
  exact .inr ⟨c,ρ,by rw[hc,aR2],hρ⟩
theorem tt2 (t:Adr)(hf:tl.fnl=true)(hq:q.imm=true)(hp:p.imm=true)(hp2:p2.imm=true)(h:bBb t Φ [q,.fn f]=ok (.lst [.tup [p,.int 0],.tup [p2,.int 0],.tup [q,.int 2]]))(h1:aWb (Φ tl [p,.lst []]))(h1':aWb (Φ tl [p2,.lst []]))
  (h2: ∀r r2,Φ tl [p,.lst []]=ok r->Φ tl [p2,.lst []]=ok r2->aWb (Φ tl [q,.lst [r,r2]])):
  ttF t Φ [q,.fn f,tl]=bnd (Φ tl [p,.lst []]) fun r=>bnd (Φ tl [p2,.lst []]) fun r2=>Φ tl [q,.lst [r,r2]]:=by
 refine bH2 t h (by simp[aCo,D.imm,hq,hp,hp2]) (by simp) ?_;rcases h1 with⟨r,hr,hi⟩ |⟨c,hc⟩
 ·have s1:=aXy (q:=q) (f:=f) (R0:=[]) (R1:=[]) (ds:=[.tup [p2,.int 0],.tup [q,.int 2]]) (o4:=none) (o5:=none) (o6:=none) hp hf rfl (by simp) hr hi
  rw[hr,aBj];rcases h1' with⟨r2,hr2,hi2⟩ |⟨c,hc⟩
  ·have s2:=aXy (q:=q) (f:=f) (R0:=[r]) (R1:=[]) (ds:=[.tup [q,.int 2]]) (o4:=some p) (o5:=some (.int (([]:List D).length:Nat))) (o6:=some (.own [])) hp2 hf (by simp[aCo,hi]) (by simp) hr2 hi2
   rw[hr2,aBj];rcases h2 r r2 hr hr2 with⟨r3,hr3,hi3⟩ |⟨c,hc⟩
   ·exact .inl ⟨r3,[],_,_,_,hr3,s1.trans (s2.trans ((aXy (R0:=[]) (R1:=[r,r2]) hq hf (by simp[aCo,hi,hi2]) (by simp) hr3 hi3).trans rfl))⟩
   ·obtain⟨ρ,hρ⟩:=aPa (q:=q) (f:=f) (R0:=[]) (R1:=[r,r2]) (ds:=[]) (o4:=some p2) (o5:=some (.int (([]:List D).length:Nat))) (o6:=some (.own [])) hq hf (by simp[aCo,hi,hi2]) (by simp) hc
    exact .inr ⟨c,ρ,hc,s1.trans (s2.trans hρ)⟩
  ·obtain⟨ρ,hρ⟩:=aPa (q:=q) (f:=f) (R0:=[r]) (R1:=[]) (ds:=[.tup [q,.int 2]]) (o4:=some p) (o5:=some (.int (([]:List D).length:Nat))) (o6:=some (.own [])) hp2 hf (by simp[aCo,hi]) (by simp) hc
   exact .inr ⟨c,ρ,by rw[hc,aR2],s1.trans hρ⟩
 ·obtain⟨ρ,hρ⟩:=aPa (q:=q) (f:=f) (R0:=[]) (R1:=[]) (ds:=[.tup [p2,.int 0],.tup [q,.int 2]]) (o4:=none) (o5:=none) (o6:=none) hp hf rfl (by simp) hc
  exact .inr ⟨c,ρ,by rw[hc,aR2],hρ⟩
theorem lay0 (t:Adr)(hq:q.imm=true)(h:Φ (.fn f) [q]=ok (.lst [])):bBb t Φ [q,.fn f]=ok (.lst [.tup [q,.int 0]]):=
 bBa t (st:=[(q,[])]) hq (by intro z hz;cases List.mem_singleton.mp hz;exact⟨h,hq,rfl,by simp⟩) (by simp) (.cons (A:=[]) (.nil _))
theorem bSr (t:Adr)(hq:q.imm=true)(hp:p.imm=true)(h:Φ (.fn f) [q]=ok (.lst [p]))(h1:Φ (.fn f) [p]=ok (.lst [])):bBb t Φ [q,.fn f]=ok (.lst [.tup [p,.int 0],.tup [q,.int 1]]):=
 bBa t (st:=[(q,[p]),(p,[])]) (O2:=[.tup [q,.int 1],.tup [p,.int 0]]) hq (by
  intro z hz;rcases List.mem_cons.mp hz with rfl | hz
  ·exact⟨h,hq,by simp[aCo,hp],by simp⟩
  ·cases List.mem_singleton.mp hz;exact⟨h1,hp,rfl,by simp⟩) (by simp) (.cons (A:=[]) (.cons (A:=[]) (.nil _)))
theorem bSq (t:Adr)(hq:q.imm=true)(hp:p.imm=true)(hp2:p2.imm=true)(h:Φ (.fn f) [q]=ok (.lst [p,p2]))(h1:Φ (.fn f) [p]=ok (.lst []))(h2:Φ (.fn f) [p2]=ok (.lst [])):bBb t Φ [q,.fn f]=ok (.lst [.tup [p,.int 0],.tup [p2,.int 0],.tup [q,.int 2]]):=
 bBa t (st:=[(q,[p,p2]),(p2,[]),(p,[])]) (O2:=[.tup [q,.int 2],.tup [p2,.int 0],.tup [p,.int 0]]) hq (by
  intro z hz;rcases List.mem_cons.mp hz with rfl | hz
  ·exact⟨h,hq,by simp[aCo,hp,hp2],by simp⟩
  ·rcases List.mem_cons.mp hz with rfl | hz
   ·exact⟨h2,hp2,rfl,by simp⟩
   ·cases List.mem_singleton.mp hz;exact⟨h1,hp,rfl,by simp⟩) (by simp) (.cons (A:=[]) (.cons (A:=[p]) (.cons (A:=[]) (.nil _))))
end
theorem aMs (ds:List D){j:Nat}(h:j<=ds.length):L2.PU.cutD ds (some (j:Int)) none=ds.drop j:=by
 unfold L2.PU.cutD;rw[HT.aKd,HT.aM3,Uy h];exact Ur (by rw[Z5];exact Qr _)
theorem bCj (ds:List D){j:Nat}(h:j<=ds.length):L2.PU.cutD ds none (some (j:Int))=ds.take j:=by
 unfold L2.PU.cutD;rw[HT.aKd,HT.aM3,U4,Ud,Uy h]
abbrev Hs:=List (Str×List Str)
def hK (hs:Hs):List (Key×D):=hs.map fun p=>(Y9 p.1,tS p.2)
def hD (hs:Hs):D:= .dk (hK hs)
structure HOK (hs:Hs):Prop where
 len:hs.length<=20
 nd:(hs.map (·.1)).Nodup
 nm: ∀p∈hs,Sh p.1
 sz: ∀p∈hs,p.2.length<=20
 cl: ∀p∈hs,∀c∈p.2,Sh c
theorem key_eq {a b:Str}:decide ((Y9 a:Key)=Y9 b)=decide (a=b):=by
 by_cases e:a=b
 ·subst e;simp
 ·have h:¬(Y9 a:Key)=Y9 b:=fun q=>e (Sum.inr.inj q)
  rw[decide_eq_false h,decide_eq_false e]
theorem aSe (n:Str): ∀(hs:Hs),aQe (hK hs) (.inr n)=(hs.lookup n).map tS
 | []=>rfl
 |(m,h)::hs=>by
  have ih:=aSe n hs;unfold aQe hK at ih⊢;rw[Q4,Ym,J5]
  dsimp only
  rw[key_eq];by_cases e:m=n
  ·subst e;simp
  ·have e2:(n==m)=false:=by simpa using fun z=>e z.symm
   rw[decide_eq_false e,e2];exact ih
theorem lookup_mem {α:Type}{n:Str}{h:α}: ∀{hs:List (Str×α)},hs.lookup n=some h->(n,h)∈hs:=fun {hs} e=>Y2 e
def bFi (t:Adr)(hs:Hs)(n:Str):M D:=match hs.lookup n with | some h=>ok (tS h) | none=>err t.aA1
theorem bFz (neg:Bool)(n:Str)(hs:Hs):aVt neg (.str n) (hD hs)=ok (.bl (if neg then !(hs.lookup n).isSome else (hs.lookup n).isSome)):=by
 show ok (D.bl (if neg=true then !(aQe (hK hs) (.inr n)).isSome else (aQe (hK hs) (.inr n)).isSome))=_;rw[aSe,Uh]
theorem bFy {n:Str}{hs:Hs}{h:List Str}(e:hs.lookup n=some h):bB2 (hD hs) (.str n)=ok (tS h):=by
 show (match aQe (hK hs) (.inr n) with | some d=>ok d | none=>none)=_;rw[aSe,e];rfl
def bKf (t:Adr):List D->M D:=aLq 2 fun ds=>aA0 (aEv t (aBu aGf ds))
theorem bH5 (t:Adr){n:Str}{hs:Hs}(hn:Sh n):bKf t [.str n,hD hs]=bFi t hs n:=by
 refine aD6 rfl ?_;have e0:aBu aGf [.str n,hD hs]=[some (.sh (.str n)),some (.sh (hD hs))]:=rfl;rw[e0];unfold aEv bFi;have c1:aAm (b2 (aVt true) (look 0) (look 1)) [some (.sh (.str n)),some (.sh (hD hs))]=ok (!(hs.lookup n).isSome):=aA4 (aAs rfl rfl (bFz true n hs));cases e:hs.lookup n with
 | none=>
  rw[e] at c1;obtain⟨z,hz⟩:=bOy (c:="there is no table ") (x:=n) (f:=look 0) (ρ:=[some (.sh (.str n)),some (.sh (hD hs))]) (by decide+kernel) hn rfl;rw[aC4 ((aDo c1).trans (aE3 hz))];rfl
 | some h=>
  rw[e] at c1;rw[aAj ((aJo c1).trans rfl),aBl (aC0 (aAs rfl rfl (bFy e)))];rfl
theorem bHf: ∀(hs:Hs),bJ6 (hK hs)=true
 | []=>rfl
 |(m,h)::hs=>by
  show ((tS h).imm&&bJ6 (hK hs))=true;rw[aHr,bHf hs];rfl
def aJp (hs:Hs)(n:Str)(h:List Str):Hs:=if (hs.any fun p=>decide (p.1=n))=true then hs.map (fun p=>if p.1=n then (p.1,h) else p) else hs++ [(n,h)]
theorem bQz (n:Str)(hs:Hs):((hK hs).any fun kv=>decide (kv.1=Y9 n))=hs.any fun p=>decide (p.1=n):=by
 unfold hK;rw[List.any_map]
 congr 1
 funext p
 exact key_eq
theorem bPt (hs:Hs)(n:Str)(h:List Str):bDd (hK hs) (.inr n) (tS h)=hK (aJp hs n h):=by
 unfold bDd aJp;rw[bQz];split
 ·unfold hK
  rw[Yu,Yu];refine Jf fun p _=> ?_
  simp only[Function.comp];by_cases e:p.1=n
  ·rw[if_pos (by rw[e]),if_pos e]
  ·rw[if_neg (fun q=>e (Sum.inr.inj q)),if_neg e]
 ·unfold hK
  rw[Z0];rfl
theorem aKe (hs:Hs)(n:Str)(h:List Str):(aJp hs n h).map (·.1)=if n∈hs.map (·.1) then hs.map (·.1) else hs.map (·.1)++ [n]:=by
 unfold aJp;by_cases q:(hs.any fun p=>decide (p.1=n))=true
 ·have:n∈hs.map (·.1):=by
   rw[Wh] at q;obtain⟨p,h1,h2⟩:=q;exact List.mem_map.mpr ⟨p,h1,of_decide_eq_true h2⟩
  rw[if_pos q,if_pos this,Yu];refine Jf fun p _=> ?_
  simp only[Function.comp];split<;>rfl
 ·have:n∉hs.map (·.1):=fun z=>q (by
   obtain⟨p,h1,h2⟩:=List.mem_map.mp z;exact List.any_eq_true.mpr ⟨p,h1,decide_eq_true h2⟩)
  rw[if_neg q,if_neg this,Z0];rfl
theorem aUw {hs:Hs}{n:Str}{h:List Str}{p:Str×List Str}(hp:p∈aJp hs n h):p∈hs\/p=(n,h):=by
 unfold aJp at hp;split at hp
 ·obtain⟨q,h1,h2⟩:=List.mem_map.mp hp
  by_cases e:q.1=n
  ·rw[if_pos e] at h2;rw[<-e];exact .inr h2.symm
  ·rw[if_neg e] at h2;subst h2;exact .inl h1
 ·rcases List.mem_append.mp hp with z | z
  ·exact .inl z
  ·exact .inr (List.mem_singleton.mp z)
theorem aPq {hs:Hs}{n:Str}{h:List Str}(o:HOK hs)(hl:hs.length<20)(hn:Sh n)(hz:h.length<=20)(hc: ∀c∈h,Sh c):HOK (aJp hs n h)/\(aJp hs n h).length<=hs.length+1:=by
 have hlen:(aJp hs n h).length<=hs.length+1:=by
  have:=congrArg J1 (aKe hs n h);rw[Qi] at this;rw[this];split
  ·rw[Qi];omega
  ·rw[Ql,Qi,Zs];omega
 refine⟨⟨by omega,?_,fun p hp=> ?_,fun p hp=> ?_,fun p hp=> ?_⟩,hlen⟩
 ·rw[aKe]
  split
  ·exact o.nd
  ·rename_i hne
   rw[List.nodup_append];exact⟨o.nd,by simp,fun a ha b hb=>by rw[List.mem_singleton.mp hb];rintro rfl;exact hne ha⟩
 ·rcases aUw hp with z | rfl
  ·exact o.nm p z
  ·exact hn
 ·rcases aUw hp with z | rfl
  ·exact o.sz p z
  ·exact hz
 ·rcases aUw hp with z | rfl
  ·exact o.cl p z
  ·exact hc
def aVw (t:Adr):List D->M D:=aH1 3 fun ds=>aA0 (aF9 t (aBu aIt ds))
theorem aSr {hs:Hs}{fk f:Rho->M D}{ρ:Rho}{i:Nat}{n:Str}{h:List Str}(hi:ρ[i]? =some (some (.ow (.k (hK hs)))))(h1:fk ρ=ok (.str n))(h2:f ρ=ok (tS h))(hl:hs.length<=20):aKc i fk f ρ=some (.nx (ρ.set i (some (.ow (.k (hK (aJp hs n h))))))):=by
 unfold aKc;rw[hi]
 dsimp only
 rw[h2,aDq,h1,aDq];show (if (tS h).imm=true/\(hK hs).length<100000 then some (Out.nx (ρ.set i (some (.ow (.k (bDd (hK hs) (.inr n) (tS h))))))) else none)=_;rw[if_pos ⟨aHr h,by unfold hK;rw[Qi];omega⟩,bPt]
theorem aRz {hs:Hs}{f:Rho->M D}{ρ:Rho}{i:Nat}(h:f ρ=ok (hD hs)):aH8 i f ρ=some (.nx (ρ.set i (some (.ow (.k (hK hs)))))):=by
 unfold aH8;rw[h,aDq];show (if bJ6 (hK hs)=true then _ else none)=_;rw[if_pos (bHf hs)]
theorem bH0 (t:Adr){hs:Hs}{n:Str}{h:List Str}(hl:hs.length<=20):aVw t [hD hs,.str n,tS h]=ok (hD (aJp hs n h)):=by
 refine aA9 rfl ?_;have e0:aBu aIt [hD hs,.str n,tS h]=[some (.sh (hD hs)),some (.sh (.str n)),some (.sh (tS h)),none]:=rfl;rw[e0];unfold aF9;rw[aAj (aRz (hs:=hs) rfl)];show aA0 (aAk (aKc 3 (look 1) (look 2)) (aAk (aBw (look 3)) aAr) [some (.sh (hD hs)),some (.sh (.str n)),some (.sh (tS h)),some (.ow (.k (hK hs)))])=_;rw[aAj (aSr (hs:=hs) rfl rfl rfl hl)];rfl
theorem aE9 {f:Rho->M D}{G:Rho->Option Out}{ρ:Rho}:aA0 (aAk (aBw f) G ρ)=f ρ:=by
 unfold aAk aBw lft;cases f ρ with
 | none=>rfl
 | some z=>cases z<;>rfl
theorem aCn {c:Rho->M Bool}{f:Rho->M D}{G K:Rho->Option Out}{ρ:Rho}(h:c ρ=ok true):aA0 (aAk (sIf c (aAk (aBw f) aAr) K) G ρ)=f ρ:=by
 have e:aAk (sIf c (aAk (aBw f) aAr) K) G ρ=aAk (aBw f) (fun ρ'=>aAk aAr G ρ') ρ:=by
  unfold aAk;rw[aDo h];unfold aBw lft;cases f ρ with
  | none=>rfl
  | some z=>cases z<;>rfl
 rw[e,aE9]
theorem aBh {c:Rho->M Bool}{F G:Rho->Option Out}{ρ:Rho}(h:c ρ=ok false):aAk (sIf c F aAr) G ρ=G ρ:=aAj ((aJo h).trans rfl)
theorem wd2 {f:Rho->M D}{ρ:Rho}{x y:Str}{b:Bool}(h:f ρ=ok (.str x))(e:decide (x=y)=b):aAm (b2 gEq f (con (.str y))) ρ=ok b:=(wd h).trans (by rw[e])
def bB7 (t:Adr):List D->M D:=aH1 1 fun ds=>aA0 (aGa t (aBu aIu ds))
theorem bEv (t:Adr){w:Str}{rest:List D}{n:Nat}(h:aB0.lookup w=some (n:Int))(hn:n<=rest.length+1):bB7 t [.tup (.str w::rest)]=ok (.lst ((D.str w::rest).drop n)):=by
 refine aA9 rfl ?_;have e0:aBu aIu [.tup (.str w::rest)]=[some (.sh (.tup (.str w::rest)))]:=rfl;rw[e0];unfold aGa;rw[aE9];have e1:b2 gIx (look 0) (con (.int 0)) [some (.sh (.tup (.str w::rest)))]=ok (.str w):=aAs rfl rfl (aAw (j:=0) rfl);have e2:f1 (aYr aB0) (b2 gIx (look 0) (con (.int 0))) [some (.sh (.tup (.str w::rest)))]=ok (.int (n:Int)):=aRr e1 (by unfold aYr;dsimp only;rw[h]);have e3:aMt (look 0) (aFe (f1 (aYr aB0) (b2 gIx (look 0) (con (.int 0))))) aFq [some (.sh (.tup (.str w::rest)))]=ok (.tup ((D.str w::rest).drop n)):=by
  unfold aMt aFe;rw[e2];show bQk (.tup (.str w::rest)) (some (n:Int)) none=_;show ok (D.tup (L2.PU.cutD (.str w::rest) (some (n:Int)) none))=_;rw[aMs _ (by simpa using hn)]
 exact aRr e3 rfl
def fPB (t:Adr):List D->M D:=aH1 1 fun ds=>aA0 (aBv t (bB7 t) (aBu aB5 ds))
theorem aX9 (t:Adr){w:Str}{rest:List D}{n:Nat}(hw:decide (w="ring")=false)(h:aB0.lookup w=some (n:Int))(hn:n<=rest.length+1):fPB t [.tup (.str w::rest)]=ok (.lst ((D.str w::rest).drop n)):=by
 refine aA9 rfl ?_;have e0:aBu aB5 [.tup (.str w::rest)]=[some (.sh (.tup (.str w::rest)))]:=rfl;rw[e0];unfold aBv;rw[aE9];unfold ifV;rw[wd2 (aAs rfl rfl (aAw (j:=0) rfl)) hw];show app (bB7 t) (aAb (look 0) aAn) [some (.sh (.tup (.str w::rest)))]=_;exact (aBk (ds:=[.tup (.str w::rest)]) rfl).trans (bEv t h hn)
theorem bI7 (t:Adr){rest:List D}:fPB t [.tup (.str "ring"::rest)]=ok (.lst []):=by
 refine aA9 rfl ?_;have e0:aBu aB5 [.tup (.str "ring"::rest)]=[some (.sh (.tup (.str "ring"::rest)))]:=rfl;rw[e0];unfold aBv;rw[aE9];unfold ifV;rw[wd2 (b:=true) (aAs rfl rfl (aAw (j:=0) rfl)) (by decide+kernel)];rfl
def bwF (t:Adr)(R:List D->M D):List D->M D:=aLq 3 fun ds=>aA0 (aDy t (aVx t) (aP3 t 5) (bB8 t) (bKi t) R (bKf t) (aFt t) (aBu aE1 ds))
def bH4 (t:Adr)(R:List D->M D):List D->M D:=aLq 3 fun ds=>aA0 (aDx t (bwF t R) (aBu aE0 ds))
def Ph (t:Adr)(R:List D->M D):D->List D->M D:=phi t.aBo (fPB t) aAu (bH4 t R)
def bOt (t:Adr)(R:List D->M D):List D->M D:=aLq 2 fun ds=>aA0 (aCt t (ttF t (Ph t R)) (aBu aDk ds))
def aF0 (t:Adr)(R:List D->M D):List D->M D:=aLq 2 fun ds=>aA0 (aJy t (bOt t R) (aBu aKq ds))
def aOf (t:Adr)(R:List D->M D):List D->M D:=aLq 2 fun ds=>aA0 (aFg t (aF0 t R) (aFt t) (aVw t) (aBu aHe ds))
section
variable {t:Adr}{R:List D->M D}{q p p2 bl hd:D}
theorem aY2 {ds:List D}:Ph t R (.fn t.aBo) ds=fPB t ds:=by
 unfold Ph phi
 dsimp only
 rw[if_pos rfl]
theorem bH3:bH4 t R [p,bl,hd]=bwF t R [p,bl,hd]:=by
 refine aD6 rfl ?_;have e0:aBu aE0 [p,bl,hd]=[some (.sh p),some (.sh bl),some (.sh hd)]:=rfl;rw[e0];unfold aDx;rw[aE9];exact aBk rfl
theorem aP9 {rs:List D}(h1:hd.nc=true)(h2:p.imm=true)(h3:aCo rs=true):Ph t R (.clo aAu hd) [p,.lst rs]=bwF t R [p,.lst rs,hd]:=by
 unfold Ph phi
 dsimp only
 have hb:ncL [p,.lst rs]=true:=by
  unfold ncL;rw[bA4 h2];show (true&&(ncL rs&&true))=true;rw[aVa h3];rfl
 rw[if_pos ⟨rfl,h1,hb⟩];exact bH3
theorem bFj (hs:Hs):(hD hs).nc=true:=by
 show ((hK hs).all fun p=>p.2.imm)=true;unfold hK;rw[List.all_map];exact List.all_eq_true.mpr fun p _=>aHr p.2
theorem aK6 {m:M D}(h:ttF t (Ph t R) [q,.fn t.aBo,.clo aAu hd]=m)(hm:aWb m):aF0 t R [q,hd]=m:=by
 refine aD6 rfl ?_;have e0:aBu aKq [q,hd]=[some (.sh q),some (.sh hd),none]:=rfl;rw[e0];have e1:bOt t R [q,.clo aAu hd]=m:=by
  refine aD6 rfl ?_;have e0:aBu aDk [q,.clo aAu hd]=[some (.sh q),some (.sh (.clo aAu hd))]:=rfl;rw[e0];unfold aCt;rw[aE9];exact (aBk rfl).trans h
 show aA0 (lft (bOt t R [q,.clo aAu hd]) [some (.sh q),some (.sh hd),none] fun r=>if r.imm=true then some (.rt r) else none)=m;rw[e1];rcases hm with⟨r,rfl,hi⟩ |⟨c,rfl⟩
 ·rw[aDq,if_pos hi];rfl
 ·rfl
theorem bN2 (hq:q.imm=true)(hn:hd.nc=true)(hp:fPB t [q]=ok (.lst []))(h:aWb (bwF t R [q,.lst [],hd])):aF0 t R [q,hd]=bwF t R [q,.lst [],hd]:=by
 have e:=aP9 (t:=t) (R:=R) (p:=q) (rs:=[]) hn hq rfl;exact aK6 ((tt0 t rfl hq (lay0 t hq (aY2.trans hp)) (by rw[e];exact h)).trans e) h
theorem bQg (hq:q.imm=true)(hi:p.imm=true)(hn:hd.nc=true)(hp:fPB t [q]=ok (.lst [p]))(hp1:fPB t [p]=ok (.lst []))(h1:aWb (bwF t R [p,.lst [],hd]))(h2: ∀r,bwF t R [p,.lst [],hd]=ok r->r.imm=true/\aWb (bwF t R [q,.lst [r],hd])):
  aF0 t R [q,hd]=bnd (bwF t R [p,.lst [],hd]) fun r=>bwF t R [q,.lst [r],hd]:=by
 have e:=aP9 (t:=t) (R:=R) (p:=p) (rs:=[]) hn hi rfl;have e2: ∀r,bwF t R [p,.lst [],hd]=ok r->Ph t R (.clo aAu hd) [q,.lst [r]]=bwF t R [q,.lst [r],hd]:=fun r hr=>aP9 hn hq (by rw[aCo,(h2 r hr).1];rfl)
 have key:=tt1 t (Φ:=Ph t R) (tl:= .clo aAu hd) rfl hq hi (bSr t hq hi (aY2.trans hp) (aY2.trans hp1)) (by rw[e];exact h1) (fun r hr=>by rw[e] at hr;rw[e2 r hr];exact (h2 r hr).2);rw[e] at key;have e3:(bnd (bwF t R [p,.lst [],hd]) fun r=>Ph t R (.clo aAu hd) [q,.lst [r]])=bnd (bwF t R [p,.lst [],hd]) fun r=>bwF t R [q,.lst [r],hd]:=by
  rcases h1 with⟨r,hr,_⟩ |⟨c,hc⟩
  ·rw[hr,aBj,aBj,e2 r hr]
  ·rw[hc];rfl
 refine aK6 (key.trans e3) ?_;rcases h1 with⟨r,hr,_⟩ |⟨c,hc⟩
 ·rw[hr,aBj];exact (h2 r hr).2
 ·rw[hc];exact .inr ⟨c,rfl⟩
theorem bQf (hq:q.imm=true)(hi:p.imm=true)(hi2:p2.imm=true)(hn:hd.nc=true)(hp:fPB t [q]=ok (.lst [p,p2]))(hp1:fPB t [p]=ok (.lst []))(hp2:fPB t [p2]=ok (.lst []))(h1:aWb (bwF t R [p,.lst [],hd]))(h1':aWb (bwF t R [p2,.lst [],hd]))
  (h2: ∀r r2,bwF t R [p,.lst [],hd]=ok r->bwF t R [p2,.lst [],hd]=ok r2->aWb (bwF t R [q,.lst [r,r2],hd])):
  aF0 t R [q,hd]=bnd (bwF t R [p,.lst [],hd]) fun r=>bnd (bwF t R [p2,.lst [],hd]) fun r2=>bwF t R [q,.lst [r,r2],hd]:=by
 have im: ∀{m:M D} {r:D},aWb m->m=ok r->r.imm=true:=fun {m r} h e=>by
  rcases h with⟨r',h',hi⟩ |⟨c,hc⟩
  ·rw[e] at h';cases h';exact hi
  ·rw[e] at hc;cases hc
 have e:=aP9 (t:=t) (R:=R) (p:=p) (rs:=[]) hn hi rfl;have e':=aP9 (t:=t) (R:=R) (p:=p2) (rs:=[]) hn hi2 rfl;have e2: ∀r r2,bwF t R [p,.lst [],hd]=ok r->bwF t R [p2,.lst [],hd]=ok r2->Ph t R (.clo aAu hd) [q,.lst [r,r2]]=bwF t R [q,.lst [r,r2],hd]:=fun r r2 hr hr2=>aP9 hn hq (by rw[aCo,aCo,im h1 hr,im h1' hr2];rfl)
 have key:=tt2 t (Φ:=Ph t R) (tl:= .clo aAu hd) rfl hq hi hi2 (bSq t hq hi hi2 (aY2.trans hp) (aY2.trans hp1) (aY2.trans hp2)) (by rw[e];exact h1) (by rw[e'];exact h1') (fun r r2 hr hr2=>by rw[e] at hr;rw[e'] at hr2;rw[e2 r r2 hr hr2];exact h2 r r2 hr hr2);rw[e,e'] at key;have e3:(bnd (bwF t R [p,.lst [],hd]) fun r=>bnd (bwF t R [p2,.lst [],hd]) fun r2=>Ph t R (.clo aAu hd) [q,.lst [r,r2]])=bnd (bwF t R [p,.lst [],hd]) fun r=>bnd (bwF t R [p2,.lst [],hd]) fun r2=>bwF t R [q,.lst [r,r2],hd]:=by
  rcases h1 with⟨r,hr,_⟩ |⟨c,hc⟩
  ·rw[hr,aBj,aBj]
   rcases h1' with⟨r2,hr2,_⟩ |⟨c,hc⟩
   ·rw[hr2,aBj,aBj,e2 r r2 hr hr2]
   ·rw[hc];rfl
  ·rw[hc];rfl
 refine aK6 (key.trans e3) ?_;rcases h1 with⟨r,hr,_⟩ |⟨c,hc⟩
 ·rw[hr,aBj]
  rcases h1' with⟨r2,hr2,_⟩ |⟨c,hc⟩
  ·rw[hr2,aBj];exact h2 r r2 hr hr2
  ·rw[hc];exact .inr ⟨c,rfl⟩
 ·rw[hc];exact .inr ⟨c,rfl⟩
end
inductive Cz where
 | T | C | F | W
 deriving DecidableEq
def Cz.adr (t:Adr):Cz->Addr
 | .T=>t.aA1
 | .C=>t.aAl
 | .F=>t.aBp
 | .W=>t.aBr
def Cz.nm:Cz->Str
 | .T=>"NoTable"
 | .C=>"NoColumn"
 | .F=>"NoFit"
 | .W=>"Twice"
inductive Qn where
 | tb (n:Str) | pk (T:Tst) (n:Str) | kp (cs:List Str) (n:Str) | cl (x y n:Str) | jn (a b:Str) | pu (a b:Str) | rg (m:Str) (k:Int) (a b:Str)
abbrev tbD (n:Str):D:= .tup [.str "table",.str n]
def Qn.d:Qn->D
 | .tb n=>tbD n
 | .pk T n=> .tup [.str "pick",T.d,tbD n]
 | .kp cs n=> .tup [.str "keep",tS cs,tbD n]
 | .cl x y n=> .tup [.str "call",.str x,.str y,tbD n]
 | .jn a b=> .tup [.str "join",tbD a,tbD b]
 | .pu a b=> .tup [.str "put",tbD a,tbD b]
 | .rg m k a b=> .tup [.str "ring",.str m,.int k,tbD a,tbD b]
structure Tok (T:Tst):Prop where
 wf:T.wf
 ht:T.ht<5
 ln:T.cols.length<64
 sh: ∀x∈T.cols,Sh x
def Qn.wf:Qn->Prop
 | .tb n=>Sh n
 | .pk T n=>Tok T/\Sh n
 | .kp cs n=>(cs.length<=30/\∀c∈cs,Sh c)/\Sh n
 | .cl x y n=>Sh x/\Sh y/\Sh n
 | .jn a b=>Sh a/\Sh b
 | .pu a b=>Sh a/\Sh b
 | .rg m _ a b=>Sh m/\Sh a/\Sh b
theorem Qn.imm: ∀{q:Qn},q.wf->q.d.imm=true
 | .tb n,_=>rfl
 | .pk T n,h=>by show (true&&(T.d.imm&&(true&&true)))=true;rw[Tst.imm h.1.wf];rfl
 | .kp cs n,_=>by show (true&&((tS cs).imm&&(true&&true)))=true;rw[aHr];rfl
 | .cl _ _ _,_=>rfl
 | .jn _ _,_=>rfl
 | .pu _ _,_=>rfl
 | .rg _ _ _ _,_=>rfl
abbrev Rs:=Except Cz (List Str)
def bE (m:Rs)(k:List Str->Rs):Rs:=match m with
 | .ok h=>k h
 | .error c=> .error c
def lk (hs:Hs)(n:Str):Rs:=match hs.lookup n with
 | some h=> .ok h
 | none=> .error .T
def aMc (h o:List Str):Bool:=decide ((aDz h).length=(aDz o).length)&&(aDz h).all fun k=>(aDz o).contains k
def keepR (h cs:List Str):Rs:=if (aDz cs).length=cs.length/\cs.all (fun x=>h.contains x)=true then .ok cs else .error .C
def aSt (h:List Str)(cs:List Str):Rs:=if cs.all (fun x=>h.contains x)=true then .ok h else .error .C
def aT0 (h:List Str)(x y:Str):Rs:=if h.contains x=true/\¬(h.contains y=true/\y≠x) then .ok (h.map fun c=>if c=x then y else c) else .error .C
def aZa (h o:List Str):Rs:=if aMc h o=true then .ok h else .error .F
def aX2 (hs:Hs)(m a b:Str):Rs:=if (hs.lookup m).isSome=true then .error .W else bE (lk hs a) fun h=>bE (lk (aJp hs m h) b) fun o=>aZa h o
def res (hs:Hs):Qn->Rs
 | .tb n=>lk hs n
 | .pk T n=>bE (lk hs n) fun h=>aSt h T.cols
 | .kp cs n=>bE (lk hs n) fun h=>keepR h cs
 | .cl x y n=>bE (lk hs n) fun h=>aT0 h x y
 | .jn a b=>bE (lk hs a) fun h=>bE (lk hs b) fun o=> .ok (h++o.filter fun c=> !h.contains c)
 | .pu a b=>bE (lk hs a) fun h=>bE (lk hs b) fun o=>aZa h o
 | .rg m _ a b=>aX2 hs m a b
def toM (t:Adr):Rs->M D
 | .ok h=>ok (tS h)
 | .error c=>err (c.adr t)
theorem aG1 (t:Adr)(m:Rs):aWb (toM t m):=by
 cases m with
 | ok h=>exact .inl ⟨_,rfl,aHr h⟩
 | error c=>exact .inr ⟨_,rfl⟩
theorem bJr (t:Adr)(hs:Hs)(n:Str):bFi t hs n=toM t (lk hs n):=by
 unfold bFi lk;cases hs.lookup n<;>rfl
section
variable {t:Adr}{R:List D->M D}{hd:D}{hs:Hs}
abbrev RW (q bl hd:D)(w:Str):Rho:=[some (.sh q),some (.sh bl),some (.sh hd),some (.sh (.str w))]
theorem aV3 {w:Str}{rest:List D}{bl:D}{m:M D}(h:aA0 ((aAk (sIf (aAm (b2 gEq (look 3) (con (.str "table")))) (aAk (aBw (app (bKf t) (aAb (b2 gIx (look 0) (con (.int 1))) (aAb (look 2) aAn))))
  aAr) aAr)
  (aAk (sIf (aAm (b2 gEq (look 3) (con (.str "ring")))) (aAk (aBw (app R (aAb (look 0) (aAb (look 2) aAn))))
  aAr) aAr)
  (aAk (sIf (aAm (b2 gEq (look 3) (con (.str "pick")))) (aAk (aM5 (app (aP3 t 5) (aAb (b2 gIx (look 0) (con (.int 1))) (aAb (b2 gIx (look 1) (con (.int 0))) aAn))))
  (aAk (aBw (b2 gIx (look 1) (con (.int 0))))
  aAr)) aAr)
  (aAk (sIf (aAm (b2 gEq (look 3) (con (.str "keep")))) (aAk (aBw (app (bKi t) (aAb (b2 gIx (look 1) (con (.int 0))) (aAb (b2 gIx (look 0) (con (.int 1))) aAn))))
  aAr) aAr)
  (aAk (sIf (aAm (b2 gEq (look 3) (con (.str "call")))) (aAk (aBw (app (aVx t) (aAb (b2 gIx (look 1) (con (.int 0))) (aAb (b2 gIx (look 0) (con (.int 1))) (aAb (b2 gIx (look 0) (con (.int 2))) aAn)))))
  aAr) aAr)
  (aAk (sIf (aAm (b2 gEq (look 3) (con (.str "join")))) (aAk (aBw (app (bB8 t) (aAb (b2 gIx (look 1) (con (.int 0))) (aAb (b2 gIx (look 1) (con (.int 1))) aAn))))
  aAr) aAr)
  (aAk (aBw (app (aFt t) (aAb (b2 gIx (look 1) (con (.int 0))) (aAb (b2 gIx (look 1) (con (.int 1))) aAn))))
  aAr))))))) (RW (.tup (.str w::rest)) bl hd w))=m):bwF t R [.tup (.str w::rest),bl,hd]=m:=by
 refine aD6 rfl ?_;have e0:aBu aE1 [.tup (.str w::rest),bl,hd]=[some (.sh (.tup (.str w::rest))),some (.sh bl),some (.sh hd),none]:=rfl;rw[e0];unfold aDy;rw[aAj (aAz (d:= .str w) (aAs rfl rfl (aAw (j:=0) rfl)) rfl)];exact h
theorem wq {q bl hd:D}{w y:Str}{b:Bool}(e:decide (w=y)=b):aAm (b2 gEq (look 3) (con (.str y))) (RW q bl hd w)=ok b:=wd2 rfl e
theorem bCv {n:Str}(hn:Sh n){bl:D}:bwF t R [tbD n,bl,hD hs]=toM t (lk hs n):=by
 refine aV3 ?_;rw[aCn (wq (by decide+kernel)),<-bJr];exact (aBk (aAf (aAs rfl rfl (aAw (j:=1) rfl)) rfl)).trans (bH5 t hn)
theorem bQp {rest:List D}{bl:D}:bwF t R [.tup (.str "ring"::rest),bl,hd]=R [.tup (.str "ring"::rest),hd]:=by
 refine aV3 ?_;rw[aBh (wq (by decide+kernel)),aCn (wq (by decide+kernel))];exact aBk rfl
theorem bQr {T:Tst}{h:List Str}{x:D}(o:Tok T):bwF t R [.tup [.str "pick",T.d,x],.lst [tS h],hd]=toM t (aSt h T.cols):=by
 refine aV3 ?_;rw[aBh (wq (by decide+kernel)),aBh (wq (by decide+kernel))];have e1:app (aP3 t 5) (aAb (b2 gIx (look 0) (con (.int 1))) (aAb (b2 gIx (look 1) (con (.int 0))) aAn)) (RW (.tup [.str "pick",T.d,x]) (.lst [tS h]) hd "pick")=if T.cols.all (fun x=>h.contains x)=true then ok .non else err t.aAl:=
  (aBk (aAf (aAs rfl rfl (aAw (j:=1) rfl)) (aAf (aAs rfl rfl (aHq (j:=0) rfl)) rfl))).trans (bF6 t o.wf o.ht o.ln o.sh)
 have c1:aAm (b2 gEq (look 3) (con (.str "pick"))) (RW (.tup [.str "pick",T.d,x]) (.lst [tS h]) hd "pick")=ok true:=wq (by decide+kernel);unfold aSt;by_cases hc:T.cols.all (fun x=>h.contains x)=true
 ·rw[if_pos hc] at e1
  have e2:aM5 (app (aP3 t 5) (aAb (b2 gIx (look 0) (con (.int 1))) (aAb (b2 gIx (look 1) (con (.int 0))) aAn))) (RW (.tup [.str "pick",T.d,x]) (.lst [tS h]) hd "pick")=some (.nx (RW (.tup [.str "pick",T.d,x]) (.lst [tS h]) hd "pick")):=by unfold aM5;rw[e1];rfl
  rw[if_pos hc,aBl ((aDo c1).trans ((aAj e2).trans (aBl (aC0 (aAs rfl rfl (aHq (j:=0) rfl))))))];rfl
 ·rw[if_neg hc] at e1
  have e2:aM5 (app (aP3 t 5) (aAb (b2 gIx (look 0) (con (.int 1))) (aAb (b2 gIx (look 1) (con (.int 0))) aAn))) (RW (.tup [.str "pick",T.d,x]) (.lst [tS h]) hd "pick")=some (.ex t.aAl (RW (.tup [.str "pick",T.d,x]) (.lst [tS h]) hd "pick")):=by unfold aM5;rw[e1];rfl
  rw[if_neg hc,aC4 ((aDo c1).trans (aC4 e2))];rfl
theorem bQs {cs h:List Str}{x:D}(hz:cs.length<=30)(hs': ∀c∈cs,Sh c):bwF t R [.tup [.str "keep",tS cs,x],.lst [tS h],hd]=toM t (keepR h cs):=by
 refine aV3 ?_;rw[aBh (wq (by decide+kernel)),aBh (wq (by decide+kernel)),aBh (wq (by decide+kernel)),aCn (wq (by decide+kernel))];refine (aBk (aAf (aAs rfl rfl (aHq (j:=0) rfl)) (aAf (aAs rfl rfl (aAw (j:=1) rfl)) rfl))).trans ?_;refine (show bKi t [tS h,tS cs]=_ from aD6 rfl (bJ0 t (by omega) hs')).trans ?_;unfold keepR;split<;>rfl
theorem bQt {h o:List Str}{x y:D}(hz:h.length<=1000)(ho:o.length<=1000):bwF t R [.tup [.str "join",x,y],.lst [tS h,tS o],hd]=ok (tS (h++o.filter fun c=> !h.contains c)):=by
 refine aV3 ?_;rw[aBh (wq (by decide+kernel)),aBh (wq (by decide+kernel)),aBh (wq (by decide+kernel)),aBh (wq (by decide+kernel)),aBh (wq (by decide+kernel)),aCn (wq (by decide+kernel))];exact (aBk (aAf (aAs rfl rfl (aHq (j:=0) rfl)) (aAf (aAs rfl rfl (aHq (j:=1) rfl)) rfl))).trans (aA9 rfl (bBh t hz ho))
theorem bGn {h o:List Str}(hz:h.length<=1000)(ho:o.length<=1000):aFt t [tS h,tS o]=toM t (aZa h o):=by
 refine (show aFt t [tS h,tS o]=_ from aD6 rfl (aUl t hz ho)).trans ?_;unfold aZa aMc;split<;>rfl
theorem bQq {h o:List Str}{x y:D}(hz:h.length<=1000)(ho:o.length<=1000):bwF t R [.tup [.str "put",x,y],.lst [tS h,tS o],hd]=toM t (aZa h o):=by
 refine aV3 ?_;rw[aBh (wq (by decide+kernel)),aBh (wq (by decide+kernel)),aBh (wq (by decide+kernel)),aBh (wq (by decide+kernel)),aBh (wq (by decide+kernel)),aBh (wq (by decide+kernel)),aE9];exact (aBk (aAf (aAs rfl rfl (aHq (j:=0) rfl)) (aAf (aAs rfl rfl (aHq (j:=1) rfl)) rfl))).trans (bGn hz ho)
theorem bQu {h:List Str}{x y:Str}{z:D}(hz:h.length<=1000)(hx:Sh x)(hy:Sh y):bwF t R [.tup [.str "call",.str x,.str y,z],.lst [tS h],hd]=toM t (aT0 h x y):=by
 refine aV3 ?_;rw[aBh (wq (by decide+kernel)),aBh (wq (by decide+kernel)),aBh (wq (by decide+kernel)),aBh (wq (by decide+kernel)),aCn (wq (by decide+kernel))];refine (aBk (aAf (aAs rfl rfl (aHq (j:=0) rfl)) (aAf (aAs rfl rfl (aAw (j:=1) rfl)) (aAf (aAs rfl rfl (aAw (j:=2) rfl)) rfl)))).trans ?_;refine (show aVx t [tS h,.str x,.str y]=_ from aD6 rfl (bCp t hz hx hy)).trans ?_;unfold aT0;split<;>rfl
end
section
variable {t:Adr}{R:List D->M D}{hs:Hs}
theorem bEu {n:Str}:fPB t [tbD n]=ok (.lst []):=aX9 t (n:=2) (by decide+kernel) (by decide+kernel) (by simp)
theorem aMk (o:HOK hs){n:Str}{h:List Str}(e:lk hs n= .ok h):h.length<=20/\∀c∈h,Sh c:=by
 unfold lk at e;split at e
 ·rename_i h' hl
  cases e;exact⟨o.sz _ (lookup_mem hl),o.cl _ (lookup_mem hl)⟩
 ·cases e
theorem aVn {n:Str}(hn:Sh n):aF0 t R [tbD n,hD hs]=toM t (lk hs n):=
 (bN2 rfl (bFj hs) bEu (by rw[bCv hn];exact aG1 t _)).trans (bCv hn)
theorem aZn {m:Rs}{r:D}(h:toM t m=ok r): ∃x,m= .ok x/\r=tS x:=by
 cases m with
 | ok x=>cases h;exact⟨x,rfl,rfl⟩
 | error c=>cases h
theorem aRk {q:D}{n:Str}{k:List Str->Rs}(hq:q.imm=true)(hn:Sh n)(hp:fPB t [q]=ok (.lst [tbD n]))(hk: ∀h,lk hs n= .ok h->bwF t R [q,.lst [tS h],hD hs]=toM t (k h)):aF0 t R [q,hD hs]=toM t (bE (lk hs n) k):=by
 have b0:bwF t R [tbD n,.lst [],hD hs]=toM t (lk hs n):=bCv hn;rw[bQg hq rfl (bFj hs) hp bEu (by rw[b0];exact aG1 t _) (fun r hr=>by
  rw[b0] at hr;obtain⟨x,hx,rfl⟩:=aZn hr;exact⟨aHr x,by rw[hk x hx];exact aG1 t _⟩),b0]
 cases e:lk hs n with
 | ok h=>exact hk h e
 | error c=>rfl
theorem aXb {q:D}{a b:Str}{k:List Str->List Str->Rs}(hq:q.imm=true)(ha:Sh a)(hb:Sh b)(hp:fPB t [q]=ok (.lst [tbD a,tbD b]))(hk: ∀h o,lk hs a= .ok h->lk hs b= .ok o->bwF t R [q,.lst [tS h,tS o],hD hs]=toM t (k h o)):
  aF0 t R [q,hD hs]=toM t (bE (lk hs a) fun h=>bE (lk hs b) fun o=>k h o):=by
 have b0:bwF t R [tbD a,.lst [],hD hs]=toM t (lk hs a):=bCv ha;have b1:bwF t R [tbD b,.lst [],hD hs]=toM t (lk hs b):=bCv hb;rw[bQf hq rfl rfl (bFj hs) hp bEu bEu (by rw[b0];exact aG1 t _) (by rw[b1];exact aG1 t _) (fun r r2 hr hr2=>by
  rw[b0] at hr;rw[b1] at hr2;obtain⟨x,hx,rfl⟩:=aZn hr;obtain⟨y,hy,rfl⟩:=aZn hr2;rw[hk x y hx hy];exact aG1 t _),b0,b1]
 cases e:lk hs a with
 | ok h=>
  cases e2:lk hs b with
  | ok o=>exact hk h o e e2
  | error c=>rfl
 | error c=>rfl
theorem bIh (ho:HOK hs)(hl:hs.length<20){m a b:Str}{k:Int}(hm:Sh m)(ha:Sh a)(hb:Sh b):aOf t R [(Qn.rg m k a b).d,hD hs]=toM t (aX2 hs m a b):=by
 refine aD6 rfl ?_;have e0:aBu aHe [(Qn.rg m k a b).d,hD hs]=[some (.sh (Qn.rg m k a b).d),some (.sh (hD hs)),none,none]:=rfl;rw[e0];unfold aFg aX2;have s1:aB6 2 (b2 gIx (look 0) (con (.int 1))) [some (.sh (Qn.rg m k a b).d),some (.sh (hD hs)),none,none]=some (.nx [some (.sh (Qn.rg m k a b).d),some (.sh (hD hs)),some (.sh (.str m)),none]):=aAz (d:= .str m) (aAs rfl rfl (aAw (j:=1) rfl)) rfl;rw[aAj s1];have c1:aAm (b2 (aVt false) (look 2) (look 1)) [some (.sh (Qn.rg m k a b).d),some (.sh (hD hs)),some (.sh (.str m)),none]=ok (hs.lookup m).isSome:=aA4 (aAs rfl rfl (bFz false m hs));cases e:hs.lookup m with
 | some h=>
  rw[e] at c1;obtain⟨z,hz⟩:=bOx (c:="there is a table or a ring ") (c':=" already") (x:=m) (f:=look 2) (ρ:=[some (.sh (Qn.rg m k a b).d),some (.sh (hD hs)),some (.sh (.str m)),none]) (by decide+kernel) (by decide+kernel) hm rfl;rw[aC4 ((aDo c1).trans (aE3 hz))];rfl
 | none=>
  rw[e] at c1;rw[aBh c1];have h1:app (aF0 t R) (aAb (b2 gIx (look 0) (con (.int 3))) (aAb (look 1) aAn)) [some (.sh (Qn.rg m k a b).d),some (.sh (hD hs)),some (.sh (.str m)),none]=toM t (lk hs a):=(aBk (aAf (aAs rfl rfl (aAw (j:=3) rfl)) rfl)).trans (aVn ha);cases e1:lk hs a with
  | error c=>
   rw[e1] at h1;have s2:aB6 3 (app (aF0 t R) (aAb (b2 gIx (look 0) (con (.int 3))) (aAb (look 1) aAn))) [some (.sh (Qn.rg m k a b).d),some (.sh (hD hs)),some (.sh (.str m)),none]=some (.ex (c.adr t) [some (.sh (Qn.rg m k a b).d),some (.sh (hD hs)),some (.sh (.str m)),none]):=by
    unfold aB6;rw[h1];rfl
   rw[aC4 s2];rfl
  | ok h=>
   rw[e1] at h1;obtain⟨hz,hc⟩:=aMk ho e1;rw[aAj (aAz h1 (aHr h))];show aA0 (aAk (aBw (app (aFt t) (aAb (look 3) (aAb (app (aF0 t R) (aAb (b2 gIx (look 0) (con (.int 4))) (aAb (app (aVw t) (aAb (look 1) (aAb (look 2) (aAb (look 3) aAn)))) aAn))) aAn)))) aAr [some (.sh (Qn.rg m k a b).d),some (.sh (hD hs)),some (.sh (.str m)),some (.sh (tS h))])=_;rw[aE9];have w1:app (aVw t) (aAb (look 1) (aAb (look 2) (aAb (look 3) aAn))) [some (.sh (Qn.rg m k a b).d),some (.sh (hD hs)),some (.sh (.str m)),some (.sh (tS h))]=ok (hD (aJp hs m h)):=(aBk rfl).trans (bH0 t ho.len);have w2:app (aF0 t R) (aAb (b2 gIx (look 0) (con (.int 4))) (aAb (app (aVw t) (aAb (look 1) (aAb (look 2) (aAb (look 3) aAn)))) aAn)) [some (.sh (Qn.rg m k a b).d),some (.sh (hD hs)),some (.sh (.str m)),some (.sh (tS h))]=toM t (lk (aJp hs m h) b):=(aBk (aAf (aAs rfl rfl (aAw (j:=4) rfl)) (aAf w1 rfl))).trans (aVn hb);have ho2:=(aPq (n:=m) (h:=h) ho hl hm hz hc).1;show _=toM t (bE (lk (aJp hs m h) b) fun o=>aZa h o);cases e2:lk (aJp hs m h) b with
   | error c=>
    rw[e2] at w2;have w3:aAb (look 3) (aAb (app (aF0 t R) (aAb (b2 gIx (look 0) (con (.int 4))) (aAb (app (aVw t) (aAb (look 1) (aAb (look 2) (aAb (look 3) aAn)))) aAn))) aAn) [some (.sh (Qn.rg m k a b).d),some (.sh (hD hs)),some (.sh (.str m)),some (.sh (tS h))]=err (c.adr t):=by
     show bnd (ok (tS h)) (fun x=>bnd (bnd (app (aF0 t R) (aAb (b2 gIx (look 0) (con (.int 4))) (aAb (app (aVw t) (aAb (look 1) (aAb (look 2) (aAb (look 3) aAn)))) aAn)) _) fun y=>bnd (aAn _) fun xs=>ok (y::xs)) fun xs=>ok (x::xs))=_;rw[aBj,w2];rfl
    unfold app at w3⊢;rw[w3];rfl
   | ok o=>
    rw[e2] at w2;exact (aBk (aAf rfl (aAf w2 rfl))).trans (bGn (by omega) (by have:=(aMk ho2 e2).1;omega))
def noF:List D->M D:=fun _=>none
theorem bFh (ho:HOK hs)(hl:hs.length<20){q:Qn}(hq:q.wf):aF0 t (aOf t noF) [q.d,hD hs]=toM t (res hs q):=by
 cases q with
 | tb n=>exact aVn hq
 | pk T n=>exact aRk (Qn.imm hq) hq.2 (aX9 t (n:=2) (by decide+kernel) (by decide+kernel) (by simp)) fun h _=>bQr hq.1
 | kp cs n=>exact aRk (Qn.imm hq) hq.2 (aX9 t (n:=2) (by decide+kernel) (by decide+kernel) (by simp)) fun h _=>bQs hq.1.1 hq.1.2
 | cl x y n=>exact aRk (Qn.imm hq) hq.2.2 (aX9 t (n:=3) (by decide+kernel) (by decide+kernel) (by simp)) fun h e=>bQu (by have:=(aMk ho e).1;omega) hq.1 hq.2.1
 | jn a b=>exact aXb (Qn.imm hq) hq.1 hq.2 (aX9 t (n:=1) (by decide+kernel) (by decide+kernel) (by simp)) fun h o e e'=>bQt (by have:=(aMk ho e).1;omega) (by have:=(aMk ho e').1;omega)
 | pu a b=>exact aXb (Qn.imm hq) hq.1 hq.2 (aX9 t (n:=1) (by decide+kernel) (by decide+kernel) (by simp)) fun h o e e'=>bQq (by have:=(aMk ho e).1;omega) (by have:=(aMk ho e').1;omega)
 | rg m k a b=>
  have e:bwF t (aOf t noF) [(Qn.rg m k a b).d,.lst [],hD hs]=toM t (aX2 hs m a b):=bQp.trans (bIh ho hl hq.1 hq.2.1 hq.2.2);exact (bN2 (Qn.imm hq) (bFj hs) (bI7 t) (by rw[e];exact aG1 t _)).trans e
end
theorem sub_len: ∀(a b:List Str),a.Nodup->(∀x∈a,x∈b)->a.length<=b.length
 | [],_,_,_=>Ye _
 | x::a,b,hn,hs=>by
  rw[J9] at hn;have hx:=hs x Qq;have h1:=sub_len a (b.erase x) hn.2 (fun y hy=>(Ja (fun (e:y=x)=>hn.1 (e▸hy))).mpr (hs y (Qm _ hy)));rw[Yv hx] at h1;have:0<b.length:=Jh hx;rw[Zc];omega
theorem aZo {a b:List Str}(hn:a.Nodup)(hs: ∀x∈a,x∈b)(hl:b.length<=a.length): ∀y∈b,y∈a:=fun y hy=>Jq fun q=>by
 have h1:=sub_len a (b.erase y) hn (fun x hx=>(Ja (fun (e:x=y)=>q (e▸hx))).mpr (hs x hx));rw[Yv hy] at h1;have:0<b.length:=Jh hy;omega
theorem aSn {h o:List Str}(e:aMc h o=true):aMc o h=true:=by
 unfold aMc at e⊢;rw[Qw,decide_eq_true_eq,Yt] at e⊢;refine⟨e.1.symm,fun x hx=> ?_⟩;exact List.contains_iff_mem.mpr (aZo (L2.PU.aPx h) (fun y hy=>List.contains_iff_mem.mp (e.2 y hy)) (by omega) x hx)
theorem bDy (h o:List Str):aMc h o=aMc o h:=by
 cases e:aMc h o with
 | true=>exact (aSn e).symm
 | false=>
  cases e2:aMc o h with
  | false=>rfl
  | true=>rw[aSn e2] at e;cases e
theorem bGp {f g:Rho->M D}{ρ:Rho}{h o:List Str}(h1:f ρ=ok (tS h))(h2:g ρ=ok (tS o))(z1:h.length<=1000)(z2:o.length<=1000):aAm (b2 bHi (f1 toS f) (f1 toS g)) ρ=ok (!aMc h o):=by
 have e: ∀{f:Rho->M D} {h:List Str},f ρ=ok (tS h)->h.length<=1000->f1 toS f ρ=ok (.set (aDz h)):=fun {f h} hf hz=>by
  have hz':h.length<=2000:=by omega
  unfold f1;rw[hf,aBj];simp[toS,aG2,hz',ok]
 exact aA4 (aAs (e h1 z1) (e h2 z2) rfl)
def aZd (t:Adr):Nat->List D->M D
 | 0=>noF
 | k+1=>aH1 1 fun ds=>aA0 (aBb t (aZd t k) (aBu aHi ds))
theorem bOl (t:Adr): ∀(T:Tst) (k:Nat),T.ht<k->T.cols.length<=1000->aZd t k [T.d]=ok (.lst (T.cols.map D.str)):=by
 have plus: ∀{a b:List Str},a.length+b.length<=1000->aCc (.lst (a.map D.str)) (.lst (b.map D.str))=ok (.lst ((a++b).map D.str)):=fun {a b} h=>by
  show (if _ then _ else _)=_;rw[if_pos (by rw[Qi,Qi];omega),Z0]
 intro T
 induction T with
 | is c v=>
  intro k hk _;obtain⟨k,rfl⟩: ∃m,k=m+1:=⟨k-1,by omega⟩;refine aA9 rfl ?_;show aA0 (aBb t (aZd t k) [some (.sh (Tst.is c v).d)])=_;unfold aBb;rw[aCn (wd2 (aAs rfl rfl (aAw (j:=0) rfl)) (by decide+kernel))];rfl
 | same a b=>
  intro k hk _;obtain⟨k,rfl⟩: ∃m,k=m+1:=⟨k-1,by omega⟩;refine aA9 rfl ?_;show aA0 (aBb t (aZd t k) [some (.sh (Tst.same a b).d)])=_;unfold aBb;rw[aBh (wd2 (aAs rfl rfl (aAw (j:=0) rfl)) (by decide+kernel)),aCn (wd2 (aAs rfl rfl (aAw (j:=0) rfl)) (by decide+kernel))];rfl
 | no T ih=>
  intro k hk hl;obtain⟨k,rfl⟩: ∃m,k=m+1:=⟨k-1,by omega⟩;refine aA9 rfl ?_;show aA0 (aBb t (aZd t k) [some (.sh (Tst.no T).d)])=_;unfold aBb;rw[aBh (wd2 (aAs rfl rfl (aAw (j:=0) rfl)) (by decide+kernel)),aBh (wd2 (aAs rfl rfl (aAw (j:=0) rfl)) (by decide+kernel)),aCn (wd2 (aAs rfl rfl (aAw (j:=0) rfl)) (by decide+kernel))];exact (aBk (aAf (aAs rfl rfl (aAw (j:=1) rfl)) rfl)).trans (ih k (by simp only[Tst.ht] at hk;omega) hl)
 | an a b iha ihb=>
  intro k hk hl;obtain⟨k,rfl⟩: ∃m,k=m+1:=⟨k-1,by omega⟩;refine aA9 rfl ?_;show aA0 (aBb t (aZd t k) [some (.sh (Tst.an a b).d)])=_;unfold aBb;have hl':a.cols.length+b.cols.length<=1000:=by simpa[Tst.cols] using hl
  rw[aBh (wd2 (aAs rfl rfl (aAw (j:=0) rfl)) (by decide+kernel)),aBh (wd2 (aAs rfl rfl (aAw (j:=0) rfl)) (by decide+kernel)),aBh (wd2 (aAs rfl rfl (aAw (j:=0) rfl)) (by decide+kernel)),aE9];refine aAs ((aBk (aAf (aAs rfl rfl (aAw (j:=1) rfl)) rfl)).trans (iha k (by simp only[Tst.ht] at hk;omega) (by omega))) ((aBk (aAf (aAs rfl rfl (aAw (j:=2) rfl)) rfl)).trans (ihb k (by simp only[Tst.ht] at hk;omega) (by omega))) (plus hl')
 | or a b iha ihb=>
  intro k hk hl;obtain⟨k,rfl⟩: ∃m,k=m+1:=⟨k-1,by omega⟩;refine aA9 rfl ?_;show aA0 (aBb t (aZd t k) [some (.sh (Tst.or a b).d)])=_;unfold aBb;have hl':a.cols.length+b.cols.length<=1000:=by simpa[Tst.cols] using hl
  rw[aBh (wd2 (aAs rfl rfl (aAw (j:=0) rfl)) (by decide+kernel)),aBh (wd2 (aAs rfl rfl (aAw (j:=0) rfl)) (by decide+kernel)),aBh (wd2 (aAs rfl rfl (aAw (j:=0) rfl)) (by decide+kernel)),aE9];refine aAs ((aBk (aAf (aAs rfl rfl (aAw (j:=1) rfl)) rfl)).trans (iha k (by simp only[Tst.ht] at hk;omega) (by omega))) ((aBk (aAf (aAs rfl rfl (aAw (j:=2) rfl)) rfl)).trans (ihb k (by simp only[Tst.ht] at hk;omega) (by omega))) (plus hl')
def dOf:Rs->D
 | .ok h=> .tup [.str "head",tS h]
 | .error c=> .tup [.str "no",.str c.nm]
theorem aLh (r:Rs):(dOf r).imm=true:=by
 cases r with
 | ok h=>show (true&&((tS h).imm&&true))=true;rw[aHr];rfl
 | error c=>rfl
def bFu (t:Adr)(E RD TD:List D->M D):List D->M D:=aH1 2 fun ds=>aA0 (aD1 t (aZd t 5) E RD TD (aBu aFw ds))
abbrev RU (q hd:D)(w:Str)(o3 o4 o5:Option D):Rho:=[some (.sh q),some (.sh hd),some (.sh (.str w)),so o3,so o4,so o5]
def noC:Rho->M D:=mkT (aAb (con (.str "no")) (aAb (con (.str "NoColumn")) aAn))
theorem bG5 {ρ:Rho}:noC ρ=ok (dOf (.error .C)):=rfl
def aJz:Rho->Option Out:=(aAk (sIf (aAm (b2 (gIn true) (look 5) (b2 gIx (look 3) (con (.int 1))))) (aAk (aBw noC)
  aAr) aAr)
  aAr)
section
variable {t:Adr}{E RD TD:List D->M D}{hs:Hs}
theorem aXg {q hd:D}{w:Str}{h:List Str}{o4:Option D}: ∀(l:List Str) (o5:Option D),
  (l.all (fun x=>h.contains x)=true->∃o5',loop (gN 5) aJz (l.map D.str) (RU q hd w (some (dOf (.ok h))) o4 o5)=some (.nx (RU q hd w (some (dOf (.ok h))) o4 o5')))/\
  (l.all (fun x=>h.contains x)=false->loop (gN 5) aJz (l.map D.str) (RU q hd w (some (dOf (.ok h))) o4 o5)=some (.rt (dOf (.error .C))))
 | [],o5=>⟨fun _=>⟨o5,rfl⟩,fun z=>by simp at z⟩
 | x::l,o5=>by
  obtain⟨i1,i2⟩:=aXg (q:=q) (hd:=hd) (w:=w) (h:=h) (o4:=o4) l (some (.str x));have c1:aAm (b2 (gIn true) (look 5) (b2 gIx (look 3) (con (.int 1)))) (RU q hd w (some (dOf (.ok h))) o4 (some (.str x)))=ok (!h.contains x):=aA4 (aAs rfl (aAs rfl rfl (aAw (j:=1) rfl)) (aOr true x h));have g1:gN 5 (.str x) (RU q hd w (some (dOf (.ok h))) o4 o5)=some (RU q hd w (some (dOf (.ok h))) o4 (some (.str x))):=rfl;cases hc:h.contains x with
  | true=>
   rw[hc] at c1;have b1:aJz (RU q hd w (some (dOf (.ok h))) o4 (some (.str x)))=some (.nx (RU q hd w (some (dOf (.ok h))) o4 (some (.str x)))):=aBh c1;rw[Q4,aEa g1 b1,Zo,hc,J6];exact⟨i1,i2⟩
  | false=>
   rw[hc] at c1;have b1:aJz (RU q hd w (some (dOf (.ok h))) o4 (some (.str x)))=some (.rt (dOf (.error .C))):=aBl ((aDo c1).trans (aBl (aC0 bG5)));rw[Zo,hc,J3];refine⟨fun z=>(by cases z),fun _=> ?_⟩;rw[Q4];unfold loop;rw[g1]
   dsimp only
   rw[b1]
theorem wu {q hd:D}{w y:Str}{o3 o4 o5:Option D}{b:Bool}(e:decide (w=y)=b):aAm (b2 gEq (look 2) (con (.str y))) (RU q hd w o3 o4 o5)=ok b:=wd2 rfl e
theorem wu2 {q hd:D}{w:Str}{r:Rs}{o4 o5:Option D}:aAm (b2 gEq (b2 gIx (look 3) (con (.int 0))) (con (.str "no"))) (RU q hd w (some (dOf r)) o4 o5)=ok (match r with | .ok _=>false | .error _=>true):=by
 cases r with
 | ok h=>exact wd2 (aAs rfl rfl (aAw (j:=0) rfl)) (show decide (("head":Str)="no")=false by decide+kernel)
 | error c=>exact wd2 (aAs rfl rfl (aAw (j:=0) rfl)) (show decide (("no":Str)="no")=true by decide+kernel)
theorem aP4 {n:Str}:bFu t E RD TD [tbD n,hD hs]=ok (dOf (lk hs n)):=by
 refine aA9 rfl ?_;have e0:aBu aFw [tbD n,hD hs]=[some (.sh (tbD n)),some (.sh (hD hs)),none,none,none,none]:=rfl;rw[e0];unfold aD1;rw[aAj (ρ':=RU (tbD n) (hD hs) "table" none none none) (aAz (d:= .str "table") (aAs rfl rfl (aAw (j:=0) rfl)) rfl)];have c1:aAm (b2 gEq (look 2) (con (.str "table"))) (RU (tbD n) (hD hs) "table" none none none)=ok true:=wu (by decide+kernel);have x1:b2 gIx (look 0) (con (.int 1)) (RU (tbD n) (hD hs) "table" none none none)=ok (.str n):=aAs rfl rfl (aAw (j:=1) rfl);have c2:aAm (b2 (aVt false) (b2 gIx (look 0) (con (.int 1))) (look 1)) (RU (tbD n) (hD hs) "table" none none none)=ok (hs.lookup n).isSome:=aA4 (aAs x1 rfl (bFz false n hs));unfold lk;cases e:hs.lookup n with
 | some h=>
  rw[e] at c2;rw[aBl ((aDo c1).trans (aBl ((aDo c2).trans (aBl (aC0 (aHp (aAf rfl (aAf (aAs rfl x1 (bFy e)) rfl))))))))];rfl
 | none=>
  rw[e] at c2;rw[aBl ((aDo c1).trans ((aBh c2).trans (aBl (aC0 (d:=dOf (.error .T)) rfl))))];rfl
theorem bOg {rest:List D}{hd r:D}(h:RD [.tup (.str "ring"::rest),hd]=ok r):bFu t E RD TD [.tup (.str "ring"::rest),hd]=ok r:=by
 refine aA9 rfl ?_;have e0:aBu aFw [.tup (.str "ring"::rest),hd]=[some (.sh (.tup (.str "ring"::rest))),some (.sh hd),none,none,none,none]:=rfl;rw[e0];unfold aD1;rw[aAj (ρ':=RU (.tup (.str "ring"::rest)) hd "ring" none none none) (aAz (d:= .str "ring") (aAs rfl rfl (aAw (j:=0) rfl)) rfl),aBh (wu (by decide+kernel)),aCn (wu (by decide+kernel))];exact (aBk rfl).trans h
theorem bHp {w:Str}{rest:List D}{hd r:D}(hw:w="join"\/w="put")(h:TD [.tup (.str w::rest),hd]=ok r):bFu t E RD TD [.tup (.str w::rest),hd]=ok r:=by
 refine aA9 rfl ?_;have e0:aBu aFw [.tup (.str w::rest),hd]=[some (.sh (.tup (.str w::rest))),some (.sh hd),none,none,none,none]:=rfl;rw[e0];unfold aD1;have w1:decide (w="table")=false:=by rcases hw with rfl | rfl<;>decide+kernel
 have w2:decide (w="ring")=false:=by rcases hw with rfl | rfl<;>decide+kernel
 have w3:(decide (w="join") || decide (w="put"))=true:=by rcases hw with rfl | rfl<;>decide+kernel
 rw[aAj (ρ':=RU (.tup (.str w::rest)) hd w none none none) (aAz (d:= .str w) (aAs rfl rfl (aAw (j:=0) rfl)) rfl),aBh (wu w1),aBh (wu w2),aCn ((aWw (wu rfl) (wu rfl)).trans (by rw[w3]))];exact (aBk rfl).trans h
def aZ9 (t:Adr):Rho->Option Out:=(aAk (sIf (aAm (b2 gEq (look 2) (con (.str "pick")))) (aAk (aBw (look 3))
  aAr) aAr)
  (aAk (sIf (aAm (b2 gEq (look 2) (con (.str "keep")))) (aAk (sIf (aAm (b2 gNe (f1 bHb (f1 toS (look 4))) (f1 aJb (look 4)))) (aAk (aBw noC)
  aAr) aAr)
  (aAk (aBw (mkT (aAb (con (.str "head")) (aAb (look 4) aAn))))
  aAr)) aAr)
  (aAk (sIf (aYy (aAm (b2 (gIn false) (b2 gIx (look 0) (con (.int 2))) (b2 gIx (look 3) (con (.int 1))))) (aAm (b2 gNe (b2 gIx (look 0) (con (.int 2))) (b2 gIx (look 0) (con (.int 1)))))) (aAk (aBw noC)
  aAr) aAr)
  (aAk (aBw (mkT (aAb (con (.str "head")) (aAb (f1 toT (cmp 1 (itE (b2 gIx (look 3) (con (.int 1)))) [6] h1 (fun _=>ok true) (ifV (aAm (b2 gEq (look 6) (b2 gIx (look 0) (con (.int 1))))) (b2 gIx (look 0) (con (.int 2))) (look 6)))) aAn))))
  aAr))))
def bH1 (t:Adr):Rho->Option Out:=aAk (aSp 4 (gN 5) aJz) (aZ9 t)
def bDq (t:Adr):Rho->Option Out:=(aAk (aB6 4 (b2 gIx (look 0) (con (.int 1))))
  (aAk (sIf (aAm (b2 gEq (look 2) (con (.str "pick")))) (aAk (aB6 4 (app (aZd t 5) (aAb (b2 gIx (look 0) (con (.int 1))) aAn)))
  aAr) aAr)
  (aAk (sIf (aAm (b2 gEq (look 2) (con (.str "call")))) (aAk (aB6 4 (mkL (aAb (b2 gIx (look 0) (con (.int 1))) aAn)))
  aAr) aAr)
  (bH1 t))))
theorem aVz {w:Str}{rest:List D}{hd a:D}{r:Rs}{m:D}(w1:decide (w="table")=false)(w2:decide (w="ring")=false)(w3:(decide (w="join") || decide (w="put"))=false)
  (hl:gIx (.tup (.str w::rest)) (.int (-1))=ok a) (hE:E [a,hd]=ok (dOf r)) (he: ∀c,r= .error c->m=dOf (.error c))
  (hk: ∀h,r= .ok h->aA0 (bDq t (RU (.tup (.str w::rest)) hd w (some (dOf (.ok h))) none none))=ok m):bFu t E RD TD [.tup (.str w::rest),hd]=ok m:=by
 refine aA9 rfl ?_;have e0:aBu aFw [.tup (.str w::rest),hd]=[some (.sh (.tup (.str w::rest))),some (.sh hd),none,none,none,none]:=rfl;rw[e0];unfold aD1;rw[aAj (ρ':=RU (.tup (.str w::rest)) hd w none none none) (aAz (d:= .str w) (aAs rfl rfl (aAw (j:=0) rfl)) rfl),aBh (wu w1),aBh (wu w2),aBh ((aWw (wu rfl) (wu rfl)).trans (by rw[w3]))];have s3:aB6 3 (app E (aAb (b2 gIx (look 0) (f1 bP4 (con (.int 1)))) (aAb (look 1) aAn))) (RU (.tup (.str w::rest)) hd w none none none)=some (.nx (RU (.tup (.str w::rest)) hd w (some (dOf r)) none none)):=aAz ((aBk (aAf (aAs rfl rfl hl) rfl)).trans hE) (aLh r);rw[aAj s3];cases r with
 | error c=>
  rw[aCn wu2,he c rfl];rfl
 | ok h=>
  rw[aBh wu2];exact hk h rfl
theorem bB3 {q hd:D}{w:Str}{h:List Str}{y4:D}{l:List Str}(hy:y4= .lst (l.map D.str)\/y4=tS l):aSp 4 (gN 5) aJz (RU q hd w (some (dOf (.ok h))) (some y4) none)=loop (gN 5) aJz (l.map D.str) (RU q hd w (some (dOf (.ok h))) (some y4) none):=by
 rcases hy with rfl | rfl<;>rfl
theorem aUj {q hd:D}{w:Str}{h:List Str}{y4:D}{l:List Str}{m:D}(hy:y4= .lst (l.map D.str)\/y4=tS l)(h1:l.all (fun x=>h.contains x)=false->m=dOf (.error .C))(h2:l.all (fun x=>h.contains x)=true->∀o5,aA0 (aZ9 t (RU q hd w (some (dOf (.ok h))) (some y4) o5))=ok m):aA0 (bH1 t (RU q hd w (some (dOf (.ok h))) (some y4) none))=ok m:=by
 unfold bH1;obtain⟨i1,i2⟩:=aXg (q:=q) (hd:=hd) (w:=w) (h:=h) (o4:=some y4) l none;cases hc:l.all (fun x=>h.contains x) with
 | true=>
  obtain⟨o5,e⟩:=i1 hc;rw[aAj ((bB3 hy).trans e)];exact h2 hc o5
 | false=>
  rw[aBl ((bB3 hy).trans (i2 hc)),h1 hc];rfl
theorem bOh {T:Tst}{n:Str}{hd:D}(o:Tok T){r:Rs}(hE:E [tbD n,hd]=ok (dOf r)):bFu t E RD TD [(Qn.pk T n).d,hd]=ok (dOf (bE r fun h=>aSt h T.cols)):=by
 refine aVz (r:=r) (by decide+kernel) (by decide+kernel) (by decide+kernel) rfl hE (fun c e=>by subst e;rfl) fun h e=> ?_
 subst e;unfold bDq;rw[aAj (ρ':=RU (Qn.pk T n).d hd "pick" (some (dOf (.ok h))) (some T.d) none) (aAz (d:=T.d) (aAs rfl rfl (aAw (j:=1) rfl)) (Tst.imm o.wf))];have c1:aAm (b2 gEq (look 2) (con (.str "pick"))) (RU (Qn.pk T n).d hd "pick" (some (dOf (.ok h))) (some T.d) none)=ok true:=wu (by decide+kernel);have s4:aB6 4 (app (aZd t 5) (aAb (b2 gIx (look 0) (con (.int 1))) aAn)) (RU (Qn.pk T n).d hd "pick" (some (dOf (.ok h))) (some T.d) none)=some (.nx (RU (Qn.pk T n).d hd "pick" (some (dOf (.ok h))) (some (.lst (T.cols.map D.str))) none)):=by
  rw[aUs ((aBk (aAf (aAs rfl rfl (aAw (j:=1) rfl)) rfl)).trans (bOl t T 5 o.ht (by have:=o.ln;omega)))];rfl
 have s5:aAk (aB6 4 (app (aZd t 5) (aAb (b2 gIx (look 0) (con (.int 1))) aAn))) aAr (RU (Qn.pk T n).d hd "pick" (some (dOf (.ok h))) (some T.d) none)=some (.nx (RU (Qn.pk T n).d hd "pick" (some (dOf (.ok h))) (some (.lst (T.cols.map D.str))) none)):=(aAj s4).trans rfl;rw[aAj ((aDo c1).trans s5),aBh (wu (by decide+kernel))];refine aUj (.inl rfl) (fun hc=> ?_) fun hc o5=> ?_
 ·show dOf (aSt h T.cols)=_
  unfold aSt;rw[if_neg (by rw[hc];simp)]
 ·unfold aZ9
  rw[aCn (wu (by decide+kernel))];show ok (dOf (.ok h))=ok (dOf (aSt h T.cols));unfold aSt;rw[if_pos hc]
theorem bJv {f:Rho->M D}{ρ:Rho}{c:List Str}(h:f ρ=ok (tS c))(hz:c.length<=1000):aAm (b2 gNe (f1 bHb (f1 toS f)) (f1 aJb f)) ρ=ok (!decide ((aDz c).length=c.length)):=by
 have z2:c.length<=2000:=by omega
 have e1:f1 toS f ρ=ok (.set (aDz c)):=by unfold f1;rw[h,aBj];simp[toS,aG2,z2,ok]
 have e2:f1 bHb (f1 toS f) ρ=ok (.int ((aDz c).length:Int)):=aRr e1 rfl;have e3:f1 aJb f ρ=ok (.int (c.length:Int)):=aRr h (by simp[aJb]);refine aA4 (aAs e2 e3 ?_);show ok (D.bl (!decide (((aDz c).length:Int)=(c.length:Int))))=_
 congr 4
 simp;omega
theorem bOi {cs:List Str}{n:Str}{hd:D}{r:Rs}(hz:cs.length<=30)(hE:E [tbD n,hd]=ok (dOf r)):bFu t E RD TD [(Qn.kp cs n).d,hd]=ok (dOf (bE r fun h=>keepR h cs)):=by
 refine aVz (r:=r) (by decide+kernel) (by decide+kernel) (by decide+kernel) rfl hE (fun c e=>by subst e;rfl) fun h e=> ?_
 subst e;unfold bDq;rw[aAj (ρ':=RU (Qn.kp cs n).d hd "keep" (some (dOf (.ok h))) (some (tS cs)) none) (aAz (d:=tS cs) (aAs rfl rfl (aAw (j:=1) rfl)) (aHr cs)),aBh (wu (by decide+kernel)),aBh (wu (by decide+kernel))];refine aUj (.inr rfl) (fun hc=> ?_) fun hc o5=> ?_
 ·show dOf (keepR h cs)=_
  unfold keepR;rw[if_neg (by rw[hc];simp)]
 ·unfold aZ9
  rw[aBh (wu (by decide+kernel))];have c2:=bJv (f:=look 4) (ρ:=RU (Qn.kp cs n).d hd "keep" (some (dOf (.ok h))) (some (tS cs)) o5) (c:=cs) rfl (by omega);have c1:aAm (b2 gEq (look 2) (con (.str "keep"))) (RU (Qn.kp cs n).d hd "keep" (some (dOf (.ok h))) (some (tS cs)) o5)=ok true:=wu (by decide+kernel);show _=ok (dOf (keepR h cs));unfold keepR;by_cases hm:(aDz cs).length=cs.length
  ·rw[decide_eq_true hm] at c2
   rw[if_pos ⟨hm,hc⟩,aBl ((aDo c1).trans ((aBh c2).trans (aBl (aC0 (d:=dOf (.ok cs)) rfl))))];rfl
  ·rw[decide_eq_false hm] at c2
   rw[if_neg (fun z=>hm z.1),aBl ((aDo c1).trans (aBl ((aDo c2).trans (aBl (aC0 bG5)))))];rfl
theorem bOj {x y n:Str}{hd:D}{r:Rs}(hr: ∀h,r= .ok h->h.length<=1000)(hE:E [tbD n,hd]=ok (dOf r)):bFu t E RD TD [(Qn.cl x y n).d,hd]=ok (dOf (bE r fun h=>aT0 h x y)):=by
 refine aVz (r:=r) (by decide+kernel) (by decide+kernel) (by decide+kernel) rfl hE (fun c e=>by subst e;rfl) fun h e=> ?_
 subst e;have hz:=hr h rfl;unfold bDq;rw[aAj (ρ':=RU (Qn.cl x y n).d hd "call" (some (dOf (.ok h))) (some (.str x)) none) (aAz (d:= .str x) (aAs rfl rfl (aAw (j:=1) rfl)) rfl),aBh (wu (by decide+kernel))];have c1:aAm (b2 gEq (look 2) (con (.str "call"))) (RU (Qn.cl x y n).d hd "call" (some (dOf (.ok h))) (some (.str x)) none)=ok true:=wu (by decide+kernel);have s4:aAk (aB6 4 (mkL (aAb (b2 gIx (look 0) (con (.int 1))) aAn))) aAr (RU (Qn.cl x y n).d hd "call" (some (dOf (.ok h))) (some (.str x)) none)=some (.nx (RU (Qn.cl x y n).d hd "call" (some (dOf (.ok h))) (some (.lst ([x].map D.str))) none)):=rfl;rw[aAj ((aDo c1).trans s4)];refine aUj (.inl rfl) (fun hc=> ?_) fun hc o5=> ?_
 ·show dOf (aT0 h x y)=_
  unfold aT0;rw[if_neg (fun z=>by rw[Zo,z.1] at hc;cases hc)]
 ·have hx:h.contains x=true:=by rw[Zo,Qw] at hc;exact hc.1
  unfold aZ9;rw[aBh (wu (by decide+kernel)),aBh (wu (by decide+kernel))];have x1:b2 gIx (look 0) (con (.int 1)) (RU (Qn.cl x y n).d hd "call" (some (dOf (.ok h))) (some (.lst ([x].map D.str))) o5)=ok (.str x):=aAs rfl rfl (aAw (j:=1) rfl);have x2:b2 gIx (look 0) (con (.int 2)) (RU (Qn.cl x y n).d hd "call" (some (dOf (.ok h))) (some (.lst ([x].map D.str))) o5)=ok (.str y):=aAs rfl rfl (aAw (j:=2) rfl);have x3:b2 gIx (look 3) (con (.int 1)) (RU (Qn.cl x y n).d hd "call" (some (dOf (.ok h))) (some (.lst ([x].map D.str))) o5)=ok (tS h):=aAs rfl rfl (aAw (j:=1) rfl);have c2:aYy (aAm (b2 (gIn false) (b2 gIx (look 0) (con (.int 2))) (b2 gIx (look 3) (con (.int 1))))) (aAm (b2 gNe (b2 gIx (look 0) (con (.int 2))) (b2 gIx (look 0) (con (.int 1))))) (RU (Qn.cl x y n).d hd "call" (some (dOf (.ok h))) (some (.lst ([x].map D.str))) o5)=ok (h.contains y&& !decide (y=x)):=aN2 (aA4 (aAs x2 x3 (aOr false y h))) (aA4 (aAs x2 x1 rfl));show _=ok (dOf (aT0 h x y));unfold aT0;by_cases hb:h.contains y=true/\y≠x
  ·have e:(h.contains y&& !decide (y=x))=true:=by rw[hb.1,decide_eq_false hb.2];rfl
   rw[e] at c2;rw[if_neg (fun z=>z.2 hb),aCn c2];rfl
  ·have e:(h.contains y&& !decide (y=x))=false:=by
    cases hy':h.contains y with
    | false=>rfl
    | true=>
     have e:y=x:=Jq fun q=>hb ⟨hy',q⟩
     rw[decide_eq_true e];rfl
   rw[e] at c2;rw[if_pos ⟨hx,hb⟩,aBh c2,aE9];have cm:cmp 1 (itE (b2 gIx (look 3) (con (.int 1)))) [6] h1 (fun _=>ok true) (ifV (aAm (b2 gEq (look 6) (b2 gIx (look 0) (con (.int 1))))) (b2 gIx (look 0) (con (.int 2))) (look 6)) (RU (Qn.cl x y n).d hd "call" (some (dOf (.ok h))) (some (.lst ([x].map D.str))) o5)=ok (.lst ((h.map fun c=>if c=x then y else c).map D.str)):=by
    have fr:free (RU (Qn.cl x y n).d hd "call" (some (dOf (.ok h))) (some (.lst ([x].map D.str))) o5)=RU (Qn.cl x y n).d hd "call" (some (dOf (.ok h))) (some (.lst ([x].map D.str))) o5:=by cases o5<;>rfl
    have e1:=aFv (k:=6) (ft:=fun _=>ok true) (fe:=ifV (aAm (b2 gEq (look 6) (b2 gIx (look 0) (con (.int 1))))) (b2 gIx (look 0) (con (.int 2))) (look 6)) (ρ:=RU (Qn.cl x y n).d hd "call" (some (dOf (.ok h))) (some (.lst ([x].map D.str))) o5++ [none]) (p:=fun _=>true) (g:=fun c=>D.str (if c=x then y else c)) h (fun c _=>rfl) (fun c _ _=>by
     refine⟨?_,rfl⟩;show ifV _ _ _ (RU (Qn.cl x y n).d hd "call" (some (dOf (.ok h))) (some (.lst ([x].map D.str))) o5++ [some (.sh (.str c))])=_;have t1:aAm (b2 gEq (look 6) (b2 gIx (look 0) (con (.int 1)))) (RU (Qn.cl x y n).d hd "call" (some (dOf (.ok h))) (some (.lst ([x].map D.str))) o5++ [some (.sh (.str c))])=ok (decide (c=x)):=aA4 (aAs rfl (aAs rfl rfl (aAw (j:=1) rfl)) rfl);unfold ifV;rw[t1];by_cases q:c=x
     ·rw[decide_eq_true q,if_pos q]
      show b2 gIx (look 0) (con (.int 2)) (RU (Qn.cl x y n).d hd "call" (some (dOf (.ok h))) (some (.lst ([x].map D.str))) o5++ [some (.sh (.str c))])=_;exact aAs rfl rfl (aAw (j:=2) rfl)
     ·rw[decide_eq_false q,if_neg q]
      rfl)
    unfold cmp;rw[show itE (b2 gIx (look 3) (con (.int 1))) (RU (Qn.cl x y n).d hd "call" (some (dOf (.ok h))) (some (.lst ([x].map D.str))) o5)=ok (h.map D.str) from by unfold itE;rw[x3];rfl];rw[aBj,if_pos (by rw[Qi];omega)];show bnd (aJ3 [6] h1 _ _ (h.map D.str) (ext 1 (free (RU (Qn.cl x y n).d hd "call" (some (dOf (.ok h))) (some (.lst ([x].map D.str))) o5)))) _=_;rw[fr];show bnd (aJ3 [6] h1 _ _ (h.map D.str) (RU (Qn.cl x y n).d hd "call" (some (dOf (.ok h))) (some (.lst ([x].map D.str))) o5++ [none])) _=_;rw[e1,aBj,List.filter_eq_self.mpr (fun _ _=>rfl),Yu];rfl
   exact aHp (aAf rfl (aAf (aRr cm rfl) rfl))
end
def bFw (t:Adr):List D->M D:=bFu t noF noF noF
def bQ8 (t:Adr):List D->M D:=aH1 2 fun ds=>aA0 (aEc t (bFw t) (aBu aFi ds))
def rgD (t:Adr):List D->M D:=aH1 2 fun ds=>aA0 (aDw t (bFw t) (aBu aEy ds))
def bLf (t:Adr):List D->M D:=bFu t (bFw t) (rgD t) (bQ8 t)
section
variable {t:Adr}{hs:Hs}
abbrev R4 (q hd:D)(o2 o3:Option D):Rho:=[some (.sh q),some (.sh hd),so o2,so o3]
theorem bDf {f:Rho->M D}{ρ:Rho}{r:Rs}(h:f ρ=ok (dOf r)):aAm (b2 gEq (b2 gIx f (con (.int 0))) (con (.str "no"))) ρ=ok (match r with | .ok _=>false | .error _=>true):=by
 cases r with
 | ok h'=>exact wd2 (aAs h rfl (aAw (j:=0) rfl)) (show decide (("head":Str)="no")=false by decide+kernel)
 | error c=>exact wd2 (aAs h rfl (aAw (j:=0) rfl)) (show decide (("no":Str)="no")=true by decide+kernel)
theorem bGl {w a b:Str}(ho:HOK hs):bQ8 t [.tup [.str w,tbD a,tbD b],hD hs]=ok (dOf (bE (lk hs a) fun h=>bE (lk hs b) fun o=>if w="join" then .ok (h++o.filter fun c=> !h.contains c) else aZa h o)):=by
 refine aA9 rfl ?_;have e0:aBu aFi [.tup [.str w,tbD a,tbD b],hD hs]=R4 (.tup [.str w,tbD a,tbD b]) (hD hs) none none:=rfl;rw[e0];unfold aEc;have s1:aB6 2 (app (bFw t) (aAb (b2 gIx (look 0) (con (.int 1))) (aAb (look 1) aAn))) (R4 (.tup [.str w,tbD a,tbD b]) (hD hs) none none)=some (.nx (R4 (.tup [.str w,tbD a,tbD b]) (hD hs) (some (dOf (lk hs a))) none)):=aAz ((aBk (aAf (aAs rfl rfl (aAw (j:=1) rfl)) rfl)).trans aP4) (aLh _);rw[aAj s1];cases e1:lk hs a with
 | error c=>
  rw[aCn (bDf (r:= .error c) rfl)];rfl
 | ok h=>
  have z1:=(aMk ho e1).1;rw[aBh (bDf (r:= .ok h) rfl)];have s2:aB6 3 (app (bFw t) (aAb (b2 gIx (look 0) (con (.int 2))) (aAb (look 1) aAn))) (R4 (.tup [.str w,tbD a,tbD b]) (hD hs) (some (dOf (.ok h))) none)=some (.nx (R4 (.tup [.str w,tbD a,tbD b]) (hD hs) (some (dOf (.ok h))) (some (dOf (lk hs b))))):=aAz ((aBk (aAf (aAs rfl rfl (aAw (j:=2) rfl)) rfl)).trans aP4) (aLh _);rw[aAj s2];cases e2:lk hs b with
  | error c=>
   rw[aCn (bDf (r:= .error c) rfl)];rfl
  | ok o=>
   have z2:=(aMk ho e2).1;rw[aBh (bDf (r:= .ok o) rfl)];show _=ok (dOf (if w="join" then .ok (h++o.filter fun c=> !h.contains c) else aZa h o));have x2:b2 gIx (look 2) (con (.int 1)) (R4 (.tup [.str w,tbD a,tbD b]) (hD hs) (some (dOf (.ok h))) (some (dOf (.ok o))))=ok (tS h):=aAs rfl rfl (aAw (j:=1) rfl);have x3:b2 gIx (look 3) (con (.int 1)) (R4 (.tup [.str w,tbD a,tbD b]) (hD hs) (some (dOf (.ok h))) (some (dOf (.ok o))))=ok (tS o):=aAs rfl rfl (aAw (j:=1) rfl);by_cases hw:w="join"
   ·rw[if_pos hw,aCn (wd2 (aAs rfl rfl (aAw (j:=0) rfl)) (decide_eq_true hw))]
    have cm:cmp 1 (itE (b2 gIx (look 3) (con (.int 1)))) [4] h1 (aAm (b2 (gIn true) (look 4) (b2 gIx (look 2) (con (.int 1))))) (look 4) (R4 (.tup [.str w,tbD a,tbD b]) (hD hs) (some (dOf (.ok h))) (some (dOf (.ok o))))=ok (.lst ((o.filter fun c=> !h.contains c).map D.str)):=by
     have e1:=aFv (k:=4) (ft:=aAm (b2 (gIn true) (look 4) (b2 gIx (look 2) (con (.int 1))))) (fe:=look 4) (ρ:=R4 (.tup [.str w,tbD a,tbD b]) (hD hs) (some (dOf (.ok h))) (some (dOf (.ok o)))++ [none]) (p:=fun c=> !h.contains c) (g:=D.str) o (fun c _=>aA4 (aAs rfl (aAs rfl rfl (aAw (j:=1) rfl)) (aOr true c h))) (fun c _ _=>⟨rfl,rfl⟩);unfold cmp;rw[show itE (b2 gIx (look 3) (con (.int 1))) (R4 (.tup [.str w,tbD a,tbD b]) (hD hs) (some (dOf (.ok h))) (some (dOf (.ok o))))=ok (o.map D.str) from by unfold itE;rw[x3];rfl];rw[aBj,if_pos (by rw[Qi];omega)];show bnd (aJ3 [4] h1 _ _ (o.map D.str) (R4 (.tup [.str w,tbD a,tbD b]) (hD hs) (some (dOf (.ok h))) (some (dOf (.ok o)))++ [none])) _=_;rw[e1,aBj]
    refine aHp (aAf rfl (aAf (aAs x2 (aRr cm rfl) (r:=ok (tS (h++o.filter fun c=> !h.contains c))) ?_) rfl));show (if _ then _ else _)=_;rw[if_pos (by
     rw[Qi,Qi];have:=W4 (fun c=> !h.contains c) o;omega),<-Z0]
   ·rw[if_neg hw,aBh (wd2 (aAs rfl rfl (aAw (j:=0) rfl)) (decide_eq_false hw))]
    have c2:=bGp x2 x3 (by omega) (by omega);unfold aZa;cases hb:aMc h o with
    | true=>
     rw[hb] at c2;rw[aBh c2,aE9,if_pos rfl];rfl
    | false=>
     rw[hb] at c2;rw[aCn c2,if_neg (by simp)];rfl
abbrev R5 (q hd:D)(o2:Option D)(o3:Option SV)(o4:Option D):Rho:=[some (.sh q),some (.sh hd),so o2,o3,so o4]
theorem bLw {m a b:Str}{k:Int}(ho:HOK hs)(hl:hs.length<20)(hm:Sh m):rgD t [(Qn.rg m k a b).d,hD hs]=ok (dOf (aX2 hs m a b)):=by
 refine aA9 rfl ?_;have e0:aBu aEy [(Qn.rg m k a b).d,hD hs]=R5 (Qn.rg m k a b).d (hD hs) none none none:=rfl;rw[e0];unfold aDw aX2;have x1:b2 gIx (look 0) (con (.int 1)) (R5 (Qn.rg m k a b).d (hD hs) none none none)=ok (.str m):=aAs rfl rfl (aAw (j:=1) rfl);have c1:aAm (b2 (aVt false) (b2 gIx (look 0) (con (.int 1))) (look 1)) (R5 (Qn.rg m k a b).d (hD hs) none none none)=ok (hs.lookup m).isSome:=aA4 (aAs x1 rfl (bFz false m hs));cases e:hs.lookup m with
 | some h=>
  rw[e] at c1;rw[aCn c1];rfl
 | none=>
  rw[e] at c1;rw[aBh c1];have s1:aB6 2 (app (bFw t) (aAb (b2 gIx (look 0) (con (.int 3))) (aAb (look 1) aAn))) (R5 (Qn.rg m k a b).d (hD hs) none none none)=some (.nx (R5 (Qn.rg m k a b).d (hD hs) (some (dOf (lk hs a))) none none)):=aAz ((aBk (aAf (aAs rfl rfl (aAw (j:=3) rfl)) rfl)).trans aP4) (aLh _);rw[aAj s1];cases e1:lk hs a with
  | error c=>
   rw[aCn (bDf (r:= .error c) rfl)];rfl
  | ok h=>
   obtain⟨z1,zc⟩:=aMk ho e1;have ho2:=(aPq (n:=m) (h:=h) ho hl hm z1 zc).1;rw[aBh (bDf (r:= .ok h) rfl),aAj (aRz (hs:=hs) rfl)];have s3:aKc 3 (b2 gIx (look 0) (con (.int 1))) (b2 gIx (look 2) (con (.int 1))) (R5 (Qn.rg m k a b).d (hD hs) (some (dOf (.ok h))) (some (.ow (.k (hK hs)))) none)=some (.nx (R5 (Qn.rg m k a b).d (hD hs) (some (dOf (.ok h))) (some (.ow (.k (hK (aJp hs m h))))) none)):=aSr (hs:=hs) rfl (aAs rfl rfl (aAw (j:=1) rfl)) (aAs rfl rfl (aAw (j:=1) rfl)) ho.len;refine (congrArg aA0 (aAj s3)).trans ?_;have s4:aB6 4 (app (bFw t) (aAb (b2 gIx (look 0) (con (.int 4))) (aAb (look 3) aAn))) (R5 (Qn.rg m k a b).d (hD hs) (some (dOf (.ok h))) (some (.ow (.k (hK (aJp hs m h))))) none)=some (.nx (R5 (Qn.rg m k a b).d (hD hs) (some (dOf (.ok h))) (some (.ow (.k (hK (aJp hs m h))))) (some (dOf (lk (aJp hs m h) b))))):=aAz ((aBk (aAf (aAs rfl rfl (aAw (j:=4) rfl)) rfl)).trans aP4) (aLh _);rw[aAj s4];show _=ok (dOf (bE (lk (aJp hs m h) b) fun o=>aZa h o));cases e2:lk (aJp hs m h) b with
   | error c=>
    have c3:aAm (b2 gEq (b2 gIx (look 4) (con (.int 0))) (con (.str "head"))) (R5 (Qn.rg m k a b).d (hD hs) (some (dOf (.ok h))) (some (.ow (.k (hK (aJp hs m h))))) (some (dOf (.error c))))=ok false:=wd2 (aAs rfl rfl (aAw (j:=0) rfl)) (show decide (("no":Str)="head")=false by decide+kernel);have c4: ∀g,aYy (aAm (b2 gEq (b2 gIx (look 4) (con (.int 0))) (con (.str "head")))) g (R5 (Qn.rg m k a b).d (hD hs) (some (dOf (.ok h))) (some (.ow (.k (hK (aJp hs m h))))) (some (dOf (.error c))))=ok false:=fun g=>by
     unfold aYy;rw[c3];rfl
    rw[aBh (c4 _),aCn (bDf (r:= .error c) rfl)];rfl
   | ok o=>
    have z2:=(aMk ho2 e2).1;have c3:aAm (b2 gEq (b2 gIx (look 4) (con (.int 0))) (con (.str "head"))) (R5 (Qn.rg m k a b).d (hD hs) (some (dOf (.ok h))) (some (.ow (.k (hK (aJp hs m h))))) (some (dOf (.ok o))))=ok true:=wd2 (aAs rfl rfl (aAw (j:=0) rfl)) (show decide (("head":Str)="head")=true by decide+kernel);have c4:=aN2 c3 (bGp (f:=b2 gIx (look 4) (con (.int 1))) (g:=b2 gIx (look 2) (con (.int 1))) (ρ:=R5 (Qn.rg m k a b).d (hD hs) (some (dOf (.ok h))) (some (.ow (.k (hK (aJp hs m h))))) (some (dOf (.ok o)))) (h:=o) (o:=h) (aAs rfl rfl (aAw (j:=1) rfl)) (aAs rfl rfl (aAw (j:=1) rfl)) (by omega) (by omega));show _=ok (dOf (aZa h o));unfold aZa;rw[bDy o h] at c4;cases hb:aMc h o with
    | true=>
     rw[hb] at c4;rw[aBh c4,aBh (bDf (r:= .ok o) rfl),aE9,if_pos rfl];rfl
    | false=>
     rw[hb] at c4;rw[aCn c4,if_neg (by simp)];rfl
theorem bCc (ho:HOK hs)(hl:hs.length<20){q:Qn}(hq:q.wf):bLf t [q.d,hD hs]=ok (dOf (res hs q)):=by
 have b0: ∀n,bFw t [tbD n,hD hs]=ok (dOf (lk hs n)):=fun n=>aP4
 cases q with
 | tb n=>exact aP4
 | pk T n=>exact bOh hq.1 (b0 n)
 | kp cs n=>exact bOi hq.1.1 (b0 n)
 | cl x y n=>exact bOj (fun h e=>by have:=(aMk ho e).1;omega) (b0 n)
 | jn a b=>exact bHp (.inl rfl) ((bGl ho).trans (by simp only[if_true];rfl))
 | pu a b=>
  have hne:¬(("put":Str)="join"):=by decide+kernel
  exact bHp (.inr rfl) ((bGl ho).trans (by simp only[if_neg hne];rfl))
 | rg m k a b=>exact bOg (bLw ho hl hq.1)
end
def cB (c:Cz):D:= .tup [.bl true,.bl (decide (c= .T)),.bl (decide (c= .C)),.bl (decide (c= .F)),.bl (decide (c= .W))]
def tOf:Rs->D
 | .ok h=> .tup [.str "head",tS h]
 | .error c=> .tup [.str "no",cB c]
def aXx (t:Adr):List D->M D:=aH1 2 fun ds=>aA0 (aGb t (aF0 t (aOf t noF)) (aBu aIv ds))
section
variable {K:Qa}{mg:Str->Option Qc}{t:Adr}{hs:Hs}
theorem bKv (X:Txt K mg t)(c:Cz):aCy t (c.adr t)=some true/\aB7 t (c.adr t)=true/\kx t (c.adr t)=true/\aEo t (c.adr t)=some (decide (c= .T))/\aD0 t (c.adr t)=some (decide (c= .C))/\aG6 t (c.adr t)=some (decide (c= .F))/\aG5 t (c.adr t)=some (decide (c= .W)):=by
 have h1:=X.aJq;have h2:=X.aK1;have h3:=X.aK0;have h4:=X.aMf;have h5:=X.aMg;have h6:=X.aOl;cases c<;>simp[aCy,aB7,kx,aEo,aD0,aG6,aG5,Cz.adr,h1,h2,h3,h4,h5,h6,Ne.symm h1,Ne.symm h2,Ne.symm h3,Ne.symm h4,Ne.symm h5,Ne.symm h6]
theorem bDp (X:Txt K mg t)(ho:HOK hs)(hl:hs.length<20){q:Qn}(hq:q.wf):aXx t [q.d,hD hs]=ok (tOf (res hs q)):=by
 refine aA9 rfl ?_;have e0:aBu aIv [q.d,hD hs]=[some (.sh q.d),some (.sh (hD hs)),none,none,none]:=rfl;rw[e0];unfold aGb;rw[aAj (ρ':=[some (.sh q.d),some (.sh (hD hs)),some (.sh .non),none,none]) rfl,aAj (ρ':=[some (.sh q.d),some (.sh (hD hs)),some (.sh .non),some (.sh .non),none]) rfl];have h1:app (aF0 t (aOf t noF)) (aAb (look 0) (aAb (look 1) aAn)) [some (.sh q.d),some (.sh (hD hs)),some (.sh .non),some (.sh .non),none]=toM t (res hs q):=(aBk rfl).trans (bFh ho hl hq);cases e:res hs q with
 | ok h=>
  rw[e] at h1;have s1:aAk (aB6 2 (app (aF0 t (aOf t noF)) (aAb (look 0) (aAb (look 1) aAn)))) aAr [some (.sh q.d),some (.sh (hD hs)),some (.sh .non),some (.sh .non),none]=some (.nx [some (.sh q.d),some (.sh (hD hs)),some (.sh (tS h)),some (.sh .non),none]):=(aAj (aAz h1 (aHr h))).trans rfl;have s2: ∀hh,bIf (aAk (aB6 2 (app (aF0 t (aOf t noF)) (aAb (look 0) (aAb (look 1) aAn)))) aAr) hh [some (.sh q.d),some (.sh (hD hs)),some (.sh .non),some (.sh .non),none]=some (.nx [some (.sh q.d),some (.sh (hD hs)),some (.sh (tS h)),some (.sh .non),none]):=fun hh=>by unfold bIf;rw[s1]
  rw[aAj (s2 _)];rfl
 | error c=>
  rw[e] at h1;obtain⟨k0,k1,k2,k3,k4,k5,k6⟩:=bKv X c;have s1:aAk (aB6 2 (app (aF0 t (aOf t noF)) (aAb (look 0) (aAb (look 1) aAn)))) aAr [some (.sh q.d),some (.sh (hD hs)),some (.sh .non),some (.sh .non),none]=some (.ex (c.adr t) [some (.sh q.d),some (.sh (hD hs)),some (.sh .non),some (.sh .non),none]):=aC4 (by unfold aB6;rw[h1];rfl);have x1: ∀{km:Addr->Option Bool} {b:Bool},km (c.adr t)=some b->aVy (kx t) km (look 4) [some (.sh q.d),some (.sh (hD hs)),some (.sh .non),some (.sh .non),some (.sh (.exc (c.adr t)))]=ok (.bl b):=fun {km b} hk=>by
   unfold aVy;show (match kx t (c.adr t),km (c.adr t) with | true,some b=>ok (D.bl b) | _,_=>none)=_;rw[k2,hk]
  have x0:exs (aB7 t) (look 4) [some (.sh q.d),some (.sh (hD hs)),some (.sh .non),some (.sh .non),some (.sh (.exc (c.adr t)))]=ok (.bl true):=by
   unfold exs;show (if aB7 t (c.adr t)=true then ok (D.bl true) else none)=_;rw[if_pos k1]
  have g1:aAk (aB6 3 (mkT (aAb (exs (aB7 t) (look 4)) (aAb (aVy (kx t) (aEo t) (look 4)) (aAb (aVy (kx t) (aD0 t) (look 4)) (aAb (aVy (kx t) (aG6 t) (look 4)) (aAb (aVy (kx t) (aG5 t) (look 4)) aAn)))))))
    aAr [some (.sh q.d),some (.sh (hD hs)),some (.sh .non),some (.sh .non),some (.sh (.exc (c.adr t)))]=some (.nx [some (.sh q.d),some (.sh (hD hs)),some (.sh .non),some (.sh (cB c)),some (.sh (.exc (c.adr t)))]):=
   (aAj (aAz (d:=cB c) (aHp (aAf x0 (aAf (x1 k3) (aAf (x1 k4) (aAf (x1 k5) (aAf (x1 k6) rfl)))))) rfl)).trans rfl
  have s2:bIf (aAk (aB6 2 (app (aF0 t (aOf t noF)) (aAb (look 0) (aAb (look 1) aAn)))) aAr) (⟨aCy t,4,(aAk (aB6 3 (mkT (aAb (exs (aB7 t) (look 4)) (aAb (aVy (kx t) (aEo t) (look 4)) (aAb (aVy (kx t) (aD0 t) (look 4)) (aAb (aVy (kx t) (aG6 t) (look 4)) (aAb (aVy (kx t) (aG5 t) (look 4)) aAn)))))))
    aAr)⟩::[]) [some (.sh q.d),some (.sh (hD hs)),some (.sh .non),some (.sh .non),none]=some (.nx [some (.sh q.d),some (.sh (hD hs)),some (.sh .non),some (.sh (cB c)),none]):=by
   unfold bIf;rw[s1];show hands _ (c.adr t) _=_;unfold hands
   dsimp only
   rw[k0]
   dsimp only
   show aft 4 (aAk (aB6 3 _) aAr [some (.sh q.d),some (.sh (hD hs)),some (.sh .non),some (.sh .non),some (.sh (.exc (c.adr t)))])=_;rw[g1];rfl
  rw[aAj s2];rfl
def aPp (t:Adr):List D->M D:=aH1 2 fun ds=>aA0 (aFh t (aBu aHg ds))
theorem aNx {f:D->D->Option Bool}(hf: ∀x:Str,f (.str x) (.str x)=some true): ∀(l:List Str),aRu f (l.map D.str) (l.map D.str)=some true
 | []=>rfl
 | x::l=>by
  rw[Q4];unfold aRu;rw[hf x,aNx hf l];rfl
theorem bOc (l:List Str):aVs (tS l) (tS l)=ok (.bl true):=by
 show (match aRu (eqN 8) (l.map D.str) (l.map D.str) with | some b=>ok (D.bl b) | none=>none)=_;rw[aNx (fun x=>by unfold eqN;simp)]
theorem aPo {a b:D}: ∀(l:List Str) (o2 o3:Option D),∃o3',loop (gN 3) (aAk (sIf (aZb (test (isi "str" (look 3)))) (aAk (aBw (con (.bl false)))
  aAr) aAr)
  aAr) (l.map D.str) [some (.sh a),some (.sh b),so o2,so o3]=some (.nx [some (.sh a),some (.sh b),so o2,so o3'])
 | [],o2,o3=>⟨o3,rfl⟩
 | x::l,o2,o3=>by
  obtain⟨o3',h⟩:=aPo (a:=a) (b:=b) l o2 (some (.str x));refine⟨o3',?_⟩;rw[Q4,aEa (ρ1:=[some (.sh a),some (.sh b),so o2,some (.sh (.str x))]) (ρ2:=[some (.sh a),some (.sh b),so o2,some (.sh (.str x))]) rfl (aBh (aRb (aQg (d:= .bl true) rfl rfl)))];exact h
theorem bD5 (t:Adr)(r:Rs):aPp t [tOf r,dOf r]=ok (.bl true):=by
 refine aA9 rfl ?_;have e0:aBu aHg [tOf r,dOf r]=[some (.sh (tOf r)),some (.sh (dOf r)),none,none]:=rfl;rw[e0];unfold aFh;cases r with
 | error c=>
  have c1:aAm (b2 gEq (b2 gIx (look 1) (con (.int 0))) (con (.str "no"))) [some (.sh (tOf (.error c))),some (.sh (dOf (.error c))),none,none]=ok true:=bDf (f:=look 1) (r:= .error c) rfl;have x1: ∀(y:Str) (b:Bool),decide (c.nm=y)=b->b2 gEq (b2 gIx (look 1) (con (.int 1))) (con (.str y)) [some (.sh (tOf (.error c))),some (.sh (dOf (.error c))),none,none]=ok (.bl b):=fun y b hb=>by
   refine aAs (x:= .str c.nm) (aAs rfl rfl (aAw (j:=1) rfl)) rfl ?_;show ok (D.bl (decide (c.nm=y)))=_;rw[hb]
  have d1:decide (c.nm="NoTable")=decide (c= .T):=by cases c<;>decide+kernel
  have d2:decide (c.nm="NoColumn")=decide (c= .C):=by cases c<;>decide+kernel
  have d3:decide (c.nm="NoFit")=decide (c= .F):=by cases c<;>decide+kernel
  have d4:decide (c.nm="Twice")=decide (c= .W):=by cases c<;>decide+kernel
  have s1:aB6 2 (mkT (aAb (con (.bl true)) (aAb (b2 gEq (b2 gIx (look 1) (con (.int 1))) (con (.str "NoTable"))) (aAb (b2 gEq (b2 gIx (look 1) (con (.int 1))) (con (.str "NoColumn"))) (aAb (b2 gEq (b2 gIx (look 1) (con (.int 1))) (con (.str "NoFit"))) (aAb (b2 gEq (b2 gIx (look 1) (con (.int 1))) (con (.str "Twice"))) aAn)))))) [some (.sh (tOf (.error c))),some (.sh (dOf (.error c))),none,none]=some (.nx [some (.sh (tOf (.error c))),some (.sh (dOf (.error c))),some (.sh (cB c)),none]):=
   aAz (d:=cB c) (aHp (aAf rfl (aAf (x1 _ _ d1) (aAf (x1 _ _ d2) (aAf (x1 _ _ d3) (aAf (x1 _ _ d4) rfl)))))) rfl
  have y1:b2 gEq (b2 gIx (look 0) (con (.int 0))) (con (.str "no")) [some (.sh (tOf (.error c))),some (.sh (dOf (.error c))),some (.sh (cB c)),none]=ok (.bl true):=aAs (x:= .str "no") (aAs rfl rfl (aAw (j:=0) rfl)) rfl (by show ok (D.bl (decide (("no":Str)="no")))=_;rw[decide_eq_true rfl]);have y2:b2 aVs (b2 gIx (look 0) (con (.int 1))) (look 2) [some (.sh (tOf (.error c))),some (.sh (dOf (.error c))),some (.sh (cB c)),none]=ok (.bl true):=aAs (x:=cB c) (aAs rfl rfl (aAw (j:=1) rfl)) rfl (by cases c<;>rfl);have y3:bO4 (b2 gEq (b2 gIx (look 0) (con (.int 0))) (con (.str "no"))) (b2 aVs (b2 gIx (look 0) (con (.int 1))) (look 2)) [some (.sh (tOf (.error c))),some (.sh (dOf (.error c))),some (.sh (cB c)),none]=ok (.bl true):=by
   unfold bO4;rw[y1];exact y2
  rw[aBl ((aDo c1).trans ((aAj s1).trans (aBl (aC0 y3))))];rfl
 | ok h=>
  have c1:aAm (b2 gEq (b2 gIx (look 1) (con (.int 0))) (con (.str "no"))) [some (.sh (tOf (.ok h))),some (.sh (dOf (.ok h))),none,none]=ok false:=bDf (f:=look 1) (r:= .ok h) rfl;rw[aBh c1];have c2:aAm (b2 gNe (b2 gIx (look 0) (con (.int 0))) (con (.str "head"))) [some (.sh (tOf (.ok h))),some (.sh (dOf (.ok h))),none,none]=ok false:=aA4 (aAs (x:= .str "head") (aAs rfl rfl (aAw (j:=0) rfl)) rfl (by show ok (D.bl (!decide (("head":Str)="head")))=_;rw[decide_eq_true rfl];rfl));have x1:b2 gIx (look 0) (con (.int 1)) [some (.sh (tOf (.ok h))),some (.sh (dOf (.ok h))),none,none]=ok (tS h):=aAs rfl rfl (aAw (j:=1) rfl);have c3:aZb (test (isi "tuple" (b2 gIx (look 0) (con (.int 1))))) [some (.sh (tOf (.ok h))),some (.sh (dOf (.ok h))),none,none]=ok false:=aRb (aQg (d:= .bl true) (by unfold isi;rw[x1];rfl) rfl);rw[aBh (aWw c2 c3)];obtain⟨o3,hlp⟩:=aPo (a:=tOf (.ok h)) (b:=dOf (.ok h)) h none none;have s1:aM4 (b2 gIx (look 0) (con (.int 1))) (gN 3) (aAk (sIf (aZb (test (isi "str" (look 3)))) (aAk (aBw (con (.bl false)))
    aAr) aAr)
    aAr) [some (.sh (tOf (.ok h))),some (.sh (dOf (.ok h))),none,none]=some (.nx [some (.sh (tOf (.ok h))),some (.sh (dOf (.ok h))),none,so o3]):=by
   rw[aQs x1 rfl,if_pos (aHr h)];exact hlp
  rw[aAj s1,aE9];exact aAs (aAs rfl rfl (aAw (j:=1) rfl)) (aAs rfl rfl (aAw (j:=1) rfl)) (bOc h)
theorem aTi: ∀(hs r:Hs),(∀p∈hs,r.lookup p.1=some p.2)->aYi (hK r) (hK hs)=some true
 | [],_,_=>rfl
 |(m,h)::hs,r,H=>by
  have e1:=H (m,h) Qq;show (match aQe (hK r) (.inr m) with
   | none=>some false
   | some e=>match eqN 8 (tS h) e,aYi (hK r) (hK hs) with | some a,some b=>some (a&&b) | _,_=>none)=some true
  rw[aSe,e1,aTi hs r (fun p hp=>H p (Qm _ hp))];show (match eqN 8 (tS h) (tS h),some true with | some a,some b=>some (a&&b) | _,_=>none)=some true;have:eqN 8 (tS h) (tS h)=some true:=aNx (f:=eqN 7) (fun x=>by unfold eqN;simp) h;rw[this];rfl
theorem ne_self (ho:HOK hs):aOx (hD hs) (hD hs)=ok (.bl false):=by
 show (match bLe (hK hs) (hK hs) with | some b=>ok (D.bl (!b)) | none=>none)=_;have:bLe (hK hs) (hK hs)=some true:=by
  unfold bLe;rw[if_pos rfl];exact aTi hs hs fun p hp=>aNl ho.nd hp
 rw[this];rfl
end
abbrev lI (ns:List Int):D:= .lst (ns.map D.int)
abbrev lS (xs:List Str):D:= .lst (xs.map D.str)
theorem bHu {α:Type}{k:Nat}{ft:Rho->M Bool}{fe:Rho->M D}{ρ:Rho}{e:α->D}{g:α->D}: ∀(l:List α),(∀x∈l,ft (ρ.set k (some (.sh (e x))))=ok true)->(∀x∈l,fe (ρ.set k (some (.sh (e x))))=ok (g x)/\(g x).imm=true)->
  aJ3 [k] h1 ft fe (l.map e) ρ=ok (l.map g)
 | [],_,_=>rfl
 | x::l,h1',h2'=>by
  have ih:=bHu (g:=g) l (fun y hy=>h1' y (Qm _ hy)) (fun y hy=>h2' y (Qm _ hy));have e1:=h1' x Qq;obtain⟨e2,e3⟩:=h2' x Qq;rw[Q4];unfold aJ3;show (match ft (ρ.set k (some (.sh (e x)))) with
   | some (.ok true)=>(match fe (ρ.set k (some (.sh (e x)))) with
    | some (.ok r)=>if r.imm=true then bnd (aJ3 [k] h1 ft fe (l.map e) ρ) fun rs=>ok (r::rs) else none
    | _=>none)
   | some (.ok false)=>aJ3 [k] h1 ft fe (l.map e) ρ
   | _=>none)=_
  rw[e1,ih,e2];show (if (g x).imm=true then bnd (ok (l.map g)) fun rs=>ok (g x::rs) else none)=_;rw[if_pos e3];rfl
theorem bKu {m k n:Nat}{fi fe:Rho->M D}{ρ:Rho}{g:Nat->Str}(hi:fi ρ=ok (.int (n:Int)))(hn:n<=1000)
  (h2': ∀j<n,fe ((ext m (free ρ)).set k (some (.sh (.int (j:Int)))))=ok (.str (g j))):
  cmp m (itR fi) [k] h1 (fun _=>ok true) fe ρ=ok (lS ((Zj n).map g)):=by
 unfold cmp itR;rw[hi,aBj];have e1:bOu (.int (n:Int))=ok ((Zj n).map fun j:Nat=>D.int (j:Int)):=by
  unfold bOu
  dsimp only
  rw[if_pos (by constructor<;>omega),Zh];unfold rng
  congr 2
  funext j
  rw[Int.zero_add]
 rw[e1,aBj,if_pos (by rw[Qi,Zw];omega),bHu (g:=fun j=>D.str (g j)) _ (fun _ _=>rfl) (fun j hj=>⟨h2' j (List.mem_range.mp hj),rfl⟩),aBj];show _=ok (D.lst (((Zj n).map g).map D.str));rw[Yu];rfl
def aKp (t:Adr):List D->M D:=aH1 2 fun ds=>aA0 (aE6 t (aBu aIy ds))
def aC1 (t:Adr):List D->M D:=aH1 3 fun ds=>aA0 (aGc t (aBu aIx ds))
theorem bKw (t:Adr)(ns:List Int){k:Nat}(hk:k<=1000): ∃c:Int,aKp t [lI ns,.int (k:Int)]=ok (.int c):=by
 have e0:aBu aIy [lI ns,.int (k:Int)]=[some (.sh (lI ns)),some (.sh (.int (k:Int)))]:=rfl;have m1:b2 aD5 (con (.int 1009)) (look 1) [some (.sh (lI ns)),some (.sh (.int (k:Int)))]=ok (.int (1009*(k:Int))):=aWz (i:=1009) (j:=(k:Int)) rfl rfl (aMp (by omega) (by omega) (by omega) (by omega));have t1:aAm (b2 gLt (look 1) (f1 aJb (look 0))) [some (.sh (lI ns)),some (.sh (.int (k:Int)))]=ok (decide (k<ns.length)):=by
  refine aA4 (aAs (x:= .int (k:Int)) (y:= .int (ns.length:Int)) rfl ?_ ?_)
  ·show ok (D.int ((ns.map D.int).length:Int))=_
   rw[Qi]
  ·show ok (D.bl (decide ((k:Int)<(ns.length:Int))))=_
   rw[decide_eq_decide.mpr (show ((k:Int)<(ns.length:Int))↔k<ns.length by omega)]
 by_cases h:k<ns.length
 ·rw[decide_eq_true h] at t1
  have i1:b2 gIx (look 0) (look 1) [some (.sh (lI ns)),some (.sh (.int (k:Int)))]=ok (.int ns[k]):=aAs rfl rfl (aHq (j:=k) (by rw[Zm,Qj h];rfl));refine⟨ns[k]+1009*(k:Int),aA9 rfl ?_⟩;rw[e0];unfold aE6;rw[aCn t1];exact aJf i1 m1
 ·rw[decide_eq_false h] at t1
  refine⟨1009*(k:Int),aA9 rfl ?_⟩;rw[e0];unfold aE6;rw[aBh t1,aE9];exact m1
theorem bKn (t:Adr)(c:Int){tr m:Nat}(ht:tr<=100)(hm:0<m): ∃j:Nat,j<m/\aC1 t [.int c,.int (tr:Int),.int (m:Int)]=ok (.int (j:Int)):=by
 have e0:aBu aIx [.int c,.int (tr:Int),.int (m:Int)]=[some (.sh (.int c)),some (.sh (.int (tr:Int))),some (.sh (.int (m:Int)))]:=rfl;have hq:715225739*(tr:Int)*(tr:Int)<=715225739*100*100/\0<=715225739*(tr:Int)*(tr:Int):=by
  have h1:(tr:Int)*(tr:Int)<=100*100:=Int.mul_le_mul (by omega) (by omega) (by omega) (by omega);have h2:0<=(tr:Int)*(tr:Int):=Int.mul_nonneg (by omega) (by omega);rw[Int.mul_assoc];omega
 have m1:b2 aD5 (b2 aD5 (con (.int 715225739)) (look 1)) (look 1) [some (.sh (.int c)),some (.sh (.int (tr:Int))),some (.sh (.int (m:Int)))]=ok (.int (715225739*(tr:Int)*(tr:Int))):=
  aWz (aWz (i:=715225739) (j:=(tr:Int)) rfl rfl (aMp (by omega) (by omega) (by omega) (by omega))) (j:=(tr:Int)) rfl (aMp (by omega) (by omega) (by omega) (by omega))
 have m2:=aJf (f:=con (.int 1327217885)) (i:=1327217885) rfl m1;have m3:b2 aTq (b2 aCc (look 0) (con (.int 7))) (b2 aCc (con (.int 1327217885)) (b2 aD5 (b2 aD5 (con (.int 715225739)) (look 1)) (look 1))) [some (.sh (.int c)),some (.sh (.int (tr:Int))),some (.sh (.int (m:Int)))]=ok (.int ((c+7)*(1327217885+715225739*(tr:Int)*(tr:Int)))):=by
  refine aAs (aJf (i:=c) (j:=7) rfl rfl) m2 ?_;unfold aTq
  dsimp only
  rw[if_pos (by constructor<;>omega)]
 have m4:=aW0 (aW0 m3 (j:=2147483629) (g:=con (.int 2147483629)) rfl (by decide)) (g:=look 2) (j:=(m:Int)) rfl (by omega);generalize (c+7)*(1327217885+715225739*(tr:Int)*(tr:Int))%2147483629=z at m4;have z0:0<=z%(m:Int):=Int.emod_nonneg _ (by omega);have z1:z%(m:Int)<(m:Int):=Int.emod_lt_of_pos _ (by omega);refine⟨(z%(m:Int)).toNat,by omega,aA9 rfl ?_⟩;rw[e0];unfold aGc;rw[aE9,m4,show (((z%(m:Int)).toNat:Nat):Int)=z%(m:Int) by omega]
section
variable {t:Adr}{f g h:Rho->M D}{ρ:Rho}
theorem aIm {ns:List Int}{k:Nat}(hk:k<=1000)(h1:f ρ=ok (lI ns))(h2:g ρ=ok (.int (k:Int))): ∃c:Int,app (aKp t) (aAb f (aAb g aAn)) ρ=ok (.int c):=by
 obtain⟨c,hc⟩:=bKw t ns hk;exact⟨c,(aBk (aAf h1 (aAf h2 aBq))).trans hc⟩
theorem aGq {c:Int}{tr m:Nat}(ht:tr<=100)(hm:0<m)(h1:f ρ=ok (.int c))(h2:g ρ=ok (.int (tr:Int)))(h3:h ρ=ok (.int (m:Int))): ∃j:Nat,j<m/\app (aC1 t) (aAb f (aAb g (aAb h aAn))) ρ=ok (.int (j:Int)):=by
 obtain⟨j,hj,hd⟩:=bKn t c ht hm;exact⟨j,hj,(aBk (aAf h1 (aAf h2 (aAf h3 aBq)))).trans hd⟩
theorem aGw {x:List Str}{i:Nat}(h1:f ρ=ok (lS x)\/f ρ=ok (tS x))(h2:g ρ=ok (.int (i:Int)))(hi:i<x.length):b2 gIx f g ρ=ok (.str x[i]):=by
 have e:(x.map D.str)[i]? =some (.str x[i]):=by rw[Zm,Qj hi];rfl
 rcases h1 with h1 | h1
 ·exact aAs h1 h2 (aHq e)
 ·exact aAs h1 h2 (aAw e)
end
theorem bLt {s:Str}(h: ∀c∈L s,c<16^8)(hl:s.length<=100):Sh s:=by
 have:=PySem.StrLaws.reprText_len s h;unfold Sh;omega
def al2:Str:="aA bB.1~0!_-"
def ch2 (i:Nat):Str:=⟨#[(L al2).getD i 0]⟩
theorem bC2:(L al2).length=12:=by decide+kernel
theorem bOn: ∀c∈L al2,c<16^8:=by decide+kernel
theorem bHv {i:Nat}(h:i<12):(L al2)[i]? =some ((L al2).getD i 0):=by
 have h':i<(L al2).length:=by rw[bC2];exact h
 rw[Wp,Qj h'];rfl
def w2w (a j:Nat):Str:=aFa "m-m" none (some (a:Int))++ch2 j++aFa "m-m" (some (a:Int)) none
theorem bSz {z:Str}{f:Rho->M D}{i:Int}{ρ:Rho}(hz:z.length<=1000)(hf:f ρ=ok (.int i)):aMt (con (.str z)) aFq (aFe f) ρ=ok (.str (aFa z none (some i)))/\aMt (con (.str z)) (aFe f) aFq ρ=ok (.str (aFa z (some i) none)):=by
 unfold aMt aFe aFq con;rw[hf];simp only[aBj];refine⟨?_,?_⟩
 ·show (if z.length<=1000 then ok (D.str (aFa z none (some i))) else none)=_
  rw[if_pos hz]
 ·show (if z.length<=1000 then ok (D.str (aFa z (some i) none)) else none)=_
  rw[if_pos hz]
theorem bMg {f g:Rho->M D}{x y:Str}{ρ:Rho}(hx:x.length<=1000)(hy:y.length<=1000)(hf:f ρ=ok (.str x))(hg:g ρ=ok (.str y)):b2 aCc f g ρ=ok (.str (x++y)):=by
 refine aAs hf hg ?_;show (if x.length+y.length<=100000 then ok (D.str (x++y)) else none)=_;rw[if_pos (by omega)]
def bB5 (t:Adr):List D->M D:=aH1 2 fun ds=>aA0 (aEb t (aC1 t) (aBu aHf ds))
theorem aWd (t:Adr)(c:Int){n:Nat}(hn:n<=12): ∃ws:List Str,bB5 t [.int c,.int (n:Int)]=ok (lS ws)/\ws.length=n/\∀w∈ws,Sh w:=by
 have e0:aBu aHf [.int c,.int (n:Int)]=[some (.sh (.int c)),some (.sh (.int (n:Int))),none]:=rfl;have l1:(("m-m":Str)).length=3:=by decide+kernel
 have l2:(("x":Str)).length=1:=by decide+kernel
 have z1: ∀c∈L "m-m",c<16^8:=by decide+kernel
 have z2: ∀c∈L "x",c<16^8:=by decide+kernel
 obtain⟨j,hj,dj⟩:=aGq (t:=t) (f:=look 0) (g:=con (.int 1)) (h:=con (.int 3)) (ρ:=[some (.sh (.int c)),some (.sh (.int (n:Int))),none]) (c:=c) (tr:=1) (m:=3) (by decide) (by decide) rfl rfl rfl;have t1:=aA4 (aTt (g:=con (.int 0)) (j:=0) dj rfl);by_cases h0:(j:Int)=0
 ·rw[decide_eq_true h0] at t1
  refine⟨(Zj n).map fun k=>aUu "x" k,aA9 rfl ?_,by rw[Qi,Zw],fun w hw=> ?_⟩
  ·rw[e0]
   unfold aEb;rw[aCn t1];refine bKu (g:=fun k=>aUu "x" k) rfl (by omega) fun k hk=> ?_
   refine aAs (x:= .str "x") (y:= .int (k:Int)) rfl rfl ?_;show (if 0<=(k:Int)/\(("x":Str)).length<=1000/\(k:Int)<=1000 then ok (D.str (aUu "x" (k:Int).toNat)) else none)=_;rw[if_pos ⟨by omega,by rw[l2];decide,by omega⟩,Zh]
  ·obtain⟨k,hk,rfl⟩:=List.mem_map.mp hw
   have:=List.mem_range.mp hk;exact bLt (fun c hc=>z2 c (bQ4 _ _ c hc)) (by rw[bAa,l2];omega)
 ·rw[decide_eq_false h0] at t1
  obtain⟨a,ha,da⟩:=aGq (t:=t) (f:=look 0) (g:=con (.int 2)) (h:=con (.int 4)) (ρ:=[some (.sh (.int c)),some (.sh (.int (n:Int))),none]) (c:=c) (tr:=2) (m:=4) (by decide) (by decide) rfl rfl rfl;refine⟨(Zj n).map fun k=>w2w a k,aA9 rfl ?_,by rw[Qi,Zw],fun w hw=> ?_⟩
  ·rw[e0]
   unfold aEb;rw[aBh t1,aAj (aAz da rfl)];show aA0 (aAk (aBw _) aAr [some (.sh (.int c)),some (.sh (.int (n:Int))),some (.sh (.int (a:Int)))])=_;rw[aE9];refine bKu (g:=fun k=>w2w a k) rfl (by omega) fun k hk=> ?_
   show _=ok (D.str (w2w a k));have i1:b2 gIx (con (.str "aA bB.1~0!_-")) (look 3) [some (.sh (.int c)),some (.sh (.int (n:Int))),some (.sh (.int (a:Int))),some (.sh (.int (k:Int)))]=ok (.str (ch2 k)):=by
    refine aAs (x:= .str al2) (y:= .int (k:Int)) rfl rfl ?_;show (if al2.length<=1000 then (match atI (L al2) (k:Int) with | some c=>ok (D.str ⟨#[c]⟩) | none=>none) else none)=_;rw[if_pos (by rw[bJu,bC2];decide),aN0 (bHv (by omega))];rfl
   obtain⟨c1,c2⟩:=bSz (z:="m-m") (f:=look 2) (i:=(a:Int)) (ρ:=[some (.sh (.int c)),some (.sh (.int (n:Int))),some (.sh (.int (a:Int))),some (.sh (.int (k:Int)))]) (by rw[l1];decide) rfl;have y1:=aRy "m-m" none (some (a:Int));have y2:=aRy "m-m" (some (a:Int)) none;have y3:(ch2 k).length=1:=rfl;exact bMg (by rw[len_app];omega) (by omega) (bMg (by omega) (by omega) c1 i1) c2
  ·obtain⟨k,hk,rfl⟩:=List.mem_map.mp hw
   have hk2:=List.mem_range.mp hk;have y1:=aRy "m-m" none (some (a:Int));have y2:=aRy "m-m" (some (a:Int)) none;have y3:(ch2 k).length=1:=rfl;refine bLt (fun c hc=> ?_) (by unfold w2w;rw[len_app,len_app];omega);unfold w2w at hc;rw[bOr,bOr] at hc;rcases List.mem_append.mp hc with hc | hc
   ·rcases List.mem_append.mp hc with hc | hc
    ·exact z1 c (bOq _ _ _ c hc)
    ·have e:c=(L al2).getD k 0:=by simpa[ch2] using hc
     exact bOn c (by rw[e];exact Zx (bHv (by omega)))
   ·exact z1 c (bOq _ _ _ c hc)
def bKh (t:Adr):List D->M D:=aH1 2 fun ds=>aA0 (aC7 t (aC1 t) (aBu aFj ds))
theorem bGs (t:Adr){h:List Str}(c:Int)(hz:h.length<=20): ∃h':List Str,bKh t [tS h,.int c]=ok (tS h')/\h'.length=h.length/\∀x∈h',x∈h:=by
 have e0:aBu aFj [tS h,.int c]=[some (.sh (tS h)),some (.sh (.int c)),none]:=rfl;have ln: ∀o,f1 aJb (look 0) [some (.sh (tS h)),some (.sh (.int c)),o]=ok (.int (h.length:Int)):=fun o=>bA9 (x:=h) rfl
 have t1:=aA4 (aTt (g:=con (.int 0)) (j:=0) (ln none) rfl);by_cases h0:(h.length:Int)=0
 ·rw[decide_eq_true h0] at t1
  refine⟨h,aA9 rfl ?_,rfl,fun x hx=>hx⟩;rw[e0];unfold aC7;rw[aCn t1];rfl
 ·rw[decide_eq_false h0] at t1
  obtain⟨a,ha,da⟩:=aGq (t:=t) (f:=look 1) (g:=con (.int 21)) (c:=c) (tr:=21) (m:=h.length) (by decide) (by omega) rfl rfl (ln none);refine⟨h.drop a++h.take a,aA9 rfl ?_,by rw[Ql,Z5,Za];omega,fun x hx=> ?_⟩
  ·rw[e0]
   unfold aC7;rw[aBh t1,aAj (aAz da rfl)];show aA0 (aAk (aBw _) aAr [some (.sh (tS h)),some (.sh (.int c)),some (.sh (.int (a:Int)))])=_;rw[aE9];exact bOm (aYv (x:=h) (j:=a) rfl rfl (by omega)) (bF1 (x:=h) (j:=a) rfl rfl (by omega)) (by rw[Z5];omega) (by rw[Za];omega)
  ·rcases List.mem_append.mp hx with hx | hx
   ·exact W6 hx
   ·exact J7 hx
def aHc (t:Adr):List D->M D:=aH1 4 fun ds=>aA0 (aDr t (aC1 t) (aBu aGg ds))
theorem bCm (t:Adr){h six:List Str}(c:Int){tr:Nat}(ht:tr<=90)(hl:six.length=6)(h1: ∀x∈h,Sh x)(h2: ∀x∈six,Sh x): ∃x:Str,aHc t [.int c,.int (tr:Int),tS h,lS six]=ok (.str x)/\Sh x:=by
 have e0:aBu aGg [.int c,.int (tr:Int),tS h,lS six]=[some (.sh (.int c)),some (.sh (.int (tr:Int))),some (.sh (tS h)),some (.sh (lS six))]:=rfl;obtain⟨ρ,hρ⟩: ∃ρ:Rho,ρ=[some (.sh (.int c)),some (.sh (.int (tr:Int))),some (.sh (tS h)),some (.sh (lS six))]:=⟨_,rfl⟩;rw[<-hρ] at e0;have l0:look 0 ρ=ok (.int c):=by rw[hρ];rfl
 have l1:look 1 ρ=ok (.int (tr:Int)):=by rw[hρ];rfl
 have l2:look 2 ρ=ok (tS h):=by rw[hρ];rfl
 have l3:look 3 ρ=ok (lS six):=by rw[hρ];rfl
 have ln:f1 aJb (look 2) ρ=ok (.int (h.length:Int)):=bA9 l2;have p1: ∀k:Nat,b2 aCc (look 1) (con (.int (k:Int))) ρ=ok (.int ((tr+k:Nat):Int)):=fun k=>(aJf l1 (g:=con (.int (k:Int))) (j:=(k:Int)) rfl).trans (by rw[Jx])
 obtain⟨j,hj,dj⟩:=aGq (t:=t) (h:=con (.int 4)) (m:=4) (by omega) (by decide) l0 l1 rfl;have t1:=aN2 (aA4 (bBx (g:=con (.int 0)) (j:=0) ln rfl)) (aA4 (bBx (g:=con (.int 0)) (j:=0) dj rfl));cases hb:(decide ((0:Int)<(h.length:Int))&&decide ((0:Int)<(j:Int))) with
 | true=>
  rw[hb] at t1;rw[Qw,decide_eq_true_eq] at hb;obtain⟨a,ha,da⟩:=aGq (t:=t) (m:=h.length) (by omega) (by omega) l0 (p1 1) ln;refine⟨h[a],aA9 rfl ?_,h1 _ (Zu ha)⟩;rw[e0];unfold aDr;rw[aCn t1];exact aGw (.inr l2) da ha
 | false=>
  rw[hb] at t1;obtain⟨a,ha,da⟩:=aGq (t:=t) (h:=con (.int 6)) (m:=6) (by omega) (by omega) l0 (p1 2) rfl;refine⟨six[a],aA9 rfl ?_,h2 _ (Zu _)⟩;rw[e0];unfold aDr;rw[aBh t1,aE9];exact aGw (.inl l3) da (by omega)
theorem bCn {t:Adr}{f g u v:Rho->M D}{ρ:Rho}{h six:List Str}{c:Int}{tr:Nat}(ht:tr<=90)(hl:six.length=6)(h1: ∀x∈h,Sh x)(h2: ∀x∈six,Sh x)(q1:f ρ=ok (.int c))(q2:g ρ=ok (.int (tr:Int)))(q3:u ρ=ok (tS h))(q4:v ρ=ok (lS six)):
  ∃x:Str,Sh x/\app (aHc t) (aAb f (aAb g (aAb u (aAb v aAn)))) ρ=ok (.str x):=by
 obtain⟨x,hx,hs⟩:=bCm t c ht hl h1 h2;exact⟨x,hs,(aBk (aAf q1 (aAf q2 (aAf q3 (aAf q4 aBq))))).trans hx⟩
def bKg (t:Adr):List D->M D:=aH1 3 fun ds=>aA0 (aE5 t (aC1 t) (bKh t) (aBu aIw ds))
theorem bIa (t:Adr){h six:List Str}(c:Int)(hz:h.length<=20)(hl:six.length=6)(h1: ∀x∈h,Sh x)(h2: ∀x∈six,Sh x): ∃cs:List Str,bKg t [.int c,tS h,lS six]=ok (tS cs)/\cs.length<=30/\∀x∈cs,Sh x:=by
 have e0:aBu aIw [.int c,tS h,lS six]=[some (.sh (.int c)),some (.sh (tS h)),some (.sh (lS six)),none,none,none]:=rfl;obtain⟨r,hr,hrl,hrs⟩:=bGs t (h:=h) c hz;have s1:aZ1 3 (app (bKh t) (aAb (look 1) (aAb (look 0) aAn))) [some (.sh (.int c)),some (.sh (tS h)),some (.sh (lS six)),none,none,none]=some (.nx [some (.sh (.int c)),some (.sh (tS h)),some (.sh (lS six)),some (.own (r.map D.str)),none,none]):=by
  unfold aZ1;rw[(aBk (aAf (d:=tS h) rfl (aAf (d:= .int c) rfl aBq))).trans hr,aDq];show (if aCo (r.map D.str)=true/\(r.map D.str).length<=1000 then _ else none)=_;rw[if_pos ⟨aIh r,by rw[Qi];omega⟩];rfl
 obtain⟨w,hw,dw⟩:=aGq (t:=t) (f:=look 0) (g:=con (.int 33)) (h:=con (.int 4)) (ρ:=[some (.sh (.int c)),some (.sh (tS h)),some (.sh (lS six)),some (.own (r.map D.str)),none,none]) (c:=c) (tr:=33) (m:=4) (by decide) (by decide) rfl rfl rfl;have ln:b2 aCc (f1 aJb (look 3)) (con (.int 1)) [some (.sh (.int c)),some (.sh (tS h)),some (.sh (lS six)),some (.own (r.map D.str)),some (.sh (.int (w:Int))),none]=ok (.int ((r.length+1:Nat):Int)):=by
  refine (aJf (i:=(r.length:Int)) (j:=1) ?_ rfl).trans (by rw[Jx];rfl);show ok (D.int ((r.map D.str).length:Int))=_;rw[Qi]
 obtain⟨a,ha,da⟩:=aGq (t:=t) (f:=look 0) (g:=con (.int 34)) (c:=c) (tr:=34) (m:=r.length+1) (by decide) (by omega) rfl rfl ln;obtain⟨b,hb,db⟩:=aGq (t:=t) (f:=look 0) (g:=con (.int 35)) (h:=con (.int 6)) (ρ:=[some (.sh (.int c)),some (.sh (tS h)),some (.sh (lS six)),some (.own (r.map D.str)),some (.sh (.int (w:Int))),some (.sh (.int (a:Int)))]) (c:=c) (tr:=35) (m:=6) (by decide) (by decide) rfl rfl rfl;have ib:b<six.length:=by omega
 have i1:=aGw (f:=look 2) (x:=six) (.inl rfl) db ib;have hrz:r.length<=20:=by omega
 have hra: ∀x∈r,Sh x:=fun x hx=>h1 x (hrs x hx)
 obtain⟨r1,z1,z2,z3⟩: ∃r1:List Str,r1.length<=21/\(∀x∈r1,Sh x)/\sIf (aAm (b2 gEq (look 4) (con (.int 0)))) (aAk (aQr bE4 3 (aAb (look 5) (aAb (b2 gIx (look 2) (app (aC1 t) (aAb (look 0) (aAb (con (.int 35)) (aAb (con (.int 6)) aAn))))) aAn)))
   aAr) aAr [some (.sh (.int c)),some (.sh (tS h)),some (.sh (lS six)),some (.own (r.map D.str)),some (.sh (.int (w:Int))),some (.sh (.int (a:Int)))]=some (.nx [some (.sh (.int c)),some (.sh (tS h)),some (.sh (lS six)),some (.own (r1.map D.str)),some (.sh (.int (w:Int))),some (.sh (.int (a:Int)))]):=by
  have t1:=aA4 (aTt (f:=look 4) (g:=con (.int 0)) (ρ:=[some (.sh (.int c)),some (.sh (tS h)),some (.sh (lS six)),some (.own (r.map D.str)),some (.sh (.int (w:Int))),some (.sh (.int (a:Int)))]) (i:=(w:Int)) (j:=0) rfl rfl);by_cases h0:(w:Int)=0
  ·rw[decide_eq_true h0] at t1
   refine⟨aUe r (min a r.length) six[b],?_,fun x hx=> ?_,?_⟩
   ·rw[(aTg r _ _).length_eq,Zc];omega
   ·rcases List.mem_cons.mp ((aTg r _ _).mem_iff.mp hx) with rfl | hx
    ·exact h2 _ (Zu ib)
    ·exact hra x hx
   ·rw[aDo t1]
    have s2:aQr bE4 3 (aAb (look 5) (aAb (b2 gIx (look 2) (app (aC1 t) (aAb (look 0) (aAb (con (.int 35)) (aAb (con (.int 6)) aAn))))) aAn)) [some (.sh (.int c)),some (.sh (tS h)),some (.sh (lS six)),some (.own (r.map D.str)),some (.sh (.int (w:Int))),some (.sh (.int (a:Int)))]=some (.nx [some (.sh (.int c)),some (.sh (tS h)),some (.sh (lS six)),some (.own ((aUe r (min a r.length) six[b]).map D.str)),some (.sh (.int (w:Int))),some (.sh (.int (a:Int)))]):=by
     unfold aQr;show lft (aAb (look 5) (aAb (b2 gIx (look 2) (app (aC1 t) (aAb (look 0) (aAb (con (.int 35)) (aAb (con (.int 6)) aAn))))) aAn) _) _ _=_;rw[aAf (d:= .int (a:Int)) rfl (aAf i1 aBq),aDq];show (if aCo [D.int (a:Int),D.str six[b]]=true/\(r.map D.str).length<100000 then (match bE4 (r.map D.str) [D.int (a:Int),D.str six[b]] with | some ds'=>_ | none=>none) else none)=_;rw[if_pos ⟨rfl,by rw[Qi];omega⟩];have e1:bE4 (r.map D.str) [D.int (a:Int),D.str six[b]]=some ((aUe r (min a r.length) six[b]).map D.str):=by
      show (if 0<=(a:Int)/\(a:Int)<=100000 then some (aUe (r.map D.str) (min (a:Int).toNat (r.map D.str).length) (D.str six[b])) else none)=_;rw[if_pos ⟨by omega,by omega⟩,Zh,Qi,bFa]
     rw[e1];rfl
    exact (aAj s2).trans rfl
  ·rw[decide_eq_false h0] at t1
   exact⟨r,by omega,hra,(aJo t1).trans rfl⟩
 have t2:=aA4 (aTt (f:=look 4) (g:=con (.int 1)) (ρ:=[some (.sh (.int c)),some (.sh (tS h)),some (.sh (lS six)),some (.own (r1.map D.str)),some (.sh (.int (w:Int))),some (.sh (.int (a:Int)))]) (i:=(w:Int)) (j:=1) rfl rfl);have pre: ∀{F:Rho->Option Out} {m:M D},aA0 (F [some (.sh (.int c)),some (.sh (tS h)),some (.sh (lS six)),some (.own (r1.map D.str)),some (.sh (.int (w:Int))),some (.sh (.int (a:Int)))])=m->aA0 (aAk (aZ1 3 (app (bKh t) (aAb (look 1) (aAb (look 0) aAn))))
   (aAk (aB6 4 (app (aC1 t) (aAb (look 0) (aAb (con (.int 33)) (aAb (con (.int 4)) aAn)))))
   (aAk (aB6 5 (app (aC1 t) (aAb (look 0) (aAb (con (.int 34)) (aAb (b2 aCc (f1 aJb (look 3)) (con (.int 1))) aAn)))))
   (aAk (sIf (aAm (b2 gEq (look 4) (con (.int 0)))) (aAk (aQr bE4 3 (aAb (look 5) (aAb (b2 gIx (look 2) (app (aC1 t) (aAb (look 0) (aAb (con (.int 35)) (aAb (con (.int 6)) aAn))))) aAn)))
   aAr) aAr) F))) [some (.sh (.int c)),some (.sh (tS h)),some (.sh (lS six)),none,none,none])=m:=fun {F m} hm=>by
  rw[aAj s1,aAj (aAz dw rfl)];show aA0 (aAk _ _ [some (.sh (.int c)),some (.sh (tS h)),some (.sh (lS six)),some (.own (r.map D.str)),some (.sh (.int (w:Int))),none])=_;rw[aAj (aAz da rfl)];show aA0 (aAk _ _ [some (.sh (.int c)),some (.sh (tS h)),some (.sh (lS six)),some (.own (r.map D.str)),some (.sh (.int (w:Int))),some (.sh (.int (a:Int)))])=_;rw[aAj z3];exact hm
 by_cases h0:(w:Int)=1
 ·rw[decide_eq_true h0] at t2
  have c1:aMt (look 3) aFq (aFe (look 5)) [some (.sh (.int c)),some (.sh (tS h)),some (.sh (lS six)),some (.own (r1.map D.str)),some (.sh (.int (w:Int))),some (.sh (.int (a:Int)))]=ok (lS (r1.take (min a r1.length))):=by
   show ok (D.lst (L2.PU.cutD (r1.map D.str) none (some (a:Int))))=_;unfold L2.PU.cutD;rw[HT.aKd,HT.aM3,U4,Ud,Qi,<-Wb]
  refine⟨r1.take (min a r1.length),aA9 rfl ?_,by rw[Za];omega,fun x hx=>z2 x (J7 hx)⟩;rw[e0];unfold aE5;refine pre ?_;have s3:aB6 3 (aMt (look 3) aFq (aFe (look 5))) [some (.sh (.int c)),some (.sh (tS h)),some (.sh (lS six)),some (.own (r1.map D.str)),some (.sh (.int (w:Int))),some (.sh (.int (a:Int)))]=some (.nx [some (.sh (.int c)),some (.sh (tS h)),some (.sh (lS six)),some (.sh (lS (r1.take (min a r1.length)))),some (.sh (.int (w:Int))),some (.sh (.int (a:Int)))]):=by
   unfold aB6;rw[c1,aDq];rfl
  rw[aAj ((aDo t2).trans ((aAj s3).trans rfl)),aE9];rfl
 ·rw[decide_eq_false h0] at t2
  refine⟨r1,aA9 rfl ?_,by omega,z2⟩;rw[e0];unfold aE5;refine pre ?_;rw[aBh t2,aE9];rfl
def bFp (t:Adr):List D->M D:=aH1 4 fun ds=>aA0 (aCb t (aHc t) (aC1 t) (bKg t) (aBu aEz ds))
theorem aNy {t:Adr}{f g h:Rho->M D}{ρ:Rho}{c tr m:Int}(h0:0<=tr/\tr<=100)(hm:0<m)(h1:f ρ=ok (.int c))(h2:g ρ=ok (.int tr))(h3:h ρ=ok (.int m)): ∃j:Nat,(j:Int)<m/\app (aC1 t) (aAb f (aAb g (aAb h aAn))) ρ=ok (.int (j:Int)):=by
 obtain⟨a,rfl⟩:=Uq h0.1;obtain⟨b,rfl⟩:=Uq (Int.le_of_lt hm);obtain⟨j,hj,e⟩:=aGq (t:=t) (tr:=a) (m:=b) (by omega) (by omega) h1 h2 h3;exact⟨j,by omega,e⟩
theorem bF3 {t:Adr}{f g u v:Rho->M D}{ρ:Rho}{h six:List Str}{c tr:Int}(ht:0<=tr/\tr<=90)(hl:six.length=6)(h1: ∀x∈h,Sh x)(h2: ∀x∈six,Sh x)(q1:f ρ=ok (.int c))(q2:g ρ=ok (.int tr))(q3:u ρ=ok (tS h))(q4:v ρ=ok (lS six)):
  ∃x:Str,Sh x/\app (aHc t) (aAb f (aAb g (aAb u (aAb v aAn)))) ρ=ok (.str x):=by
 obtain⟨a,rfl⟩:=Uq ht.1;exact bCn (tr:=a) (by omega) hl h1 h2 q1 q2 q3 q4
theorem aF7 {j:Int}{k:Int}{f:Rho->M D}{ρ:Rho}(h:f ρ=ok (.int j)):aAm (b2 gEq f (con (.int k))) ρ=ok (decide (j=k)):=aA4 (aTt h rfl)
theorem bHz (t:Adr){n:Str}{h six:List Str}(c:Int)(hn:Sh n)(hz:h.length<=20)(hl:six.length=6)(h1: ∀x∈h,Sh x)(h2: ∀x∈six,Sh x): ∃q:Qn,q.wf/\bFp t [.int c,tbD n,tS h,lS six]=ok q.d:=by
 have e0:aBu aEz [.int c,tbD n,tS h,lS six]=[some (.sh (.int c)),some (.sh (tbD n)),some (.sh (tS h)),some (.sh (lS six)),none,none,none]:=rfl;have col: ∀(tr:Int),(0<=tr/\tr<=90)->∀(o4 o5 o6:Option SV),∃x:Str,Sh x/\app (aHc t) (aAb (look 0) (aAb (con (.int tr)) (aAb (look 2) (aAb (look 3) aAn)))) [some (.sh (.int c)),some (.sh (tbD n)),some (.sh (tS h)),some (.sh (lS six)),o4,o5,o6]=ok (.str x):=fun tr ht o4 o5 o6=>bF3 (c:=c) ht hl h1 h2 rfl rfl rfl rfl
 have drw: ∀(tr:Int),(0<=tr/\tr<=90)->∀(o4 o5 o6:Option SV),∃j:Nat,(j:Int)<3/\app (aC1 t) (aAb (look 0) (aAb (con (.int tr)) (aAb (con (.int 3)) aAn))) [some (.sh (.int c)),some (.sh (tbD n)),some (.sh (tS h)),some (.sh (lS six)),o4,o5,o6]=ok (.int (j:Int)):=fun tr ht o4 o5 o6=>aNy (c:=c) (tr:=tr) (m:=3) ⟨ht.1,by omega⟩ (by decide) rfl rfl rfl
 obtain⟨w,hw,dw⟩:=drw 40 (by decide) none none none;have hs1:=aAz (i:=4) dw rfl;have t0:aAm (b2 gEq (look 4) (con (.int 0))) [some (.sh (.int c)),some (.sh (tbD n)),some (.sh (tS h)),some (.sh (lS six)),some (.sh (.int (w:Int))),none,none]=ok (decide ((w:Int)=0)):=aF7 rfl;have t1:aAm (b2 gEq (look 4) (con (.int 1))) [some (.sh (.int c)),some (.sh (tbD n)),some (.sh (tS h)),some (.sh (lS six)),some (.sh (.int (w:Int))),none,none]=ok (decide ((w:Int)=1)):=aF7 rfl;by_cases w0:(w:Int)=0
 ·rw[decide_eq_true w0] at t0
  obtain⟨x1,s1,d1⟩:=col 41 (by decide) (some (.sh (.int (w:Int)))) none none;have m1:b2 aYq (look 0) (b2 bKb (con (.int 10)) (con (.int 60))) [some (.sh (.int c)),some (.sh (tbD n)),some (.sh (tS h)),some (.sh (lS six)),some (.sh (.int (w:Int))),none,none]=ok (.int (c%(10:Int)^(60:Int).toNat)):=
   aW0 (i:=c) rfl (aAs (x:= .int 10) (y:= .int 60) rfl rfl (by unfold bKb;dsimp only;rw[if_pos ⟨by decide,by decide,by decide⟩])) (by decide)
  generalize c%(10:Int)^(60:Int).toNat=v at m1;have b1:aB6 5 (mkT (aAb (con (.str "is")) (aAb (app (aHc t) (aAb (look 0) (aAb (con (.int 41)) (aAb (look 2) (aAb (look 3) aAn))))) (aAb (b2 aYq (look 0) (b2 bKb (con (.int 10)) (con (.int 60)))) aAn)))) [some (.sh (.int c)),some (.sh (tbD n)),some (.sh (tS h)),some (.sh (lS six)),some (.sh (.int (w:Int))),none,none]=some (.nx [some (.sh (.int c)),some (.sh (tbD n)),some (.sh (tS h)),some (.sh (lS six)),some (.sh (.int (w:Int))),some (.sh (Tst.is x1 (.int v)).d),none]):=
   aAz (d:=(Tst.is x1 (.int v)).d) (aHp (aAf rfl (aAf d1 (aAf m1 aBq)))) rfl
  obtain⟨x2,s2,d2⟩:=col 44 (by decide) (some (.sh (.int (w:Int)))) (some (.sh (Tst.is x1 (.int v)).d)) none;obtain⟨x3,s3,d3⟩:=col 47 (by decide) (some (.sh (.int (w:Int)))) (some (.sh (Tst.is x1 (.int v)).d)) none;have b2':aB6 6 (mkT (aAb (con (.str "same")) (aAb (app (aHc t) (aAb (look 0) (aAb (con (.int 44)) (aAb (look 2) (aAb (look 3) aAn))))) (aAb (app (aHc t) (aAb (look 0) (aAb (con (.int 47)) (aAb (look 2) (aAb (look 3) aAn))))) aAn)))) [some (.sh (.int c)),some (.sh (tbD n)),some (.sh (tS h)),some (.sh (lS six)),some (.sh (.int (w:Int))),some (.sh (Tst.is x1 (.int v)).d),none]=some (.nx [some (.sh (.int c)),some (.sh (tbD n)),some (.sh (tS h)),some (.sh (lS six)),some (.sh (.int (w:Int))),some (.sh (Tst.is x1 (.int v)).d),some (.sh (Tst.same x2 x3).d)]):=
   aAz (d:=(Tst.same x2 x3).d) (aHp (aAf rfl (aAf d2 (aAf d3 aBq)))) rfl
  obtain⟨T1,k1,k2,k3,k4,k5⟩: ∃T1:Tst,T1.wf/\T1.ht<3/\T1.cols.length<=3/\(∀x∈T1.cols,Sh x)/\sIf (aAm (b2 gEq (app (aC1 t) (aAb (look 0) (aAb (con (.int 50)) (aAb (con (.int 3)) aAn)))) (con (.int 0)))) (aAk (aB6 5 (mkT (aAb (con (.str "or")) (aAb (mkT (aAb (con (.str "not")) (aAb (look 6) aAn))) (aAb (look 5) aAn)))))
    aAr) aAr [some (.sh (.int c)),some (.sh (tbD n)),some (.sh (tS h)),some (.sh (lS six)),some (.sh (.int (w:Int))),some (.sh (Tst.is x1 (.int v)).d),some (.sh (Tst.same x2 x3).d)]=some (.nx [some (.sh (.int c)),some (.sh (tbD n)),some (.sh (tS h)),some (.sh (lS six)),some (.sh (.int (w:Int))),some (.sh T1.d),some (.sh (Tst.same x2 x3).d)]):=by
   obtain⟨j,hj,dj⟩:=drw 50 (by decide) (some (.sh (.int (w:Int)))) (some (.sh (Tst.is x1 (.int v)).d)) (some (.sh (Tst.same x2 x3).d));have tj:=aF7 (k:=0) dj;by_cases j0:(j:Int)=0
   ·rw[decide_eq_true j0] at tj
    refine⟨.or (.no (.same x2 x3)) (.is x1 (.int v)),⟨trivial,.inl ⟨_,rfl⟩⟩,by simp only[Tst.ht];omega,by simp[Tst.cols],fun x hx=> ?_,?_⟩
    ·have hx':x∈[x2,x3,x1]:=hx
     simp only[Yb,Z4,or_false] at hx';rcases hx' with rfl | rfl | rfl<;>assumption
    ·rw[aDo tj]
     exact (aAj (aAz (d:=(Tst.or (.no (.same x2 x3)) (.is x1 (.int v))).d) rfl rfl)).trans rfl
   ·rw[decide_eq_false j0] at tj
    exact⟨.is x1 (.int v),.inl ⟨_,rfl⟩,by simp only[Tst.ht];omega,by simp[Tst.cols],fun x hx=>by rw[Tst.cols,Ys] at hx;rw[hx];exact s1,(aJo tj).trans rfl⟩
  obtain⟨T2,hT,k6⟩: ∃T2:Tst,Tok T2/\sIf (aAm (b2 gEq (app (aC1 t) (aAb (look 0) (aAb (con (.int 50)) (aAb (con (.int 3)) aAn)))) (con (.int 1)))) (aAk (aB6 5 (mkT (aAb (con (.str "and")) (aAb (look 5) (aAb (look 6) aAn)))))
    aAr) aAr [some (.sh (.int c)),some (.sh (tbD n)),some (.sh (tS h)),some (.sh (lS six)),some (.sh (.int (w:Int))),some (.sh T1.d),some (.sh (Tst.same x2 x3).d)]=some (.nx [some (.sh (.int c)),some (.sh (tbD n)),some (.sh (tS h)),some (.sh (lS six)),some (.sh (.int (w:Int))),some (.sh T2.d),some (.sh (Tst.same x2 x3).d)]):=by
   obtain⟨j,hj,dj⟩:=drw 50 (by decide) (some (.sh (.int (w:Int)))) (some (.sh T1.d)) (some (.sh (Tst.same x2 x3).d));have tj:=aF7 (k:=1) dj;by_cases j0:(j:Int)=1
   ·rw[decide_eq_true j0] at tj
    have wf2:(Tst.an T1 (.same x2 x3)).wf:=⟨k1,trivial⟩;refine⟨.an T1 (.same x2 x3),⟨wf2,by simp only[Tst.ht];omega,by simp only[Tst.cols,Ql];have:[x2,x3].length=2:=rfl;omega,fun x hx=> ?_⟩,?_⟩
    ·rcases List.mem_append.mp (show x∈T1.cols++ [x2,x3] from hx) with hx | hx
     ·exact k4 x hx
     ·simp only[Yb,Z4,or_false] at hx
      rcases hx with rfl | rfl<;>assumption
    ·rw[aDo tj]
     exact (aAj (aAz (d:=(Tst.an T1 (.same x2 x3)).d) rfl (Tst.imm wf2))).trans rfl
   ·rw[decide_eq_false j0] at tj
    exact⟨T1,⟨k1,by omega,by omega,k4⟩,(aJo tj).trans rfl⟩
  refine⟨.pk T2 n,⟨hT,hn⟩,aA9 rfl ?_⟩;rw[e0];unfold aCb;rw[aAj hs1];show aA0 (aAk _ _ [some (.sh (.int c)),some (.sh (tbD n)),some (.sh (tS h)),some (.sh (lS six)),some (.sh (.int (w:Int))),none,none])=_;rw[aBl ((aDo t0).trans ((aAj b1).trans ((aAj b2').trans ((aAj k5).trans ((aAj k6).trans (aBl (aC0 (d:=(Qn.pk T2 n).d) rfl)))))))];rfl
 ·rw[decide_eq_false w0] at t0
  by_cases w1:(w:Int)=1
  ·rw[decide_eq_true w1] at t1
   obtain⟨cs,g1,g2,g3⟩:=bIa t (h:=h) (six:=six) c hz hl h1 h2;refine⟨.kp cs n,⟨⟨g2,g3⟩,hn⟩,aA9 rfl ?_⟩;rw[e0];unfold aCb;rw[aAj hs1];show aA0 (aAk _ _ [some (.sh (.int c)),some (.sh (tbD n)),some (.sh (tS h)),some (.sh (lS six)),some (.sh (.int (w:Int))),none,none])=_;rw[aBh t0,aCn t1];exact aHp (aAf rfl (aAf ((aBk (aAf (d:= .int c) rfl (aAf (d:=tS h) rfl (aAf (d:=lS six) rfl aBq)))).trans g1) (aAf rfl aBq)))
  ·rw[decide_eq_false w1] at t1
   obtain⟨x1,s1,d1⟩:=col 51 (by decide) (some (.sh (.int (w:Int)))) none none;obtain⟨x2,s2,d2⟩:=col 54 (by decide) (some (.sh (.int (w:Int)))) none none;refine⟨.cl x1 x2 n,⟨s1,s2,hn⟩,aA9 rfl ?_⟩;rw[e0];unfold aCb;rw[aAj hs1];show aA0 (aAk _ _ [some (.sh (.int c)),some (.sh (tbD n)),some (.sh (tS h)),some (.sh (lS six)),some (.sh (.int (w:Int))),none,none])=_;rw[aBh t0,aBh t1,aE9];exact aHp (aAf rfl (aAf d1 (aAf d2 (aAf rfl aBq))))
def aFu (t:Adr):List D->M D:=aH1 5 fun ds=>aA0 (aBt t (aC1 t) (bFp t) (aBu aDs ds))
theorem bQh {f g:Rho->M D}{ρ:Rho}{hs:Hs}{n:Str}(h1:f ρ=ok (hD hs))(h2:g ρ=ok (.str n)):bO1 f g (mkT aAn) ρ=ok (tS ((hs.lookup n).getD [])):=by
 unfold bO1;rw[h1,aBj];show bnd (g ρ) _=_;rw[h2,aBj];show (match aQe (hK hs) (.inr n) with | some v=>ok v | none=>ok (D.tup []))=_;rw[aSe];cases hs.lookup n<;>rfl
theorem aUv (t:Adr){hs:Hs}{ws six:List Str}(c o:Int)(ho:HOK hs)(hw:ws.length=5)(hl:six.length=6)(h1: ∀x∈ws,Sh x)(h2: ∀x∈six,Sh x): ∃q:Qn,q.wf/\aFu t [.int c,.int o,hD hs,lS ws,lS six]=ok q.d:=by
 have e0:aBu aDs [.int c,.int o,hD hs,lS ws,lS six]=[some (.sh (.int c)),some (.sh (.int o)),some (.sh (hD hs)),some (.sh (lS ws)),some (.sh (lS six)),none,none,none,none,none,none]:=rfl;have drw: ∀{f:Rho->M D} {ρ:Rho} {c:Int} (tr m:Int),(0<=tr/\tr<=90)->0<m->f ρ=ok (.int c)->∃j:Nat,(j:Int)<m/\app (aC1 t) (aAb f (aAb (con (.int tr)) (aAb (con (.int m)) aAn))) ρ=ok (.int (j:Int)):=fun {f ρ c} tr m ht hm hf=>aNy (c:=c) (tr:=tr) (m:=m) ⟨ht.1,by omega⟩ hm hf rfl rfl
 obtain⟨w,hw',dw⟩:=drw (f:=look 0) (ρ:=[some (.sh (.int c)),some (.sh (.int o)),some (.sh (hD hs)),some (.sh (lS ws)),some (.sh (lS six)),none,none,none,none,none,none]) 71 3 (by decide) (by decide) rfl;obtain⟨i,hi,di⟩:=drw (f:=look 0) (ρ:=[some (.sh (.int c)),some (.sh (.int o)),some (.sh (hD hs)),some (.sh (lS ws)),some (.sh (lS six)),some (.sh (.int (w:Int))),none,none,none,none,none]) 72 4 (by decide) (by decide) rfl;have ii:i<ws.length:=by omega
 have xi:=aGw (f:=look 3) (x:=ws) (.inl rfl) di ii;have si:=h1 _ (Zu ii);obtain⟨a,ha⟩: ∃a,a=ws[i]:=⟨_,rfl⟩;rw[<-ha] at xi si;obtain⟨j,hj,dj⟩:=drw (f:=look 1) (ρ:=[some (.sh (.int c)),some (.sh (.int o)),some (.sh (hD hs)),some (.sh (lS ws)),some (.sh (lS six)),some (.sh (.int (w:Int))),some (.sh (.str a)),none,none,none,none]) 73 4 (by decide) (by decide) rfl;have ij:j<ws.length:=by omega
 have xj:=aGw (f:=look 3) (x:=ws) (.inl rfl) dj ij;have sj:=h1 _ (Zu ij);obtain⟨b,hb⟩: ∃b,b=ws[j]:=⟨_,rfl⟩;rw[<-hb] at xj sj;obtain⟨ρ,hρ⟩: ∃ρ:Option SV->Option SV->Option SV->Rho,ρ=fun o8 o9 o10=> [some (.sh (.int c)),some (.sh (.int o)),some (.sh (hD hs)),some (.sh (lS ws)),some (.sh (lS six)),some (.sh (.int (w:Int))),some (.sh (.str a)),some (.sh (.str b)),o8,o9,o10]:=⟨_,rfl⟩
 have l0: ∀o8 o9 o10,look 0 (ρ o8 o9 o10)=ok (.int c):=fun _ _ _=>by rw[hρ];rfl
 have l1: ∀o8 o9 o10,look 1 (ρ o8 o9 o10)=ok (.int o):=fun _ _ _=>by rw[hρ];rfl
 have l2: ∀o8 o9 o10,look 2 (ρ o8 o9 o10)=ok (hD hs):=fun _ _ _=>by rw[hρ];rfl
 have l3: ∀o8 o9 o10,look 3 (ρ o8 o9 o10)=ok (lS ws):=fun _ _ _=>by rw[hρ];rfl
 have l4: ∀o8 o9 o10,look 4 (ρ o8 o9 o10)=ok (lS six):=fun _ _ _=>by rw[hρ];rfl
 have l5: ∀o8 o9 o10,look 5 (ρ o8 o9 o10)=ok (.int (w:Int)):=fun _ _ _=>by rw[hρ];rfl
 have l6: ∀o8 o9 o10,look 6 (ρ o8 o9 o10)=ok (.str a):=fun _ _ _=>by rw[hρ];rfl
 have l7: ∀o8 o9 o10,look 7 (ρ o8 o9 o10)=ok (.str b):=fun _ _ _=>by rw[hρ];rfl
 have tb: ∀{f:Rho->M D} {ρ:Rho} {x:Str},f ρ=ok (.str x)->mkT (aAb (con (.str "table")) (aAb f aAn)) ρ=ok (tbD x):=fun hf=>aHp (aAf rfl (aAf hf aBq))
 have pre: ∀{F:Rho->Option Out} {m:M D},aA0 (F (ρ none none none))=m->aA0 (aAk (aB6 5 (app (aC1 t) (aAb (look 0) (aAb (con (.int 71)) (aAb (con (.int 3)) aAn)))))
   (aAk (aB6 6 (b2 gIx (look 3) (app (aC1 t) (aAb (look 0) (aAb (con (.int 72)) (aAb (con (.int 4)) aAn))))))
   (aAk (aB6 7 (b2 gIx (look 3) (app (aC1 t) (aAb (look 1) (aAb (con (.int 73)) (aAb (con (.int 4)) aAn)))))) F)) [some (.sh (.int c)),some (.sh (.int o)),some (.sh (hD hs)),some (.sh (lS ws)),some (.sh (lS six)),none,none,none,none,none,none])=m:=fun {F m} hm=>by
  rw[aAj (aAz dw rfl)];show aA0 (aAk _ _ [some (.sh (.int c)),some (.sh (.int o)),some (.sh (hD hs)),some (.sh (lS ws)),some (.sh (lS six)),some (.sh (.int (w:Int))),none,none,none,none,none])=_;rw[aAj (aAz xi rfl)];show aA0 (aAk _ _ [some (.sh (.int c)),some (.sh (.int o)),some (.sh (hD hs)),some (.sh (lS ws)),some (.sh (lS six)),some (.sh (.int (w:Int))),some (.sh (.str a)),none,none,none,none])=_;rw[aAj (aAz xj rfl)];rw[hρ] at hm;exact hm
 have t0:=aF7 (k:=0) (l5 none none none);have t1:=aF7 (k:=1) (l5 none none none);have fin: ∀{q:Qn},q.wf->aA0 (aBt t (aC1 t) (bFp t) (aBu aDs [.int c,.int o,hD hs,lS ws,lS six]))=ok q.d->∃q:Qn,q.wf/\aFu t [.int c,.int o,hD hs,lS ws,lS six]=ok q.d:=fun {q} hq h=>⟨q,hq,aA9 rfl h⟩
 by_cases w0:(w:Int)=0
 ·rw[decide_eq_true w0] at t0
  obtain⟨z1,z2⟩:((hs.lookup a).getD []).length<=20/\∀x∈(hs.lookup a).getD [],Sh x:=by
   cases e:hs.lookup a with
   | none=>exact⟨by decide,fun x hx=>by cases hx⟩
   | some y=>exact⟨ho.sz _ (lookup_mem e),ho.cl _ (lookup_mem e)⟩
  obtain⟨q,hq,e⟩:=bHz t (n:=a) (h:=(hs.lookup a).getD []) (six:=six) o si z1 hl z2 h2;refine fin hq ?_;rw[e0];unfold aBt;refine pre ?_;rw[aCn t0];exact (aBk (aAf (l1 _ _ _) (aAf (tb (l6 _ _ _)) (aAf (bQh (l2 _ _ _) (l6 _ _ _)) (aAf (l4 _ _ _) aBq))))).trans e
 ·rw[decide_eq_false w0] at t0
  by_cases w1:(w:Int)=1
  ·rw[decide_eq_true w1] at t1
   obtain⟨u,hu,du⟩:=drw 74 3 (by decide) (by decide) (l1 none none none);have s8:aB6 8 (app (aC1 t) (aAb (look 1) (aAb (con (.int 74)) (aAb (con (.int 3)) aAn)))) (ρ none none none)=some (.nx (ρ (some (.sh (.int (u:Int)))) none none)):=(aAz du rfl).trans (by rw[hρ];rfl);have l8:look 8 (ρ (some (.sh (.int (u:Int)))) none none)=ok (.int (u:Int)):=by rw[hρ];rfl
   have t8:=aF7 (k:=0) l8;by_cases u0:(u:Int)=0
   ·rw[decide_eq_true u0] at t8
    obtain⟨k,hk,dk⟩:=drw 75 5 (by decide) (by decide) (l0 (some (.sh (.int (u:Int)))) none none);have xk:=aGw (f:=look 3) (x:=ws) (.inl (l3 _ _ _)) dk (by omega);refine fin (q:= .tb (ws[k]'(by omega))) (h1 _ (Zu _)) ?_;rw[e0];unfold aBt;refine pre ?_;rw[aBh t0,aBl ((aDo t1).trans ((aAj s8).trans (aBl ((aDo t8).trans (aBl (aC0 (tb xk)))))))];rfl
   ·rw[decide_eq_false u0] at t8
    have x8: ∃w:Str,(w="join"\/w="put")/\b2 gIx (mkL (aAb (con (.str "join")) (aAb (con (.str "put")) aAn))) (b2 bKa (look 8) (con (.int 1))) (ρ (some (.sh (.int (u:Int)))) none none)=ok (.str w):=by
     have hs8:=bLp l8 (g:=con (.int 1)) (j:=1) rfl;have:u=1\/u=2:=by omega
     rcases this with rfl | rfl
     ·exact⟨"join",.inl rfl,aAs (x:= .lst [.str "join",.str "put"]) (y:= .int 0) rfl hs8 rfl⟩
     ·exact⟨"put",.inr rfl,aAs (x:= .lst [.str "join",.str "put"]) (y:= .int 1) rfl hs8 rfl⟩
    obtain⟨v,hv,x8⟩:=x8;have key: ∀q:Qn,q.wf->q.d= .tup [.str v,tbD a,tbD b]->∃q:Qn,q.wf/\aFu t [.int c,.int o,hD hs,lS ws,lS six]=ok q.d:=fun q hq e=>by
     refine fin hq ?_;rw[e0,e];unfold aBt;refine pre ?_;rw[aBh t0,aBl ((aDo t1).trans ((aAj s8).trans ((aBh t8).trans (aBl (aC0 (aHp (aAf x8 (aAf (tb (l6 _ _ _)) (aAf (tb (l7 _ _ _)) aBq)))))))))];rfl
    rcases hv with rfl | rfl
    ·exact key (.jn a b) ⟨si,sj⟩ rfl
    ·exact key (.pu a b) ⟨si,sj⟩ rfl
  ·rw[decide_eq_false w1] at t1
   obtain⟨k,hk,dk⟩:=drw 76 3 (by decide) (by decide) (l0 none none none);have pk:b2 aCc (con (.int 2)) (app (aC1 t) (aAb (look 0) (aAb (con (.int 76)) (aAb (con (.int 3)) aAn)))) (ρ none none none)=ok (.int ((2+k:Nat):Int)):=(aJf (i:=2) rfl dk).trans (by rw[Jx];rfl);have ik:2+k<ws.length:=by omega
   have xk:=aGw (f:=look 3) (x:=ws) (.inl (l3 none none none)) pk ik;have sk:=h1 _ (Zu ik);obtain⟨m,hm⟩: ∃m,m=ws[2+k]:=⟨_,rfl⟩;rw[<-hm] at xk sk;have s9:aB6 9 (b2 gIx (look 3) (b2 aCc (con (.int 2)) (app (aC1 t) (aAb (look 0) (aAb (con (.int 76)) (aAb (con (.int 3)) aAn)))))) (ρ none none none)=some (.nx (ρ none (some (.sh (.str m))) none)):=(aAz xk rfl).trans (by rw[hρ];rfl);have s10:aB6 10 (mkT (aAb (con (.str "table")) (aAb (look 7) aAn))) (ρ none (some (.sh (.str m))) none)=some (.nx (ρ none (some (.sh (.str m))) (some (.sh (tbD b))))):=(aAz (tb (l7 _ _ _)) rfl).trans (by rw[hρ];rfl);obtain⟨b',sb',s11⟩: ∃b':Str,Sh b'/\sIf (aAm (b2 gGt (app (aC1 t) (aAb (look 1) (aAb (con (.int 77)) (aAb (con (.int 3)) aAn)))) (con (.int 0)))) (aAk (aB6 10 (mkT (aAb (con (.str "table")) (aAb (look 9) aAn))))
     aAr) aAr (ρ none (some (.sh (.str m))) (some (.sh (tbD b))))=some (.nx (ρ none (some (.sh (.str m))) (some (.sh (tbD b'))))):=by
    obtain⟨u,hu,du⟩:=drw 77 3 (by decide) (by decide) (l1 none (some (.sh (.str m))) (some (.sh (tbD b))));have tu:=aA4 (bBx (g:=con (.int 0)) (j:=0) du rfl);have l9:look 9 (ρ none (some (.sh (.str m))) (some (.sh (tbD b))))=ok (.str m):=by rw[hρ];rfl
    by_cases u0:(0:Int)<(u:Int)
    ·rw[decide_eq_true u0] at tu
     exact⟨m,sk,(aDo tu).trans ((aAj ((aAz (tb l9) rfl).trans (show _=some (Out.nx (ρ none (some (.sh (.str m))) (some (.sh (tbD m))))) by rw[hρ];rfl))).trans rfl)⟩
    ·rw[decide_eq_false u0] at tu
     exact⟨b,sj,(aJo tu).trans rfl⟩
   obtain⟨v,hv,dv⟩:=drw 78 9 (by decide) (by decide) (l1 none (some (.sh (.str m))) (some (.sh (tbD b'))));have l9:look 9 (ρ none (some (.sh (.str m))) (some (.sh (tbD b'))))=ok (.str m):=by rw[hρ];rfl
   have l10:look 10 (ρ none (some (.sh (.str m))) (some (.sh (tbD b'))))=ok (tbD b'):=by rw[hρ];rfl
   refine fin (q:= .rg m (v:Int) a b') ⟨sk,si,sb'⟩ ?_;rw[e0];unfold aBt;refine pre ?_;rw[aBh t0,aBh t1,aAj s9,aAj s10,aAj s11,aE9];exact aHp (aAf rfl (aAf l9 (aAf dv (aAf (tb (l6 _ _ _)) (aAf l10 aBq)))))
abbrev aNo (hs:Hs):List Str:=hs.map (·.1)
theorem aPy {hs:Hs}{n:Str}(h:n∈aNo hs): ∃x,hs.lookup n=some x:=by
 cases e:hs.lookup n with
 | some x=>exact⟨x,rfl⟩
 | none=>
  obtain⟨p,h1,h2⟩:=List.mem_map.mp h;have:=List.lookup_eq_none_iff.mp e p h1;rw[h2] at this;simp at this
theorem aWo {hs:Hs}{n m:Str}{h:List Str}(hm:m∈aNo hs):m∈aNo (aJp hs n h):=by
 unfold aNo;rw[aKe];split
 ·exact hm
 ·exact Yy _ hm
theorem bIk (hs:Hs)(n:Str)(h:List Str):n∈aNo (aJp hs n h):=by
 unfold aNo;rw[aKe];split
 ·assumption
 ·exact Zd _ (List.mem_singleton.mpr rfl)
def bB9 (t:Adr):List D->M D:=aH1 3 fun ds=>aA0 (aEd t (aKp t) (aC1 t) (bKh t) (aBu aHh ds))
def aXk (t:Adr):Rho->Option Out:=(aAk (aB6 5 (app (aKp t) (aAb (look 0) (aAb (b2 aCc (con (.int 2)) (look 4)) aAn))))
  (aAk (aB6 6 (app (aC1 t) (aAb (look 5) (aAb (con (.int 3)) (aAb (con (.int 5)) aAn)))))
  (aAk (aB6 7 (app (aC1 t) (aAb (look 5) (aAb (con (.int 4)) (aAb (con (.int 5)) aAn)))))
  (aAk (aB6 8 (b2 aCc (con (.int 1)) (app (aC1 t) (aAb (look 5) (aAb (con (.int 5)) (aAb (con (.int 4)) aAn))))))
  (aAk (aKc 3 (b2 gIx (look 2) (look 4)) (f1 toT (cmp 1 (itR (look 6)) [9] h1 (fun _=>ok true) (b2 gIx (look 1) (b2 aYq (b2 aCc (look 7) (b2 aD5 (look 9) (look 8))) (con (.int 5)))))))
  aAr)))))
section
variable {t:Adr}{ns:List Int}{cols ws:List Str}
abbrev RH (ns:List Int)(cols ws:List Str)(hs:Hs)(o4 o5 o6 o7 o8:Option D):Rho:=[some (.sh (lI ns)),some (.sh (lS cols)),some (.sh (lS ws)),some (.ow (.k (hK hs))),so o4,so o5,so o6,so o7,so o8]
theorem aK5 {k:Nat}{hs:Hs}(hc:cols.length=5)(hw:ws.length=5)(hc1: ∀x∈cols,Sh x)(h2: ∀x∈ws,Sh x)(hk:k<5)(ho:HOK hs)(hl:hs.length<=10)(o5 o6 o7 o8:Option D):
  ∃(hs':Hs) (o5' o6' o7' o8':Option D),HOK hs'/\hs'.length<=hs.length+1/\(∀x∈aNo hs,x∈aNo hs')/\ws[k]'(by omega)∈aNo hs'/\aXk t (RH ns cols ws hs (some (.int (k:Int))) o5 o6 o7 o8)=some (.nx (RH ns cols ws hs' (some (.int (k:Int))) o5' o6' o7' o8')):=by
 obtain⟨c,dc⟩:=aIm (t:=t) (f:=look 0) (g:=b2 aCc (con (.int 2)) (look 4)) (ρ:=RH ns cols ws hs (some (.int (k:Int))) o5 o6 o7 o8) (ns:=ns) (k:=2+k) (by omega) rfl ((aJf (i:=2) (j:=(k:Int)) rfl rfl).trans (by rw[Jx];rfl));have s5:=aAz (i:=5) dc rfl;obtain⟨z,hz,dz⟩:=aNy (t:=t) (f:=look 5) (g:=con (.int 3)) (h:=con (.int 5)) (ρ:=RH ns cols ws hs (some (.int (k:Int))) (some (.int c)) o6 o7 o8) (c:=c) (tr:=3) (m:=5) ⟨by decide,by decide⟩ (by decide) rfl rfl rfl;have s6:=aAz (i:=6) dz rfl;obtain⟨f,hf,df⟩:=aNy (t:=t) (f:=look 5) (g:=con (.int 4)) (h:=con (.int 5)) (ρ:=RH ns cols ws hs (some (.int (k:Int))) (some (.int c)) (some (.int (z:Int))) o7 o8) (c:=c) (tr:=4) (m:=5) ⟨by decide,by decide⟩ (by decide) rfl rfl rfl;have s7:=aAz (i:=7) df rfl;obtain⟨l,hl',dl⟩:=aNy (t:=t) (f:=look 5) (g:=con (.int 5)) (h:=con (.int 4)) (ρ:=RH ns cols ws hs (some (.int (k:Int))) (some (.int c)) (some (.int (z:Int))) (some (.int (f:Int))) o8) (c:=c) (tr:=5) (m:=4) ⟨by decide,by decide⟩ (by decide) rfl rfl rfl;have al:b2 aCc (con (.int 1)) (app (aC1 t) (aAb (look 5) (aAb (con (.int 5)) (aAb (con (.int 4)) aAn)))) (RH ns cols ws hs (some (.int (k:Int))) (some (.int c)) (some (.int (z:Int))) (some (.int (f:Int))) o8)=ok (.int ((1+l:Nat):Int)):=(aJf (i:=1) rfl dl).trans (by rw[Jx];rfl);have s8:=aAz (i:=8) al rfl;have kw:k<ws.length:=by omega
 have md: ∀j:Nat,(f+j*(1+l))%5<cols.length:=fun j=>by omega
 have cm:cmp 1 (itR (look 6)) [9] h1 (fun _=>ok true) (b2 gIx (look 1) (b2 aYq (b2 aCc (look 7) (b2 aD5 (look 9) (look 8))) (con (.int 5)))) (RH ns cols ws hs (some (.int (k:Int))) (some (.int c)) (some (.int (z:Int))) (some (.int (f:Int))) (some (.int ((1+l:Nat):Int))))=ok (lS ((Zj z).map fun j=>cols[(f+j*(1+l))%5]'(md j))):=by
  refine bKu (g:=fun j=>cols[(f+j*(1+l))%5]'(md j)) rfl (by omega) fun j hj=> ?_
  refine aGw (f:=look 1) (x:=cols) (.inl rfl) ?_ (md j);have e1:((((f+j*(1+l))%5:Nat)):Int)=((f:Int)+(j:Int)*((1+l:Nat):Int))%5:=by omega
  rw[e1];exact aW0 (aJf (i:=(f:Int)) rfl (aWz (i:=(j:Int)) (j:=((1+l:Nat):Int)) rfl rfl (aMp (by omega) (by omega) (by omega) (by omega)))) (j:=5) rfl (by decide)
 have cl: ∀x∈(Zj z).map (fun j=>cols[(f+j*(1+l))%5]'(md j)),Sh x:=fun x hx=>by
  obtain⟨j,_,rfl⟩:=List.mem_map.mp hx;exact hc1 _ (Zu _)
 have czl:((Zj z).map (fun j=>cols[(f+j*(1+l))%5]'(md j))).length<=20:=by rw[Qi,Zw];omega
 generalize (Zj z).map (fun j=>cols[(f+j*(1+l))%5]'(md j))=hd at cm cl czl;obtain⟨po,pl⟩:=aPq (n:=ws[k]) (h:=hd) ho (by omega) (h2 _ (Zu kw)) czl cl;have s9:=aSr (hs:=hs) (i:=3) (n:=ws[k]) (h:=hd) (fk:=b2 gIx (look 2) (look 4)) (f:=f1 toT (cmp 1 (itR (look 6)) [9] h1 (fun _=>ok true) (b2 gIx (look 1) (b2 aYq (b2 aCc (look 7) (b2 aD5 (look 9) (look 8))) (con (.int 5)))))) (ρ:=RH ns cols ws hs (some (.int (k:Int))) (some (.int c)) (some (.int (z:Int))) (some (.int (f:Int))) (some (.int ((1+l:Nat):Int)))) rfl (aGw (x:=ws) (.inl rfl) rfl kw) (aRr cm rfl) (by omega);refine⟨aJp hs ws[k] hd,some (.int c),some (.int (z:Int)),some (.int (f:Int)),some (.int ((1+l:Nat):Int)),po,pl,fun x hx=>aWo hx,bIk _ _ _,?_⟩;unfold aXk;rw[aAj s5];show aAk _ _ (RH ns cols ws hs (some (.int (k:Int))) (some (.int c)) o6 o7 o8)=_;rw[aAj s6];show aAk _ _ (RH ns cols ws hs (some (.int (k:Int))) (some (.int c)) (some (.int (z:Int))) o7 o8)=_;rw[aAj s7];show aAk _ _ (RH ns cols ws hs (some (.int (k:Int))) (some (.int c)) (some (.int (z:Int))) (some (.int (f:Int))) o8)=_;rw[aAj s8];show aAk _ _ (RH ns cols ws hs (some (.int (k:Int))) (some (.int c)) (some (.int (z:Int))) (some (.int (f:Int))) (some (.int ((1+l:Nat):Int))))=_;rw[aAj s9];rfl
theorem bFg (t:Adr)(hc:cols.length=5)(hw:ws.length=5)(hc1: ∀x∈cols,Sh x)(h2: ∀x∈ws,Sh x): ∃hs:Hs,bB9 t [lI ns,lS cols,lS ws]=ok (hD hs)/\HOK hs/\hs.length<=4/\∀(j:Nat) (h:j<3),ws[j]'(by omega)∈aNo hs:=by
 have e0:aBu aHh [lI ns,lS cols,lS ws]=[some (.sh (lI ns)),some (.sh (lS cols)),some (.sh (lS ws)),none,none,none,none,none,none]:=rfl;have ok0:HOK []:=⟨by decide,.nil,(fun p hp=>by cases hp),(fun p hp=>by cases hp),fun p hp=>by cases hp⟩;obtain⟨a,a5,a6,a7,a8,ao,al,ak,an,ab⟩:=aK5 (t:=t) (ns:=ns) (k:=0) hc hw hc1 h2 (by decide) ok0 (by decide) none none none none;obtain⟨b,b5,b6,b7,b8,bo,bl,bk,bn,bb⟩:=aK5 (t:=t) (ns:=ns) (k:=1) hc hw hc1 h2 (by decide) ao (by have:([]:Hs).length=0:=rfl;omega) a5 a6 a7 a8;obtain⟨d,d5,d6,d7,d8,do',dl,dk,dn,db⟩:=aK5 (t:=t) (ns:=ns) (k:=2) hc hw hc1 h2 (by decide) bo (by have:([]:Hs).length=0:=rfl;omega) b5 b6 b7 b8;have z0:([]:Hs).length=0:=rfl;have dl3:d.length<=3:=by omega
 have kd: ∀(j:Nat) (h:j<3),ws[j]'(by omega)∈aNo d:=fun j h=>by
  have:j=0\/j=1\/j=2:=by omega
  rcases this with rfl | rfl | rfl
  ·exact dk _ (bk _ an)
  ·exact dk _ bn
  ·exact dn
 have lp:aPm (con (.int 3)) (gN 4) (aXk t) (RH ns cols ws [] none none none none none)=some (.nx (RH ns cols ws d (some (.int 2)) d5 d6 d7 d8)):=by
  rw[aZ4 (j:=3) rfl (by decide) (by decide)];have er:rng 0 (3:Int).toNat=[.int 0,.int 1,.int 2]:=rfl;rw[er,aEa (ρ1:=RH ns cols ws [] (some (.int 0)) none none none none) rfl ab,aEa (ρ1:=RH ns cols ws a (some (.int 1)) a5 a6 a7 a8) rfl bb,aEa (ρ1:=RH ns cols ws b (some (.int 2)) b5 b6 b7 b8) rfl db];rfl
 obtain⟨c,dc⟩:=aIm (t:=t) (f:=look 0) (g:=con (.int 2)) (ρ:=RH ns cols ws d (some (.int 2)) d5 d6 d7 d8) (ns:=ns) (k:=2) (by decide) rfl rfl;obtain⟨z,hz,dz⟩:=aNy (t:=t) (g:=con (.int 6)) (h:=con (.int 2)) (tr:=6) (m:=2) ⟨by decide,by decide⟩ (by decide) dc rfl rfl;have tz:=aF7 (k:=0) dz;have pre: ∀{e:Hs} {G F:Rho->Option Out},G (RH ns cols ws d (some (.int 2)) d5 d6 d7 d8)=some (.nx (RH ns cols ws e (some (.int 2)) d5 d6 d7 d8))->aA0 (aAk (bD2 3) (aAk (aPm (con (.int 3)) (gN 4) (aXk t)) (aAk G (aAk (aBw (look 3)) aAr))) [some (.sh (lI ns)),some (.sh (lS cols)),some (.sh (lS ws)),none,none,none,none,none,none])=ok (hD e):=fun {e G F} hg=>by
  have sk:bD2 3 [some (.sh (lI ns)),some (.sh (lS cols)),some (.sh (lS ws)),none,none,none,none,none,none]=some (.nx (RH ns cols ws [] none none none none none)):=rfl;rw[aAj sk,aAj lp,aAj hg,aE9];rfl
 by_cases j0:(z:Int)=0
 ·rw[decide_eq_true j0] at tz
  obtain⟨y,hy⟩:=aPy (kd 0 (by decide));have hym:=lookup_mem hy;obtain⟨c3,dc3⟩:=aIm (t:=t) (f:=look 0) (g:=con (.int 3)) (ρ:=RH ns cols ws d (some (.int 2)) d5 d6 d7 d8) (ns:=ns) (k:=3) (by decide) rfl rfl;obtain⟨y',r1,r2,r3⟩:=bGs t (h:=y) c3 (do'.sz _ hym);have q1:app (bKh t) (aAb (b2 bB2 (look 3) (b2 gIx (look 2) (con (.int 0)))) (aAb (app (aKp t) (aAb (look 0) (aAb (con (.int 3)) aAn))) aAn)) (RH ns cols ws d (some (.int 2)) d5 d6 d7 d8)=ok (tS y'):=
   (aBk (aAf (aAs (x:=hD d) (y:= .str (ws[0]'(by omega))) rfl (aGw (x:=ws) (.inl rfl) (i:=0) rfl (by omega)) (bFy hy)) (aAf dc3 aBq))).trans r1
  have w1:1<ws.length:=by omega
  obtain⟨po,pl⟩:=aPq (n:=ws[1]) (h:=y') do' (by omega) (h2 _ (Zu w1)) (by have:=do'.sz _ hym;dsimp only at this;omega) (fun x hx=>do'.cl _ hym x (r3 x hx))
  have s9:=aSr (hs:=d) (i:=3) (n:=ws[1]) (h:=y') (fk:=b2 gIx (look 2) (con (.int 1))) (ρ:=RH ns cols ws d (some (.int 2)) d5 d6 d7 d8) rfl (aGw (x:=ws) (.inl rfl) (i:=1) rfl w1) q1 (by omega);refine⟨aJp d ws[1] y',aA9 rfl ?_,po,by omega,fun j h=>aWo (kd j h)⟩;rw[e0];unfold aEd;exact pre (F:=aAr) ((aDo tz).trans ((aAj s9).trans rfl))
 ·rw[decide_eq_false j0] at tz
  refine⟨d,aA9 rfl ?_,do',by omega,kd⟩;rw[e0];unfold aEd;exact pre (F:=aAr) ((aJo tz).trans rfl)
end
def bIg:List D->Prop:=fun ds=> ∃ns:List Int,ds=[.lst (ns.map D.int)]/\ns.length<=63
def isT:Rs->Bool
 | .error .T=>true
 | _=>false
theorem bN0 {r:Rs}(h:isT r=true):r= .error .T:=by
 cases r with
 | ok _=>cases h
 | error c=>cases c<;>first | rfl | cases h
theorem bOd (r:Rs):aVs (dOf r) (.tup [.str "no",.str "NoTable"])=ok (.bl (isT r)):=by
 have e1:(("head":Str)=="no")=false:=by decide+kernel
 have e2:(("no":Str)=="no")=true:=by decide+kernel
 cases r with
 | ok h=>
  show (match aRu (eqN 8) [.str "head",tS h] [.str "no",.str "NoTable"] with | some b=>ok (D.bl b) | none=>none)=_;have:aRu (eqN 8) [.str "head",tS h] [.str "no",.str "NoTable"]=some ((("head":Str)=="no")&&(false&&true)):=rfl;rw[this,e1];rfl
 | error c=>
  show (match aRu (eqN 8) [.str "no",.str c.nm] [.str "no",.str "NoTable"] with | some b=>ok (D.bl b) | none=>none)=_;have:aRu (eqN 8) [.str "no",.str c.nm] [.str "no",.str "NoTable"]=some ((("no":Str)=="no")&&((c.nm=="NoTable")&&true)):=rfl;have e3:(c.nm=="NoTable")=isT (.error c):=by cases c<;>decide+kernel
  rw[this,e2,e3];simp
def ud:Option Qn->D
 | none=> .non
 | some q=>q.d
def aLj (t:Adr):Rho->Option Out:=(aAk (aB6 6 (app (aFu t) (aAb (app (aKp t) (aAb (look 0) (aAb (look 5) aAn))) (aAb (app (aKp t) (aAb (look 0) (aAb (b2 aCc (look 5) (con (.int 1))) aAn))) (aAb (look 3) (aAb (look 2) (aAb (look 1) aAn)))))))
  (aAk (aB6 7 (app (bLf t) (aAb (look 6) (aAb (look 3) aAn))))
  (aAk (aH8 8 (look 3))
  (aAk (sIf (aZb (test (app (aPp t) (aAb (app (aXx t) (aAb (look 6) (aAb (look 8) aAn))) (aAb (look 7) aAn))))) (aAk (aBw (con (.bl false)))
  aAr) aAr)
  (aAk (sIf (aAm (b2 aOx (look 8) (look 3))) (aAk (aBw (con (.bl false)))
  aAr) aAr)
  (aAk (sIf (aAm (b2 aVs (look 7) (mkT (aAb (con (.str "no")) (aAb (con (.str "NoTable")) aAn))))) (aAk (aB6 4 (look 6))
  aAr) aAr)
  aAr))))))
section
variable {K:Qa}{mg:Str->Option Qc}{t:Adr}{ns:List Int}{cols ws:List Str}{hs:Hs}
abbrev RW2 (ns:List Int)(cols ws:List Str)(hs:Hs)(u:Option Qn)(o5 o6 o7:Option D)(o8:Option SV):Rho:=[some (.sh (lI ns)),some (.sh (lS cols)),some (.sh (lS ws)),some (.sh (hD hs)),some (.sh (ud u)),so o5,so o6,so o7,o8]
def Uok (hs:Hs)(u:Option Qn):Prop:= ∀q,u=some q->q.wf/\res hs q= .error .T
theorem aQt {f g:Rho->M D}{ρ:Rho}{q:Qn}{hs:Hs}{d:D}(X:Txt K mg t)(ho:HOK hs)(hl:hs.length<20)(hq:q.wf)(h1:f ρ=ok q.d)(h2:g ρ=ok (hD hs)){h:Rho->M D}(h3:h ρ=ok (dOf (res hs q))):app (aPp t) (aAb (app (aXx t) (aAb f (aAb g aAn))) (aAb h aAn)) ρ=ok (.bl true):=
 (aBk (aAf ((aBk (aAf h1 (aAf h2 aBq))).trans (bDp X ho hl hq)) (aAf h3 aBq))).trans (bD5 t _)
theorem bE3 (X:Txt K mg t)(hc:cols.length=6)(hw:ws.length=5)(hc1: ∀x∈cols,Sh x)(hw1: ∀x∈ws,Sh x)(ho:HOK hs)(hl:hs.length<=4){k:Nat}(hk:k<=900){u:Option Qn}(hu:Uok hs u)(o6 o7:Option D)(o8:Option SV):
  ∃(u':Option Qn) (o6' o7':Option D) (o8':Option SV),Uok hs u'/\aLj t (RW2 ns cols ws hs u (some (.int (k:Int))) o6 o7 o8)=some (.nx (RW2 ns cols ws hs u' (some (.int (k:Int))) o6' o7' o8')):=by
 obtain⟨c,dc⟩:=aIm (t:=t) (f:=look 0) (g:=look 5) (ρ:=RW2 ns cols ws hs u (some (.int (k:Int))) o6 o7 o8) (ns:=ns) (k:=k) (by omega) rfl rfl;obtain⟨o,do'⟩:=aIm (t:=t) (f:=look 0) (g:=b2 aCc (look 5) (con (.int 1))) (ρ:=RW2 ns cols ws hs u (some (.int (k:Int))) o6 o7 o8) (ns:=ns) (k:=k+1) (by omega) rfl ((aJf (i:=(k:Int)) (j:=1) rfl rfl).trans (by rw[Jx];rfl));obtain⟨q,hq,dq⟩:=aUv t (hs:=hs) (ws:=ws) (six:=cols) c o ho hw hc hw1 hc1;have s6:=aAz (i:=6) ((aBk (aAf dc (aAf do' (aAf (f:=look 3) (d:=hD hs) rfl (aAf (f:=look 2) (d:=lS ws) rfl (aAf (f:=look 1) (d:=lS cols) rfl aBq)))))).trans dq) (Qn.imm hq);have s7:aB6 7 (app (bLf t) (aAb (look 6) (aAb (look 3) aAn))) (RW2 ns cols ws hs u (some (.int (k:Int))) (some q.d) o7 o8)=some (.nx (RW2 ns cols ws hs u (some (.int (k:Int))) (some q.d) (some (dOf (res hs q))) o8)):=
  aAz ((aBk (aAf (d:=q.d) rfl (aAf (d:=hD hs) rfl aBq))).trans (bCc ho (by omega) hq)) (aLh _)
 have s8:aH8 8 (look 3) (RW2 ns cols ws hs u (some (.int (k:Int))) (some q.d) (some (dOf (res hs q))) o8)=some (.nx (RW2 ns cols ws hs u (some (.int (k:Int))) (some q.d) (some (dOf (res hs q))) (some (.ow (.k (hK hs)))))):=aRz rfl;have r1:=aRb (aQg (b:=true) (aQt (d:= .non) (f:=look 6) (g:=look 8) (h:=look 7) (ρ:=RW2 ns cols ws hs u (some (.int (k:Int))) (some q.d) (some (dOf (res hs q))) (some (.ow (.k (hK hs))))) X ho (by omega) hq rfl rfl rfl) rfl);have r2:aAm (b2 aOx (look 8) (look 3)) (RW2 ns cols ws hs u (some (.int (k:Int))) (some q.d) (some (dOf (res hs q))) (some (.ow (.k (hK hs)))))=ok false:=aA4 (aAs (x:=hD hs) (y:=hD hs) rfl rfl (ne_self ho));have r3:aAm (b2 aVs (look 7) (mkT (aAb (con (.str "no")) (aAb (con (.str "NoTable")) aAn)))) (RW2 ns cols ws hs u (some (.int (k:Int))) (some q.d) (some (dOf (res hs q))) (some (.ow (.k (hK hs)))))=ok (isT (res hs q)):=aA4 (aAs (x:=dOf (res hs q)) (y:= .tup [.str "no",.str "NoTable"]) rfl rfl (bOd _));have pre: ∀{G:Rho->Option Out} {z:Option Out},G (RW2 ns cols ws hs u (some (.int (k:Int))) (some q.d) (some (dOf (res hs q))) (some (.ow (.k (hK hs)))))=z->(aAk (aB6 6 (app (aFu t) (aAb (app (aKp t) (aAb (look 0) (aAb (look 5) aAn))) (aAb (app (aKp t) (aAb (look 0) (aAb (b2 aCc (look 5) (con (.int 1))) aAn))) (aAb (look 3) (aAb (look 2) (aAb (look 1) aAn)))))))
   (aAk (aB6 7 (app (bLf t) (aAb (look 6) (aAb (look 3) aAn))))
   (aAk (aH8 8 (look 3))
   (aAk (sIf (aZb (test (app (aPp t) (aAb (app (aXx t) (aAb (look 6) (aAb (look 8) aAn))) (aAb (look 7) aAn))))) (aAk (aBw (con (.bl false)))
   aAr) aAr)
   (aAk (sIf (aAm (b2 aOx (look 8) (look 3))) (aAk (aBw (con (.bl false)))
   aAr) aAr) G))))) (RW2 ns cols ws hs u (some (.int (k:Int))) o6 o7 o8)=z:=fun {G z} hz=>by
  rw[aAj s6];show aAk _ _ (RW2 ns cols ws hs u (some (.int (k:Int))) (some q.d) o7 o8)=_;rw[aAj s7,aAj s8,aBh r1,aBh r2];exact hz
 cases hb:isT (res hs q) with
 | true=>
  rw[hb] at r3;refine⟨some q,some q.d,some (dOf (res hs q)),some (.ow (.k (hK hs))),fun p hp=> ?_,?_⟩
  ·cases hp
   exact⟨hq,bN0 hb⟩
  ·unfold aLj
   refine pre ?_;have s4:aB6 4 (look 6) (RW2 ns cols ws hs u (some (.int (k:Int))) (some q.d) (some (dOf (res hs q))) (some (.ow (.k (hK hs)))))=some (.nx (RW2 ns cols ws hs (some q) (some (.int (k:Int))) (some q.d) (some (dOf (res hs q))) (some (.ow (.k (hK hs)))))):=aAz (d:=q.d) rfl (Qn.imm hq);exact (aAj ((aDo r3).trans ((aAj s4).trans rfl))).trans rfl
 | false=>
  rw[hb] at r3;refine⟨u,some q.d,some (dOf (res hs q)),some (.ow (.k (hK hs))),hu,?_⟩;unfold aLj;exact pre (aBh r3)
theorem aW4 (X:Txt K mg t)(hc:cols.length=6)(hw:ws.length=5)(hc1: ∀x∈cols,Sh x)(hw1: ∀x∈ws,Sh x)(ho:HOK hs)(hl:hs.length<=4): ∀(l:List Nat) (u:Option Qn) (o5 o6 o7:Option D) (o8:Option SV),(∀k∈l,k<=900)->Uok hs u->
  ∃(u':Option Qn) (o5' o6' o7':Option D) (o8':Option SV),Uok hs u'/\loop (gN 5) (aLj t) (l.map fun k:Nat=>D.int (k:Int)) (RW2 ns cols ws hs u o5 o6 o7 o8)=some (.nx (RW2 ns cols ws hs u' o5' o6' o7' o8'))
 | [],u,o5,o6,o7,o8,_,hu=>⟨u,o5,o6,o7,o8,hu,rfl⟩
 | k::l,u,o5,o6,o7,o8,hk,hu=>by
  obtain⟨u1,a6,a7,a8,hu1,e1⟩:=bE3 (ns:=ns) X hc hw hc1 hw1 ho hl (hk k Qq) hu o6 o7 o8;obtain⟨u2,b5,b6,b7,b8,hu2,e2⟩:=aW4 X hc hw hc1 hw1 ho hl l u1 (some (.int (k:Int))) a6 a7 a8 (fun j hj=>hk j (Qm _ hj)) hu1;refine⟨u2,b5,b6,b7,b8,hu2,?_⟩;rw[Q4,aEa (ρ1:=RW2 ns cols ws hs u (some (.int (k:Int))) o6 o7 o8) rfl e1];exact e2
theorem bCb (n:Nat):aTs 5 n=((Zj n).map fun j=>5+j*2).map fun k:Nat=>D.int (k:Int):=by
 unfold aTs;rw[Yu];refine Jf fun j _=> ?_
 show D.int (5+(j:Int)*2)=D.int ((5+j*2:Nat):Int)
 congr 1
theorem bQa {ρ:Rho}(h0:look 0 ρ=ok (lI ns)): ∃l:List Nat,(∀k∈l,k<=900)/\bNy (con (.int 5)) (b2 bLc (con (.int 6)) (b2 bN7 (f1 aJb (look 0)) (con (.int 61)))) (con (.int 2)) ρ=ok (l.map fun k:Nat=>D.int (k:Int)):=by
 have e1:f1 aJb (look 0) ρ=ok (.int (ns.length:Int)):=aRr h0 (by show ok (D.int ((ns.map D.int).length:Int))=_;rw[Qi]);obtain⟨b,hb,hb2,e2⟩: ∃b:Int,5<b/\b<=61/\b2 bLc (con (.int 6)) (b2 bN7 (f1 aJb (look 0)) (con (.int 61))) ρ=ok (.int b):=by
  refine⟨if (if (61:Int)<(ns.length:Int) then (61:Int) else (ns.length:Int))>6 then (if (61:Int)<(ns.length:Int) then (61:Int) else (ns.length:Int)) else 6,?_,?_,aAs (x:= .int 6) rfl (aAs (y:= .int 61) e1 rfl rfl) rfl⟩
  ·split<;>omega
  ·split
   ·split<;>omega
   ·omega
 refine⟨(Zj ((b-5-1)/2+1).toNat).map fun j=>5+j*2,fun k hk=> ?_,?_⟩
 ·obtain⟨j,hj,rfl⟩:=List.mem_map.mp hk
  have:=List.mem_range.mp hj;omega
 ·unfold bNy
  rw[aAf (f:=con (.int 5)) (d:= .int 5) rfl (aAf e2 (aAf (f:=con (.int 2)) (d:= .int 2) rfl aBq)),aBj]
  dsimp only
  rw[if_pos ⟨rfl,by decide,by decide,by omega,by omega⟩,if_pos hb,bCb]
theorem bJy (X:Txt K mg t):OkF 1 bGg (aRx t (aKp t) (aC1 t) (bLf t) (bB9 t) (aFu t) (aPp t) (aXx t) (bB5 t)) (tt bIg):=by
 refine⟨by intro ds r h;obtain⟨ns,rfl,_⟩:=(bGm h).1;rfl,fun ds r h=> ?_⟩;obtain⟨⟨ns,rfl,hns⟩,hr⟩:=bGm h;subst hr;refine⟨_,rfl,?_⟩;have e0:aBu bGg [.lst (ns.map D.int)]=[some (.sh (lI ns)),none,none,none,none,none,none,none,none]:=rfl;rw[e0];obtain⟨c0,d0⟩:=aIm (t:=t) (f:=look 0) (g:=con (.int 0)) (ρ:=[some (.sh (lI ns)),none,none,none,none,none,none,none,none]) (ns:=ns) (k:=0) (by decide) rfl rfl;obtain⟨cols,w1,hc,hc1⟩:=aWd t c0 (n:=6) (by decide);have s1:=aQq (i:=1) ((aBk (aAf d0 (aAf (f:=con (.int 6)) (d:= .int 6) rfl aBq))).trans w1) rfl;obtain⟨c1,d1⟩:=aIm (t:=t) (f:=look 0) (g:=con (.int 1)) (ρ:=[some (.sh (lI ns)),some (.sh (lS cols)),none,none,none,none,none,none,none]) (ns:=ns) (k:=1) (by decide) rfl rfl;obtain⟨ws,w2,hw,hw1⟩:=aWd t c1 (n:=5) (by decide);have s2:=aQq (i:=2) ((aBk (aAf d1 (aAf (f:=con (.int 5)) (d:= .int 5) rfl aBq))).trans w2) rfl;have hct:(cols.take 5).length=5:=by rw[Za];omega
 obtain⟨hs,w3,ho,hl,hk⟩:=bFg (ns:=ns) (cols:=cols.take 5) (ws:=ws) t hct hw (fun x hx=>hc1 x (J7 hx)) hw1;have e3:aMt (look 1) aFq (aFe (con (.int 5))) [some (.sh (lI ns)),some (.sh (lS cols)),some (.sh (lS ws)),none,none,none,none,none,none]=ok (lS (cols.take 5)):=by
  show ok (D.lst (L2.PU.cutD (cols.map D.str) none (some ((5:Nat):Int))))=_;rw[bCj _ (by rw[Qi];omega),<-Wb]
 have s3:=aQq (i:=3) ((aBk (aAf (f:=look 0) (d:=lI ns) rfl (aAf e3 (aAf (f:=look 2) (d:=lS ws) rfl aBq)))).trans w3) rfl;have s4:aB6 4 (con .non) [some (.sh (lI ns)),some (.sh (lS cols)),some (.sh (lS ws)),some (.sh (hD hs)),none,none,none,none,none]=some (.nx (RW2 ns cols ws hs none none none none none)):=rfl;obtain⟨l,hl9,ei⟩:=bQa (ns:=ns) (ρ:=RW2 ns cols ws hs none none none none none) rfl;obtain⟨u,o5,o6,o7,o8,hu,lp⟩:=aW4 (ns:=ns) X hc hw hc1 hw1 ho hl l none none none none none hl9 (fun q h=>by cases h);have s5:aZ5 (bNy (con (.int 5)) (b2 bLc (con (.int 6)) (b2 bN7 (f1 aJb (look 0)) (con (.int 61)))) (con (.int 2))) (gN 5) (aLj t) (RW2 ns cols ws hs none none none none none)=some (.nx (RW2 ns cols ws hs u o5 o6 o7 o8)):=by
  unfold aZ5;rw[ei,aDq];exact lp
 unfold aRx;rw[aAj s1];show aA0 (aAk _ _ [some (.sh (lI ns)),some (.sh (lS cols)),none,none,none,none,none,none,none])=_;rw[aAj s2];show aA0 (aAk _ _ [some (.sh (lI ns)),some (.sh (lS cols)),some (.sh (lS ws)),none,none,none,none,none,none])=_;rw[aAj s3];show aA0 (aAk _ _ [some (.sh (lI ns)),some (.sh (lS cols)),some (.sh (lS ws)),some (.sh (hD hs)),none,none,none,none,none])=_;rw[aAj s4];show aA0 (aAk (aZ5 _ (gN 5) (aLj t)) _ (RW2 ns cols ws hs none none none none none))=_;rw[aAj s5];cases u with
 | none=>
  have t1:aAm (b2 gIs (look 4) (con .non)) (RW2 ns cols ws hs none o5 o6 o7 o8)=ok true:=rfl;rw[aCn t1];rfl
 | some q=>
  obtain⟨hq,hr⟩:=hu q rfl;have t1:aAm (b2 gIs (look 4) (con .non)) (RW2 ns cols ws hs (some q) o5 o6 o7 o8)=ok false:=by
   refine aA4 (aAs (x:=q.d) (y:= .non) rfl rfl ?_);show ok (D.bl (bBm q.d))=_;cases q<;>rfl
  have s8:aH8 8 (look 3) (RW2 ns cols ws hs (some q) o5 o6 o7 o8)=some (.nx (RW2 ns cols ws hs (some q) o5 o6 o7 (some (.ow (.k (hK hs)))))):=aRz rfl;have r1:=aRb (aQg (b:=true) (aQt (d:= .non) (f:=look 4) (g:=look 8) (h:=mkT (aAb (con (.str "no")) (aAb (con (.str "NoTable")) aAn))) (ρ:=RW2 ns cols ws hs (some q) o5 o6 o7 (some (.ow (.k (hK hs))))) X ho (by omega) hq rfl rfl (by rw[hr];rfl)) rfl);rw[aBh t1,aAj s8,aBh r1];have step: ∀(k:Nat) (hk5:k<5) (gs:Hs),HOK gs->gs.length<=10->∀(p5:Option D),∃gs':Hs,HOK gs'/\gs'.length<=gs.length+1/\aAk (aKc 8 (b2 gIx (look 2) (look 5)) (b2 bB2 (look 3) (b2 gIx (look 2) (app (aC1 t) (aAb (app (aKp t) (aAb (look 0) (aAb (con (.int 4)) aAn))) (aAb (con (.int 79)) (aAb (con (.int 3)) aAn)))))))
    aAr (RW2 ns cols ws hs (some q) (some (.int (k:Int))) o6 o7 (some (.ow (.k (hK gs)))))=some (.nx (RW2 ns cols ws hs (some q) (some (.int (k:Int))) o6 o7 (some (.ow (.k (hK gs')))))):=fun k hk5 gs hg hgl p5=>by
   obtain⟨c,dc⟩:=aIm (t:=t) (f:=look 0) (g:=con (.int 4)) (ρ:=RW2 ns cols ws hs (some q) (some (.int (k:Int))) o6 o7 (some (.ow (.k (hK gs))))) (ns:=ns) (k:=4) (by decide) rfl rfl;obtain⟨j,hj,dj⟩:=aNy (t:=t) (g:=con (.int 79)) (h:=con (.int 3)) (tr:=79) (m:=3) ⟨by decide,by decide⟩ (by decide) dc rfl rfl;have hj3:j<3:=by omega
   obtain⟨y,hy⟩:=aPy (hk j hj3);have hym:=lookup_mem hy;have kw:k<ws.length:=by omega
   have q1:b2 bB2 (look 3) (b2 gIx (look 2) (app (aC1 t) (aAb (app (aKp t) (aAb (look 0) (aAb (con (.int 4)) aAn))) (aAb (con (.int 79)) (aAb (con (.int 3)) aAn))))) (RW2 ns cols ws hs (some q) (some (.int (k:Int))) o6 o7 (some (.ow (.k (hK gs)))))=ok (tS y):=aAs (x:=hD hs) rfl (aGw (x:=ws) (.inl rfl) dj (by omega)) (bFy hy);obtain⟨po,pl⟩:=aPq (n:=ws[k]) (h:=y) hg (by omega) (hw1 _ (Zu kw)) (ho.sz _ hym) (ho.cl _ hym);exact⟨aJp gs ws[k] y,po,pl,(aAj (aSr (hs:=gs) (i:=8) (n:=ws[k]) (h:=y) rfl (aGw (x:=ws) (.inl rfl) rfl kw) q1 (by omega))).trans rfl⟩
  obtain⟨g1,go1,gl1,ge1⟩:=step 3 (by decide) hs ho (by omega) none;obtain⟨g2,go2,gl2,ge2⟩:=step 4 (by decide) g1 go1 (by omega) none;have s9:aWm (con (.int 3)) (con (.int 5)) (gN 5) (aAk (aKc 8 (b2 gIx (look 2) (look 5)) (b2 bB2 (look 3) (b2 gIx (look 2) (app (aC1 t) (aAb (app (aKp t) (aAb (look 0) (aAb (con (.int 4)) aAn))) (aAb (con (.int 79)) (aAb (con (.int 3)) aAn)))))))
    aAr) (RW2 ns cols ws hs (some q) o5 o6 o7 (some (.ow (.k (hK hs)))))=some (.nx (RW2 ns cols ws hs (some q) (some (.int 4)) o6 o7 (some (.ow (.k (hK g2)))))):=by
   unfold aWm;rw[show con (.int 3) (RW2 ns cols ws hs (some q) o5 o6 o7 (some (.ow (.k (hK hs)))))=ok (.int 3) from rfl,aDq,show con (.int 5) (RW2 ns cols ws hs (some q) o5 o6 o7 (some (.ow (.k (hK hs)))))=ok (.int 5) from rfl,aDq]
   dsimp only
   rw[if_pos (by decide)];have er:rng 3 ((5:Int)-3).toNat=[.int 3,.int 4]:=rfl;rw[er,aEa (ρ1:=RW2 ns cols ws hs (some q) (some (.int 3)) o6 o7 (some (.ow (.k (hK hs))))) rfl ge1,aEa (ρ1:=RW2 ns cols ws hs (some q) (some (.int 4)) o6 o7 (some (.ow (.k (hK g1))))) rfl ge2];rfl
  rw[aAj s9,aE9];exact aQt (d:= .non) (f:=look 4) (g:=look 8) (ρ:=RW2 ns cols ws hs (some q) (some (.int 4)) o6 o7 (some (.ow (.k (hK g2))))) X go2 (by omega) hq rfl rfl ((aBk (aAf (d:=q.d) rfl (aAf (d:=hD g2) rfl aBq))).trans (bCc go2 (by omega) hq))
end
section
variable {P:Qv}{w:Q8}{K:Qa}{mg:Str->Option Qc}{base:Heap}{t:Adr}
theorem aRd {n:Nat}: ∀ds r,noF ds=some r->ds.length=n:=fun ds r h=>by cases h
theorem vOk {n:Nat}{N:List Str}{den:Rho->Option Out}:OkF n N den (aH1 n fun ds=>aA0 (den (aBu N ds))):=⟨aWf,bGj⟩
theorem aWj (X:Txt K mg t): ∀k,Def P w K mg base k "columns_told" (bB6 t k)
 | 0=>by
  obtain⟨fd,Fu,bi⟩:=X.aBe;exact⟨_,_,_,X.aJe,Fu.kp,bi,(fun _ _ h=>nomatch h),aK9 (fun _=>rfl)⟩
 | k+1=>aNi X (aWj X k) vOk
theorem aVe (X:Txt K mg t): ∀k,Def P w K mg base k "_law_columns" (aZd t k)
 | 0=>by
  obtain⟨fd,Fu,bi⟩:=X.aBa;exact⟨_,_,_,X.aKo,Fu.kp,bi,(fun _ _ h=>nomatch h),aK9 (fun _=>rfl)⟩
 | k+1=>aOi X (aVe X k) vOk
theorem aXj (X:Txt K mg t)(j:Nat):Def P w K mg base (j+1) "_law_cell" (aKp t):=aU7 X vOk
theorem aF8 (X:Txt K mg t)(j:Nat):Def P w K mg base (j+1) "_law_draw" (aC1 t):=aU6 X vOk
theorem aZ6 (X:Txt K mg t)(j:Nat):Def P w K mg base (j+2) "_law_rotated" (bKh t):=aOh X (aF8 X j) vOk
theorem bKt (X:Txt K mg t)(j:Nat):Def P w K mg base (j+2) "_law_column" (aHc t):=aQ4 X (aF8 X j) vOk
theorem bDs (X:Txt K mg t)(j:Nat):Def P w K mg base (j+3) "_law_some" (bKg t):=aU5 X (aF8 X (j+1)) (aZ6 X j) vOk
theorem bDl (X:Txt K mg t)(j:Nat):Def P w K mg base (j+4) "_law_one_word" (bFp t):=aNf X (bKt X (j+1)) (aF8 X (j+2)) (bDs X j) vOk
theorem bAg (X:Txt K mg t)(j:Nat):Def P w K mg base (j+5) "_law_question" (aFu t):=aNe X (aF8 X (j+3)) (bDl X j) vOk
theorem bBw (X:Txt K mg t)(j:Nat):Def P w K mg base (j+3) "_law_heads" (bB9 t):=aS2 X (aXj X (j+1)) (aF8 X (j+1)) (aZ6 X j) vOk
theorem aZh (X:Txt K mg t)(j:Nat):Def P w K mg base (j+2) "_law_words" (bB5 t):=aS0 X (aF8 X j) vOk
theorem aRw (X:Txt K mg t)(j:Nat):Def P w K mg base (j+6) "_law_due" (bFw t):=by
 obtain⟨fd1,Fu1,bi1⟩:=X.aA8;obtain⟨fd2,Fu2,bi2⟩:=X.aB9;obtain⟨fd3,Fu3,bi3⟩:=X.aCf;exact aPw X (k:=j+5) ((aVe X 5).mono (by omega)) ⟨_,_,_,X.aTk,Fu1.kp,bi1,aRd,aK9 (F:=noF) (fun _=>rfl)⟩ ⟨_,_,_,X.aJd,Fu2.kp,bi2,aRd,aK9 (F:=noF) (fun _=>rfl)⟩ ⟨_,_,_,X.aKn,Fu3.kp,bi3,aRd,aK9 (F:=noF) (fun _=>rfl)⟩ vOk
theorem bFv (X:Txt K mg t)(j:Nat):Def P w K mg base (j+8) "_law_due" (bLf t):=
 aPw X (k:=j+7) ((aVe X 5).mono (by omega)) ((aRw X j).mono (by omega)) (aNd X (k:=j+6) (aRw X j) vOk) (aOg X (k:=j+6) (aRw X j) vOk) vOk
theorem aZ8 (X:Txt K mg t)(j:Nat):Def P w K mg base (j+1) "_law_right" (aPp t):=aS1 X vOk
theorem aZm (X:Txt K mg t)(j:Nat):Def P w K mg base (j+1) "together_head" (aFt t):=aMd X aC2 aF1
variable (hC:Jp base t.cd t.tab)(hB:Blt mg base)(hcd: ∀fd,Fun K "head_of" "head_of" aD9 t.aE4 fd->fd.code= .ref t.cd)(aBi:aWa P w K t.aDa aB0)
include aBi in
theorem bMz (X:Txt K mg t)(j:Nat):Def P w K mg base (j+2) "parts_but_of_rings" (fPB t):=aIc X (aU3 X (k:=j) aBi vOk) vOk
include aBi in
theorem bMj (X:Txt K mg t){R:List D->M D}(j:Nat)(hR:aKs P w K mg base t.tab pq (j+9) "ring_head" R):aO8 P w K mg base t.tab pq (j+11) (Ph t R):=by
 have hb:aKs P w K mg base t.tab pq (j+10) "head_by_word" (bwF t R):=
  aNh X (k:=j+9) (aOk X (k:=j+8) aC2 aF1) (aMe X (k:=j+8) (aQ5 X (k:=j+7) ((aWj X 5).mono (by omega)) vOk) aC2 aF1) (aOj X (k:=j+8) vOk) (aS3 X (k:=j+8) (aQ6 X (k:=j+7) aC2 aF1) aC2 aF1) hR (aQ3 X (k:=j+8) aC2 aF1) (aZm X (j+8)) aC2 aF1
 have hc:bGh P w K mg base t.tab pq (j+11) aAu (bH4 t R):=aNg X hb aC2 aF1;obtain⟨fd,Fu,bi⟩:=X.aFc;obtain⟨oc,od,kV,doc,pm,an,cdv,ct,osl,_,lk,_⟩:=Fu.ex;exact bMi (bMz aBi X (j+9)) X.aDp ⟨_,_,_,_,lk⟩ hc
include hC hB hcd aBi
theorem aXc (X:Txt K mg t){R:List D->M D}(j:Nat)(hR:aKs P w K mg base t.tab pq (j+9) "ring_head" R):aKs P w K mg base t.tab pq (j+15) "head_of" (aF0 t R):=by
 have f:=bMj aBi X j hR;have l1:aKs P w K mg base t.tab pq (j+12) "laid_out" (bBb t (Ph t R)):=aU8 X f aC2 aF1;have l2:aKs P w K mg base t.tab pq (j+13) "told_through" (ttF t (Ph t R)):=aNc X l1 (f.mono (by omega)) aC2 aF1;have l3:aKs P w K mg base t.tab pq (j+14) "told_from_parts" (bOt t R):=aKk X l2 aC2 aF1;exact aYb X l3 hC hB hcd aC2 aF1
theorem aZ7 (X:Txt K mg t)(j:Nat):aKs P w K mg base t.tab pq j "ring_head" noF:=by
 obtain⟨fd,Fu,bi⟩:=X.aDe;exact⟨_,_,_,X.aNu,Fu.kp,bi,aRd,(aK9 (F:=noF) fun _=>rfl).imp fun vs H Q E h=>h.2⟩
theorem bDo (X:Txt K mg t):aKs P w K mg base t.tab pq 23 "_law_told" (aXx t):=by
 have h0:=aXc hC hB hcd aBi X 0 (aZ7 hC hB hcd aBi X 9);have r1:aKs P w K mg base t.tab pq 16 "ring_head" (aOf t noF):=aSz X (k:=15) h0 (aZm X 14) (aU2 X (k:=14) vOk) aC2 aF1;have h1:=aXc hC hB hcd aBi X 7 r1;exact aU4 X (k:=22) h1 vOk
end
theorem bNp {P:Qv}{w:Q8}{K:Qa}{mg:Str->Option Qc}{base:Heap}{t:Adr}(X:Txt K mg t)(hC:Jp base t.cd t.tab)(hB:Blt mg base)(hcd: ∀fd,Fun K "head_of" "head_of" aD9 t.aE4 fd->fd.code= .ref t.cd)(aBi:aWa P w K t.aDa aB0){fd:Z9}(Fu:Fun K "law" "law" bDz t.aVv fd):FnT P w K mg base t.tab pq 24 t.aVv fd ["_law_script"] (tt bIg):=
 bKe X Fu (k:=23) (aXj X 22) (aF8 X 22) (bFv X 15) (bBw X 20) (bAg X 18) (aZ8 X 22) (bDo hC hB hcd aBi X) (aZh X 21) (bJy X)
end K30
namespace K30
open PySem PySem.W L2 L2.HD
def aZc:Params->Frag:=fun P=>
 (nat_lit 2,⟨.none,none,.dict #[] 0,#[]⟩)::
 (nat_lit 3,od 49 [de P "__name__" 165 (vs "law_whence_k30_heads_of_one_word" 448),
  de P "__doc__" 166 .none,
  de P "__package__" 167 .none,
  de P "__loader__" 168 (.builtin "__main__.__loader__#opaque"),
  de P "__spec__" 169 .none,
  de P "__annotations__" 170 (.ref 6),
  de P "__builtins__" 171 (.ref 4),
  de P "__file__" 173 (vs "/claim/cut.py" 172),
  de P "__cached__" 174 .none,
  de P "WhenceError" 206 (.ref 24),
  de P "NoColumn" 222 (.ref 37),
  de P "NoTable" 238 (.ref 49),
  de P "NoFit" 254 (.ref 61),
  de P "Twice" 270 (.ref 73),
  de P "kept_head" 281 (.ref 82),
  de P "check_once" 288 (.ref 89),
  de P "called_head" 294 (.ref 94),
  de P "joined_head" 300 (.ref 99),
  de P "together_head" 308 (.ref 106),
  de P "columns_of" 317 (.ref 113),
  de P "columns_told" 326 (.ref 120),
  de P "check_columns" 335 (.ref 127),
  de P "FIRST_PART" 359 (.ref 128),
  de P "parts_of" 366 (.ref 135),
  de P "parts_but_of_rings" 373 (.ref 142),
  de P "laid_out" 385 (.ref 149),
  de P "told_through" 391 (.ref 154),
  de P "told_from_parts" 399 (.ref 161),
  de P "head_of" 409 (.ref 168),
  de P "head_by_word" 419 (.ref 175),
  de P "table_head" 427 (.ref 182),
  de P "ring_head" 437 (.ref 189),
  de P "with_key" 447 (.ref 196),
  de P "_law_cell" 457 (.ref 203),
  de P "_law_draw" 466 (.ref 210),
  de P "_law_words" 472 (.ref 215),
  de P "_law_rotated" 481 (.ref 222),
  de P "_law_columns" 488 (.ref 229),
  de P "_law_two_due" 494 (.ref 234),
  de P "_law_ring_due" 505 (.ref 241),
  de P "_law_due" 511 (.ref 246),
  de P "_law_heads" 517 (.ref 251),
  de P "_law_column" 527 (.ref 258),
  de P "_law_some" 539 (.ref 265),
  de P "_law_one_word" 552 (.ref 272),
  de P "_law_question" 569 (.ref 279),
  de P "_law_told" 580 (.ref 286),
  de P "_law_right" 590 (.ref 293),
  de P "law" 605 (.ref 300)])::
 (nat_lit 23,od 3 [de P "__module__" 196 (vs "whence.errors" 187),
  de P "__firstlineno__" 200 (.int 2 199),
  de P "__static_attributes__" 201 (.ref 22),
  de P "__weakref__" 203 (.ref 25),
  de P "__doc__" 204 .none])::
 (nat_lit 24,⟨(.type "type"),none,.cls ⟨"WhenceError",[(.type "ValueError")],[(.ref 24),(.type "ValueError"),(.type "Exception"),(.type "BaseException"),(.type "object")],23,"WhenceError",true,[],[(.ref 37),(.ref 49),(.ref 61),(.ref 73)],false,none,false⟩,#[some (.ref 15),none,some (vs "WhenceError" 189),some (vs "WhenceError" 197),some (.builtin "ValueError.__new__"),some (.bool true)]⟩)::
 (nat_lit 25,gwd 202 24)::
 (nat_lit 36,od 2 [de P "__module__" 214 (vs "whence.errors" 187),
  de P "__firstlineno__" 218 (.int 4 217),
  de P "__static_attributes__" 219 (.ref 35),
  de P "__doc__" 220 .none])::
 (nat_lit 37,⟨(.type "type"),none,.cls ⟨"NoColumn",[(.ref 24)],[(.ref 37),(.ref 24),(.type "ValueError"),(.type "Exception"),(.type "BaseException"),(.type "object")],36,"NoColumn",true,[],[],false,none,false⟩,#[some (.ref 28),none,some (vs "NoColumn" 207),some (vs "NoColumn" 215),some (.builtin "ValueError.__new__"),some (.bool true)]⟩)::
 (nat_lit 48,od 2 [de P "__module__" 230 (vs "whence.errors" 187),
  de P "__firstlineno__" 234 (.int 6 233),
  de P "__static_attributes__" 235 (.ref 47),
  de P "__doc__" 236 .none])::
 (nat_lit 49,⟨(.type "type"),none,.cls ⟨"NoTable",[(.ref 24)],[(.ref 49),(.ref 24),(.type "ValueError"),(.type "Exception"),(.type "BaseException"),(.type "object")],48,"NoTable",true,[],[],false,none,false⟩,#[some (.ref 40),none,some (vs "NoTable" 223),some (vs "NoTable" 231),some (.builtin "ValueError.__new__"),some (.bool true)]⟩)::
 (nat_lit 60,od 2 [de P "__module__" 246 (vs "whence.errors" 187),
  de P "__firstlineno__" 250 (.int 8 249),
  de P "__static_attributes__" 251 (.ref 59),
  de P "__doc__" 252 .none])::
 (nat_lit 61,⟨(.type "type"),none,.cls ⟨"NoFit",[(.ref 24)],[(.ref 61),(.ref 24),(.type "ValueError"),(.type "Exception"),(.type "BaseException"),(.type "object")],60,"NoFit",true,[],[],false,none,false⟩,#[some (.ref 52),none,some (vs "NoFit" 239),some (vs "NoFit" 247),some (.builtin "ValueError.__new__"),some (.bool true)]⟩)::
 (nat_lit 72,od 2 [de P "__module__" 262 (vs "whence.errors" 187),
  de P "__firstlineno__" 266 (.int 10 265),
  de P "__static_attributes__" 267 (.ref 71),
  de P "__doc__" 268 .none])::
 (nat_lit 73,⟨(.type "type"),none,.cls ⟨"Twice",[(.ref 24)],[(.ref 73),(.ref 24),(.type "ValueError"),(.type "Exception"),(.type "BaseException"),(.type "object")],72,"Twice",true,[],[],false,none,false⟩,#[some (.ref 64),none,some (vs "Twice" 255),some (vs "Twice" 263),some (.builtin "ValueError.__new__"),some (.bool true)]⟩)::
 (nat_lit 81,oc "kept_head" 273 "kept_head" 274 275 13 2 3 (q5 181 76 77 78 79 80) 279 13 280)::
 (nat_lit 82,of "kept_head" "kept_head" (top 7) "whence.heads" 271 81)::
 (nat_lit 88,oc "check_once" 282 "check_once" 283 284 19 1 3 (q5 181 83 84 85 86 87) 286 19 287)::
 (nat_lit 89,of "check_once" "check_once" (top 8) "whence.heads" 271 88)::
 (nat_lit 93,oc "called_head" 289 "called_head" 290 291 22 3 3 (q3 181 90 91 92) 292 22 293)::
 (nat_lit 94,of "called_head" "called_head" (top 9) "whence.heads" 271 93)::
 (nat_lit 98,oc "joined_head" 295 "joined_head" 296 297 28 2 3 (q3 181 95 96 97) 298 28 299)::
 (nat_lit 99,of "joined_head" "joined_head" (top 10) "whence.heads" 271 98)::
 (nat_lit 105,oc "together_head" 301 "together_head" 302 303 30 2 3 (q5 181 100 101 102 103 104) 306 30 307)::
 (nat_lit 106,of "together_head" "together_head" (top 11) "whence.heads" 271 105)::
 (nat_lit 112,oc "columns_of" 311 "columns_of" 312 313 35 1 3 (q5 181 107 108 109 110 111) 315 35 316)::
 (nat_lit 113,of "columns_of" "columns_of" (top 13) "whence.picks" 309 112)::
 (nat_lit 119,oc "columns_told" 318 "columns_told" 319 320 37 1 3 (q5 181 114 115 116 117 118) 324 37 325)::
 (nat_lit 120,of "columns_told" "columns_told" (top 14) "whence.picks" 309 119)::
 (nat_lit 126,oc "check_columns" 327 "check_columns" 328 329 46 2 3 (q5 181 121 122 123 124 125) 333 46 334)::
 (nat_lit 127,of "check_columns" "check_columns" (top 15) "whence.picks" 309 126)::
 (nat_lit 128,od 7 [de P "table" 338 (.int 2 339),
  de P "pick" 340 (.int 2 341),
  de P "keep" 342 (.int 2 343),
  de P "call" 344 (.int 3 345),
  de P "join" 346 (.int 1 347),
  de P "put" 348 (.int 1 349),
  de P "ring" 350 (.int 3 351)])::
 (nat_lit 134,oc "parts_of" 360 "parts_of" 361 362 52 1 3 (q5 181 129 130 131 132 133) 364 52 365)::
 (nat_lit 135,of "parts_of" "parts_of" (top 18) "whence.questions" 336 134)::
 (nat_lit 141,oc "parts_but_of_rings" 367 "parts_but_of_rings" 368 369 54 1 3 (q5 181 136 137 138 139 140) 371 54 372)::
 (nat_lit 142,of "parts_but_of_rings" "parts_but_of_rings" (top 19) "whence.questions" 336 141)::
 (nat_lit 148,oc "laid_out" 374 "laid_out" 375 376 56 2 3 (q5 181 143 144 145 146 147) 383 56 384)::
 (nat_lit 149,of "laid_out" "laid_out" (top 20) "whence.questions" 336 148)::
 (nat_lit 153,oc "told_through" 386 "told_through" 387 388 65 3 3 (q3 181 150 151 152) 389 65 390)::
 (nat_lit 154,of "told_through" "told_through" (top 21) "whence.questions" 336 153)::
 (nat_lit 160,oc "told_from_parts" 392 "told_from_parts" 393 394 72 2 3 (q5 181 155 156 157 158 159) 397 72 398)::
 (nat_lit 161,of "told_from_parts" "told_from_parts" (top 22) "whence.questions" 336 160)::
 (nat_lit 167,oc "head_of" 400 "head_of" 401 402 74 2 3 (q5 181 162 163 164 165 166) 407 74 408)::
 (nat_lit 168,of "head_of" "head_of" (top 23) "whence.questions" 336 167)::
 (nat_lit 174,oc "head_by_word" 410 "head_by_word" 411 412 79 3 3 (q5 181 169 170 171 172 173) 417 79 418)::
 (nat_lit 175,of "head_by_word" "head_by_word" (top 24) "whence.questions" 336 174)::
 (nat_lit 181,oc "table_head" 420 "table_head" 421 422 95 2 3 (q5 181 176 177 178 179 180) 425 95 426)::
 (nat_lit 182,of "table_head" "table_head" (top 25) "whence.questions" 336 181)::
 (nat_lit 188,oc "ring_head" 428 "ring_head" 429 430 99 2 3 (q5 181 183 184 185 186 187) 435 99 436)::
 (nat_lit 189,of "ring_head" "ring_head" (top 26) "whence.questions" 336 188)::
 (nat_lit 195,oc "with_key" 438 "with_key" 439 440 105 3 3 (q5 181 190 191 192 193 194) 445 105 446)::
 (nat_lit 196,of "with_key" "with_key" (top 27) "whence.questions" 336 195)::
 (nat_lit 202,oc "_law_cell" 450 "_law_cell" 451 452 110 2 3 (q5 181 197 198 199 200 201) 455 110 456)::
 (nat_lit 203,of "_law_cell" "_law_cell" (top 29) "law_whence_k30_heads_of_one_word" 448 202)::
 (nat_lit 209,oc "_law_draw" 458 "_law_draw" 459 460 114 3 3 (q5 181 204 205 206 207 208) 464 114 465)::
 (nat_lit 210,of "_law_draw" "_law_draw" (top 30) "law_whence_k30_heads_of_one_word" 448 209)::
 (nat_lit 214,oc "_law_words" 467 "_law_words" 468 469 116 2 3 (q3 181 211 212 213) 470 116 471)::
 (nat_lit 215,of "_law_words" "_law_words" (top 31) "law_whence_k30_heads_of_one_word" 448 214)::
 (nat_lit 221,oc "_law_rotated" 473 "_law_rotated" 474 475 121 2 3 (q5 181 216 217 218 219 220) 479 121 480)::
 (nat_lit 222,of "_law_rotated" "_law_rotated" (top 32) "law_whence_k30_heads_of_one_word" 448 221)::
 (nat_lit 228,oc "_law_columns" 482 "_law_columns" 483 484 126 1 3 (q5 181 223 224 225 226 227) 486 126 487)::
 (nat_lit 229,of "_law_columns" "_law_columns" (top 33) "law_whence_k30_heads_of_one_word" 448 228)::
 (nat_lit 233,oc "_law_two_due" 489 "_law_two_due" 490 491 134 2 3 (q3 181 230 231 232) 492 134 493)::
 (nat_lit 234,of "_law_two_due" "_law_two_due" (top 34) "law_whence_k30_heads_of_one_word" 448 233)::
 (nat_lit 240,oc "_law_ring_due" 495 "_law_ring_due" 496 497 146 2 3 (q5 181 235 236 237 238 239) 503 146 504)::
 (nat_lit 241,of "_law_ring_due" "_law_ring_due" (top 35) "law_whence_k30_heads_of_one_word" 448 240)::
 (nat_lit 245,oc "_law_due" 506 "_law_due" 507 508 160 2 3 (q3 181 242 243 244) 509 160 510)::
 (nat_lit 246,of "_law_due" "_law_due" (top 36) "law_whence_k30_heads_of_one_word" 448 245)::
 (nat_lit 250,oc "_law_heads" 512 "_law_heads" 513 514 190 3 3 (q3 181 247 248 249) 515 190 516)::
 (nat_lit 251,of "_law_heads" "_law_heads" (top 37) "law_whence_k30_heads_of_one_word" 448 250)::
 (nat_lit 257,oc "_law_column" 518 "_law_column" 519 520 201 4 3 (q5 181 252 253 254 255 256) 525 201 526)::
 (nat_lit 258,of "_law_column" "_law_column" (top 38) "law_whence_k30_heads_of_one_word" 448 257)::
 (nat_lit 264,oc "_law_some" 528 "_law_some" 529 530 205 3 3 (q5 181 259 260 261 262 263) 537 205 538)::
 (nat_lit 265,of "_law_some" "_law_some" (top 39) "law_whence_k30_heads_of_one_word" 448 264)::
 (nat_lit 271,oc "_law_one_word" 540 "_law_one_word" 541 542 214 4 3 (q5 181 266 267 268 269 270) 550 214 551)::
 (nat_lit 272,of "_law_one_word" "_law_one_word" (top 40) "law_whence_k30_heads_of_one_word" 448 271)::
 (nat_lit 278,oc "_law_question" 553 "_law_question" 554 555 227 5 3 (q5 181 273 274 275 276 277) 567 227 568)::
 (nat_lit 279,of "_law_question" "_law_question" (top 41) "law_whence_k30_heads_of_one_word" 448 278)::
 (nat_lit 285,oc "_law_told" 570 "_law_told" 571 572 243 2 3 (q5 181 280 281 282 283 284) 578 243 579)::
 (nat_lit 286,of "_law_told" "_law_told" (top 42) "law_whence_k30_heads_of_one_word" 448 285)::
 (nat_lit 292,oc "_law_right" 581 "_law_right" 582 583 253 2 3 (q5 181 287 288 289 290 291) 588 253 589)::
 (nat_lit 293,of "_law_right" "_law_right" (top 43) "law_whence_k30_heads_of_one_word" 448 292)::
 (nat_lit 299,oc "law" 591 "law" 592 593 263 1 3 (q5 181 294 295 296 297 298) 603 263 604)::
 (nat_lit 300,of "law" "law" (top 44) "law_whence_k30_heads_of_one_word" 448 299)::[]
theorem bNd (P:Params):(aZc P).lookup (nat_lit 163)=none:=by kernel_rfl
def bFm:Params->Frag:=fun P=>(nat_lit 163,tabObj #[])::aZc P
def fas:List Addr:=[163,2,3,23,24,25,36,37,48,49,60,61,72,73,81,82,88,89,93,94,98,99,105,106,112,113,119,120,126,127,128,134,135,141,142,148,149,153,154,160,161,167,168,174,175,181,182,188,189,195,196,202,203,209,210,214,215,221,222,228,229,233,234,240,241,245,246,250,251,257,258,264,265,271,272,278,279,285,286,292,293,299,300]
theorem bOb: ∀P,fas=(bFm P).map (·.1):=fun P=>by kernel_rfl
def vw:Qv:=view PySem.Challenge.pw_whence_k30_heads_of_one_word [1,2,3,4,5,7,8,9,10,11,13,14,15,17,18,19,20,21,22,23,24,25,26,27,29,30,31,32,33,34,35,36,37,38,39,40,41,42,43,44]
abbrev hook:Hook:=kHook bFm fas bOb
set_option maxHeartbeats 0 in
theorem left:LeftO PySem.Challenge.pw_whence_k30_heads_of_one_word vw ["FIRST_PART"] (fun s=>xlAt vw [] s&&recOk (RowW.records PySem.Challenge.rw_whence_k30_heads_of_one_word.row.toRowW) s) (Hook.obs hook) (Hook.val hook) 4600:=by
 refine bJw (boot_open (by kernel_rfl) (by decide+kernel) (fun s=>by kernel_rfl)) fun w=> ?_
 rw[Fast.te5923862056798008813,Fast.te4187177175401517315,Fast.te6613529449190102663,Fast.te10156331382660048174,Fast.te11892475500146522536,Fast.te14364793385576792824];have e:=World.withFollow_self w "special-get-raises";cases hb:w.params.followText "special-get-raises"<;>rw[hb] at e<;>rw[<-e]<;>kernel_rfl
def adr:Adr:={cd:=167,tab:=163,aCd:=24,aAl:=37,aA1:=49,aBp:=61,aBr:=73,aJx:=82,aIl:=89,aHb:=94,aHa:=99,aFr:=106,aIk:=113,aGp:=120,aFs:=127,aLb:=135,aBo:=142,aLg:=149,aGk:=154,aEp:=161,aE4:=168,aGo:=175,aIi:=182,aJt:=189,aLa:=196,aLf:=203,aLe:=210,aJu:=215,aG8:=222,aG9:=229,aG7:=234,aGl:=241,aNw:=246,aJw:=251,aIj:=258,aLd:=265,aGn:=272,aGm:=279,aLc:=286,aJv:=293,aVv:=300,aDa:=128}
set_option maxHeartbeats 0 in
theorem txt {P:Params}{h:Heap}{mg:Str->Option Qc}(X:(aZc P).In h)(G:h.Ns Y1 mg):Txt (aZc P) mg adr:=by
 refine⟨?_,?_,?_,?_,?_,?_,?_,?_,?_,?_,?_,?_,?_,?_,?_,?_,?_,?_,?_,?_,?_,?_,?_,?_,?_,?_,?_,?_,?_,?_,?_,?_,?_,?_,?_,?_,?_,?_,?_,?_,?_,?_,?_,?_,?_,?_,?_,?_,?_,?_,?_,?_,?_,?_,fo2 "whence.heads" 271 81,?_,fo1 "whence.heads" 271 88,?_,fo3 "whence.heads" 271 93,?_,fo2 "whence.heads" 271 98,?_,fo2 "whence.heads" 271 105,?_,fo1 "whence.picks" 309 112,?_,fo1 "whence.picks" 309 119,?_,fo2 "whence.picks" 309 126,?_,fo1 "whence.questions" 336 134,?_,fo1 "whence.questions" 336 141,?_,fo2 "whence.questions" 336 148,?_,fo3 "whence.questions" 336 153,?_,fo2 "whence.questions" 336 160,?_,fo2 "whence.questions" 336 167,?_,fo3 "whence.questions" 336 174,?_,fo2 "whence.questions" 336 181,?_,fo2 "whence.questions" 336 188,?_,fo3 "whence.questions" 336 195,?_,fo2 "law_whence_k30_heads_of_one_word" 448 202,?_,fo3 "law_whence_k30_heads_of_one_word" 448 209,?_,fo2 "law_whence_k30_heads_of_one_word" 448 214,?_,fo2 "law_whence_k30_heads_of_one_word" 448 221,?_,fo1 "law_whence_k30_heads_of_one_word" 448 228,?_,fo2 "law_whence_k30_heads_of_one_word" 448 233,?_,fo2 "law_whence_k30_heads_of_one_word" 448 240,?_,fo2 "law_whence_k30_heads_of_one_word" 448 245,?_,fo3 "law_whence_k30_heads_of_one_word" 448 250,?_,fo4 "law_whence_k30_heads_of_one_word" 448 257,?_,fo3 "law_whence_k30_heads_of_one_word" 448 264,?_,fo4 "law_whence_k30_heads_of_one_word" 448 271,?_,fo5 "law_whence_k30_heads_of_one_word" 448 278,?_,fo2 "law_whence_k30_heads_of_one_word" 448 285,?_,fo2 "law_whence_k30_heads_of_one_word" 448 292,?_,fo1 "law_whence_k30_heads_of_one_word" 448 299,?_,?_,?_,?_,?_,?_,?_,?_,?_,?_,?_,?_,?_,?_,?_⟩
 all_goals first | exact mg_of X G (by kernel_rfl) | exact mg_none_of X G (by kernel_rfl) | decide |(refine⟨?_,?_,?_,?_⟩<;>kernel_rfl) |(refine⟨?_,?_,?_⟩<;>kernel_rfl) | kernel_rfl |(refine⟨?_,?_,?_,?_,?_,?_,?_,?_⟩<;>kernel_rfl) |(intro C hC;simp only[cs,Z1,decide_eq_true_eq] at hC;rcases hC with _<;>exact⟨⟨by kernel_rfl,by kernel_rfl,by kernel_rfl,by kernel_rfl⟩,by unfold bOp;kernel_rfl⟩)
theorem in1 {P:Params}{h:Heap}(X:(bFm P).In h):(aZc P).In h:=fun b o e=>X b o (by
 show Wj b ((nat_lit 163,tabObj #[])::aZc P)=some o;rw[Wj];split
 ·rename_i q
  rw[eq_of_beq q] at e;rw[bNd] at e;cases e
 ·exact e)
theorem in2 {P:Params}{h:Heap}(X:(bFm P).In h):h.get? adr.tab=some (tabObj #[]):=X _ _ rfl
theorem bJs (P:Params):(aZc P).lookup 167=some (oc "head_of" 400 "head_of" 401 402 74 2 3 (q5 181 162 163 164 165 166) 407 74 408):=by kernel_rfl
theorem bNn (P:Params):(aZc P).lookup 168=some (of "head_of" "head_of" (top 23) "whence.questions" 336 167):=by kernel_rfl
theorem bN3 {P:Params}{h:Heap}(X:(aZc P).In h):CodeHd h adr.cd adr.tab:=⟨_,_,_,_,_,_,_,_,_,X _ _ (bJs P),rfl,rfl,rfl,rfl,rfl,rfl,rfl,rfl,by decide⟩
theorem codeOf {P:Params}(fd:Z9)(F:Fun (aZc P) "head_of" "head_of" aD9 adr.aE4 fd):fd.code= .ref adr.cd:=by
 obtain⟨oc,od,kV,doc,pm,an,cdv,ct,osl,rfl,lk,hcd⟩:=F.ex;have e:=congrArg (fun o:Obj=>match o.data with | .func f=>f.code | _=> .none) (Option.some.inj ((bNn P).symm.trans lk));exact e.symm
theorem aRl (P:Qv)(w:Q8):PU.aWa P w (aZc w.params) adr.aDa aB0:=PU.bFl (n:=7) (l:=[("table",338,2,339),("pick",340,2,341),("keep",342,2,343),("call",344,3,345),("join",346,1,347),("put",348,1,349),("ring",350,3,351)]) (by kernel_rfl)
end K30
namespace K30
open PySem PySem.Spec PyProof.Rows L2 L2.PU
def bPi (K:Qa)(T:Addr):Sp:=fun vs H Q _=> ∃(a:Addr) (ns:List Int),vs=[.ref a]/\H T=some (.tbl pq)/\SqL K H a (ns.map V.int)/\ns.length<=63/\∀H',Q (.bl true) H'
theorem walk {l:Vb}{q:Qv}{loose:List Str}{XP:(Str->Option Qc)->Heap->Prop}{YP:Q8->Heap->Prop}{d:DefRec}{K:Params->Qa}{t:Adr}(hn:l.most=some 63)(hdf:d.params.defaults=[])(hnm:d.name="law")
  (hY: ∀(w:Q8) (h:Heap),YP w h->(K w.params).In h) (hYT: ∀(w:Q8) (h:Heap),YP w h->h.get? t.tab=some (Us #[])) (hKT: ∀w:Q8,(K w.params).lookup t.tab=none) (hct: ∀(w:Q8) (h:Heap),(K w.params).In h->Jp h t.cd t.tab)
  (hcd: ∀(w:Q8) (fd:Z9),Fun (K w.params) "head_of" "head_of" aD9 t.aE4 fd->fd.code= .ref t.cd)
  (T: ∀(w:Q8) (mg:Str->Option Qc) (h:Heap),(K w.params).In h->h.Ns Y1 mg->Txt (K w.params) mg t) (aBi: ∀(P:Qv) (w:Q8),aWa P w (K w.params) t.aDa aB0):
  PySem.W.WalkO q loose XP YP l.row.toRowW d [] (fun f vs=>Wl f vs):=by
 refine bDm (n:=63) (k:=24) (x:="_law_script") (T:=t.tab) (c0:=t.cd) (pq:=pq) (CX:=fun w=>CXD l.prog w) (sp:=fun w=>bPi (K w.params) t.tab) hn (by decide) hdf ⟨rfl,by decide,by decide⟩ hY hYT hKT (fun w h X=>let ⟨o,vs,_,_,_,_,_,_,_,z1,z2,z3,z4,_⟩:=hct w h X;⟨_,o,vs,z1,z2,z3,z4⟩) (fun w mg fa h KX G hmg=> ?_) (fun _ _ a ns hl hT hS=>⟨a,ns,rfl,hT,hS,hl,fun _=>rfl⟩) (fun w H s e s' ⟨_,_,_,_,_,_,_,_,z⟩=>z);have T:=T w mg h KX G;have e:=hmg.symm.trans ((congrArg mg hnm).trans T.bQj);cases e;obtain⟨fd,Fu,bi⟩:=T.bQ6;refine⟨fd,fun s v=> ?_,fun base KB _ hB=> ?_⟩
 ·obtain⟨oc,od,kV,doc,pm,an,cdv,ct,osl,rfl,lk,hcd⟩:=Fu.ex
  exact .of_eq rfl
 ·refine (bNp (P:=l.prog) (w:=w) (base:=base) T (hct w base KB) hB (hcd w) (aBi _ w) Fu).imp fun vs H Q E ⟨a,ns,e1,hT,hS,hl,q⟩=> ?_
  subst e1;refine⟨hT,[.lst (ns.map D.int)],.cons (.lst hS (aW5 ns)) .nil,rfl,?_⟩;rw[bO9 (show bIg _ from⟨ns,rfl,hl⟩)];intro v H' s' i';cases i';exact q H'
end K30
open PySem PySem.W PyProof.Rows
set_option maxRecDepth 100000 in
set_option maxHeartbeats 0 in
theorem PySem.Challenge.cw_whence_k30_heads_of_one_word_holds : PySem.Challenge.rw_whence_k30_heads_of_one_word.Holds := by
 w_on;o_law
 refine L2.HD.holds_of (l:=PySem.Challenge.rw_whence_k30_heads_of_one_word) (q:=K30.vw) K30.left (by first | assumption | decide+kernel) (by rfl) (by rfl) (by rfl) (by rfl) (by decide+kernel) ⟨rfl,rfl,rfl,rfl,rfl,by decide+kernel⟩ ?hw ?hc
 (case hw=>w_witness2)
 exact K30.walk (l:=PySem.Challenge.rw_whence_k30_heads_of_one_word) (K:=K30.aZc) (t:=K30.adr) rfl rfl rfl (fun w h Y=>K30.in1 (PySem.W.kIn_of Y)) (fun w h Y=>K30.in2 (PySem.W.kIn_of Y)) (fun w=>K30.bNd _) (fun w h X=>K30.bN3 X) (fun w=>K30.codeOf) (fun w mg h KX G=>K30.txt KX G) K30.aRl
