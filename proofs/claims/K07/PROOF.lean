import PyProof.Rows.All
import Wide.All
import OpenK.AllK
import Wide.FinOn
import Lean
import PyProof.EqAt
import PyProof.EqKinds
import PyProof.TupleCall
import PySem.Challenge.RW_whence_k07_what_is_a_mark
noncomputable section
set_option Elab.async false
set_option linter.all false
set_option bootstrap.genMatcherCode false
set_option maxRecDepth 100000
open PySem renaming wpAny_bind→Qa,Value→Qd,wpAny_pure→Qe,Shared→Qf,strKind→Qi,wpAny→Qp,model→Qt,Program→Qx,sizeLine→Qy,wpAny_call_entry→Za,World→Zb,Around→Ze,starEach→Zi,wpAny_callSpecial?_slot→Zm,wpAny_newObj_type→Zx,wpAny_field→Z5,sizeLine_eq→Z6,rawInt→Z7,wpAny_setField_rec→Z8,wpAny_holding→Yh,wpAny_setState_of→Yk,codeAny_builtin→Ym,compareOp→Yp,SetTable→Yq,foldedSetIterable→Ys,wpAny_askSetting→Yw,wpAny_mono→Y1,wpAny_setEntries_of→Y2,swapsWith→Y3,DictEntry→Jc,wpAny_seqItems→Jg,binaryOp→Jh,sysModules→Jj,bootBuiltins→Jn,mainGlobals→Js,pyNext→Jx,attributeBase→Jy,wpAny_typeNameOfWhole_itemiter→J3,wpAny_Call_Name_kw→J8,wpAny_passesOwn→J9,mem_of_lookup→Ue,call→Vn,boot_len→Vo,Slot→Vp,Within→Ea,evalArgs_none→El
open PySem.Heap renaming get?_push_of_some→Qb,get?_push_size→Ql,lt_size→Qn,get?_update_other→Q8,size_push→Z2,SameBut→Z3,get?_update_self→Yg
open PySem.W renaming Frag→Qc,emptyDict→Yn,instObj→Jb,findIn→Jl,fnOf→Uv,keepIn→Ux,plainGet→Wc,lookIn→Wp,plainGet_of→Wt,callWith_K→Wx,methodObj→W1,hasDictIn→W2,takerIn→Va,codeIn→Vi,isFn→Vy,cellsFrom_some→Vz,plainOver→Em,kitx_dict→En,handedIn→Et,makesIn→Ez,OpenLaw→E0
open False renaming elim→Qg
open List renaming length_map→Qh,getElem?_eq_getElem→Qj,length_cons→Qk,mem_cons_self→Qm,length_append→Qq,mem_cons_of_mem→Qr,getElem?_set_ne→Qs,size_toArray→Qu,map_cons→Qv,getD_eq_getElem?_getD→Q0,getElem?_set_self→Q4,contains_iff_mem→Q5,getElem?_map→Q7,length_set→Q9,map_append→Zd,not_mem_nil→Zf,mem_append_right→Zh,range→Zj,length_range→Zo,any_eq_true→Zp,map_map→Zr,mem_cons→Zt,find?_cons→Zu,replicate→Zv,append_assoc→Z1,append_nil→Z9,getElem?_append_left→Yo,set_eq_of_length_le→Yr,length_take→Yv,all_cons→Yx,getElem?_append_right→Yy,getElem?_eq_none→Y4,zip_cons_cons→Y6,getElem_mem→Y7,mem_append_left→Ja,getElem?_replicate→Je,getElem?_cons_succ→Jf,any_cons→Jm,pairwise_map→Jq,map_congr_left→Jt,foldl_cons→J5,length_replicate→J7,mem_of_getElem?→Ua,length_drop→Ub,all_eq_true→Uc,rel_of_pairwise_cons→Ug,flatMap_append→Ui,any_eq_false→Uk,length_singleton→Up,ext_getElem→Uq,lookup→Ut,length→Uu,length_nil→Uw,perm_ext_iff_of_nodup→U4,mem_singleton→U5,find?_eq_none→U6,mem_of_find?_eq_some→U9,drop_eq_getElem_cons→Wa,getElem?_inj→Wg,flatMap_cons→Wh,map→Wl,getElem_cons_drop→Wo,nodup_cons→Wq,take_append_drop→Ws,forall_mem_cons→Ww,mem_map_of_mem→Wy,filterMap_cons→Wz,nodup_append→W6,foldl_append→W7,flatten_cons→W8,perm_middle→Ve,lookup_cons→Vf,getElem_map→Vg,of_mem_zip→Vk,mem_filter→Vl,find?_some→Vm,nodup_nil→Vu,length_eraseIdx_of_lt→Vv,mem_or_eq_of_mem_set→V1,zip_map'→V5,length_erase_of_mem→V6,pairwise_mergeSort→Eb,append_cancel_left→Ec,map_set→Ed,map_nil→Ee,drop_eq_nil_of_le→Ef,all_nil→Eg,set_getElem_self→Ek,mem_erase_of_ne→Ep,map_id→Er,replicate_succ→Ev,mergeSort_perm→Ew,getElem?_range→Ex,zip_nil_right→E1,pairwise_cons→E2,map_inj_right→E3,getElem_idxOf→E4,find?→E5,filter_append→E6,contains_cons→E7,Nodup→E8
open Nat renaming le_refl→Qo,ne_of_lt→Qz,lt_of_lt_of_le→Q3,le_trans→Zs,zero_le→Zy,ne_of_gt→Yc,pow_le_pow_right→Jr,le_succ→J2,zero_add→Uf,lt_succ_of_lt→Ul,le_of_lt→Um,lt_succ_self→Ur,lt_irrefl→Us,lt_trans→Uz,add_sub_cancel→U8,testBit_lt_two_pow→Ei,pow_succ→Ej,eq_of_testBit_eq→Eu
open Or renaming inl→Qw,inr→Yt
open PySem.Value renaming ref→Q1,none→Zn,isStrOf_shape→Ye,type→Jd,str→Jk
open Bool renaming false_ne_true→Q2,and_eq_true→Zg,eq_iff_iff→Yd,or_eq_true→Yu,noConfusion→Jv,and_false→Jw,not_eq_true'→W9,false_and→Vx,true_and→V7,or_assoc→V8,and_true→V9,or_true→Eh,or_eq_false_iff→Es,false_eq_true→E9
open Array renaming length_toList→Q6,getElem?_eq_getElem→Jp,getD→U0,size_append→Wb,getElem?_eq_none→Wn,toList_push→W5,append_assoc→Ey
open Int renaming toNat_natCast→Zc
open PySem.Builtin.SmallTypes renaming nextOf→Zk
open Sum renaming inl→Zl,inr→Yl
open PySem.AutoSeq1 renaming wpAny_loadPart'→Zq
open PySem.Heap.SameBut renaming update→Zw
open PySem.Obj renaming mapSeq→Zz,data_mapFields→Y8
open PySem.Builtin.List renaming listExtendWith→Z0
open PySem.Builtin.Int renaming intBits→Z4
open PyProof.Rows renaming seqObj→Yb,get?_update_seq→Y5,slot_tuple_getitem→Jo,callWith_type1→Uo,callWith_builtin1→Wv,setObjOf_fresh→W3
open PySem.PassesOwn renaming never→Yi
open PySem.Around renaming under_plainId→Yj
open PySem.Str renaming ofString→Yz,empty→Jz
open PySem.SetTable renaming sizeAbove→Y0
open PySem.Builtin.Frozenset renaming isAnySet→Y9
open PySem.F renaming slot_dict_itemiterator_next→Ji,slot_tuple_iterator_next→Uh,plain_extend_loop→Uy,args_tuple_add_2→U7,plainAttrs_list→Wd,plainAttrs_dict→We,entry_tuple_add→Wf,slot_tuple_add→Wk,slot_dict_get→Wm,args_dict_itemiterator_next_1→Wr,entry_dict_itemiterator_next→Wu,slot_dict_setdefault→Vb,slot_dict_items_iter→Vc,slot_int_bit_length→Vd,entry_extend_loop→Vj,slot_list_append→Vq,slot_dict_items→Vr,args_dict_get_3→Vs,entry_dict_get→V0,slot_tuple_ne→V2,slot_tuple_lt→V3
open Prod renaming snd→Ju,fst→Vt
open PySem.Calls renaming spliced_cons→J0,callWith_builtin→J1,call_function_entry→Ud
open PyProof.Rows.F renaming plain_set_update_loop→J4,entry_set_update_loop→Wi
open PySem.Builtin.Slice renaming slicePlaces→J6
open Classical renaming choose→Uj,byContradiction→Vh,choose_spec→Vw
open Option renaming getD_none→Wj,isSome_map→W4,map_eq_none_iff→V4,isSome_some→Eo
namespace L2
open PySem PySem.Spec PyProof.Rows
abbrev Key:=Sum Int Str
def aVr:Key->Qd->Bool
 | .inl k,v=>Value.isInt k v
 | .inr x,v=>Value.isStrOf x v
def bW0 (w:Zb):Key->Int
 | .inl k=>hashInt k
 | .inr x=>hashStr w x
theorem aBr: ∀{k:Key} {v:Qd},aVr k v=true->(∃i t,k=Zl i/\v=Value.int i t)\/(∃x t,k=Yl x/\v=Jk x t)
 | .inl i,v,h=>by
  obtain⟨t,e⟩:=Value.isInt_shape (k:=i) (v:=v) h;exact .inl ⟨i,t,rfl,e⟩
 | .inr x,v,h=>by
  obtain⟨t,e⟩:=Ye (x:=x) (v:=v) h;exact .inr ⟨x,t,rfl,e⟩
theorem bC3 (i:Int)(t:Tok):aVr (.inl i) (.int i t)=true:=by simp[aVr,Value.isInt]
theorem bC2 (x:Str)(t:Tok):aVr (.inr x) (.str x t)=true:=by simp[aVr,Value.isStrOf]
theorem bQj (a b:Int):decide ((Zl a:Key)=Zl b)=(a==b):=by
 by_cases e:a=b
 ·subst e;simp
 ·have h:¬(Zl a:Key)=Zl b:=fun q=>e (Sum.inl.inj q)
  rw[decide_eq_false h];exact (beq_eq_false_iff_ne.mpr e).symm
theorem bQg (a b:Str):decide ((Yl a:Key)=Yl b)=decide (a=b):=by
 by_cases e:a=b
 ·subst e;simp
 ·have h:¬(Yl a:Key)=Yl b:=fun q=>e (Sum.inr.inj q)
  rw[decide_eq_false h,decide_eq_false e]
theorem bQi (a:Int)(b:Str):decide ((Zl a:Key)=Yl b)=false:=decide_eq_false (fun q=>nomatch q)
theorem bQh (a:Str)(b:Int):decide ((Yl a:Key)=Zl b)=false:=decide_eq_false (fun q=>nomatch q)
def aBb (prog:Qx)(w:Zb):PySem.KeyKind prog w Key where
 is:=aVr
 hash:=bW0 w
 inj:=fun v a b ha hb=>by
  rcases aBr ha with⟨i,t,rfl,rfl⟩ |⟨x,t,rfl,rfl⟩
  ·rcases aBr hb with⟨j,u,rfl,e⟩ |⟨y,u,rfl,e⟩
   ·injection e with e1 _;rw[e1]
   ·exact nomatch e
  ·rcases aBr hb with⟨j,u,rfl,e⟩ |⟨y,u,rfl,e⟩
   ·exact nomatch e
   ·injection e with e1 _;rw[e1]
 byValue:=fun k v h=>by
  rcases aBr h with⟨i,t,rfl,rfl⟩ |⟨x,t,rfl,rfl⟩<;>rfl
 pyHash:=fun hv h=>by
  rcases aBr hv with⟨i,t,rfl,rfl⟩ |⟨x,t,rfl,rfl⟩
  ·exact wpAny_pyHash_int h
  ·exact wpAny_pyHash_str h
 eqBool:=fun hu hv h=>by
  rcases aBr hu with⟨i,t,rfl,rfl⟩ |⟨x,t,rfl,rfl⟩
  ·rcases aBr hv with⟨j,u,rfl,rfl⟩ |⟨y,u,rfl,rfl⟩
   ·rw[bQj] at h;exact wpAny_eqBool_int h
   ·rw[bQi] at h;exact SeqAt.EqAt.int_str i t y u _ _ _ _ h
  ·rcases aBr hv with⟨j,u,rfl,rfl⟩ |⟨y,u,rfl,rfl⟩
   ·rw[bQh] at h;exact SeqAt.EqAt.str_int x t j u _ _ _ _ h
   ·rw[bQg] at h;exact wpAny_eqBool_str h
 «strs»:=fun k x t v h=>by
  rcases aBr h with⟨i,u,rfl,e⟩ |⟨y,u,rfl,e⟩
  ·exact nomatch e
  ·injection e with e1 _
   subst e1;cases v<;>rfl
theorem aVn (prog:Qx)(w:Zb)(i:Int)(t:Tok):(aBb prog w).is (.inl i) (.int i t)=true:=bC3 i t
theorem aVm (prog:Qx)(w:Zb)(x:Str)(t:Tok):(aBb prog w).is (.inr x) (.str x t)=true:=bC2 x t
inductive V where
 | non | bl (b:Bool) | int (i:Int) | str (x:Str) | byt (b:Array UInt8) | flt (b:UInt64) | ref (a:Addr) | ty (n:String)
 deriving DecidableEq
def RelV:V->Qd->Prop
 | .non,u=>u=Zn
 | .bl b,u=>u=Value.bool b
 | .int i,u=> ∃t,u=Value.int i t
 | .str x,u=> ∃t,u=Jk x t
 | .byt b,u=> ∃t,u=Value.bytes b t
 | .flt b,u=> ∃t,u=Value.float b t
 | .ref a,u=>u=Q1 a
 | .ty n,u=>u=Jd n
abbrev Vals:List V->List Qd->Prop:=Paired RelV
theorem Vals.length {xs:List V}{us:List Qd}(r:Vals xs us):xs.length=us.length:=Paired.length r
theorem Vals.get: ∀{xs:List V} {us:List Qd} {i:Nat} {x:V},Vals xs us->xs[i]? =some x->∃u,us[i]? =some u/\RelV x u
 | _,_,_,_,.nil,e=>by simp at e
 | _,_,0,_,.cons r _,e=>by simp at e;subst e;exact⟨_,rfl,r⟩
 | _,_,i+1,x,.cons _ t,e=>by
  obtain⟨u,h1,h2⟩:=Vals.get (i:=i) (x:=x) t (by simpa using e);exact⟨u,by simpa using h1,h2⟩
theorem Vals.append: ∀{xs ys:List V} {us ws:List Qd},Vals xs us->Vals ys ws->Vals (xs++ys) (us++ws)
 | _,_,_,_,.nil,s=>s
 | _,_,_,_,.cons r t,s=> .cons r (Vals.append t s)
theorem Vals.take: ∀{xs:List V} {us:List Qd} (n:Nat),Vals xs us->Vals (xs.take n) (us.take n)
 | _,_,0,_=> .nil
 | _,_,_+1,.nil=> .nil
 | _,_,n+1,.cons r t=> .cons r (Vals.take n t)
theorem Vals.drop: ∀{xs:List V} {us:List Qd} (n:Nat),Vals xs us->Vals (xs.drop n) (us.drop n)
 | _,_,0,r=>r
 | _,_,_+1,.nil=> .nil
 | _,_,n+1,.cons _ t=>Vals.drop n t
def aPn:Option V->Option Qd->Prop
 | some v,some u=>RelV v u
 | none,none=>True
 | _,_=>False
def KV {κ:Type}:List (κ×V)->List (κ×Qd)->Prop:=Paired fun (p:κ×V) (q:κ×Qd)=>p.1=q.1/\RelV p.2 q.2
def kV:Key->V
 | .inl i=> .int i
 | .inr x=> .str x
inductive HO where
 | lst (xs:List V)
 | tup (xs:List V)
 | dK (kvs:List (Key×V)) | dT (kvs:List (List Key×V))
 | set (S:Str->Bool) (n:Nat)
 | ins (C dx:Addr) (fs:List (Str×V))
 | own (x:Addr)
 | xd (fs:List (Str×V))
 | met (f x:Addr)
 | rng (lo hi:Int)
 | frz (o:Obj) (u:HO)
 | tbl (ps:Array Qd)
 | ext (φ:Heap->Prop)
abbrev Hp:=Addr->Option HO
def upd (H:Hp)(a:Addr)(o:HO):Hp:=fun b=>if b=a then some o else H b
theorem aAm {H:Hp}{a:Addr}{o:HO}:upd H a o a=some o:=by unfold upd;rw[if_pos rfl]
theorem aAo {H:Hp}{a b:Addr}{o:HO}(h:b≠a):upd H a o b=H b:=by unfold upd;rw[if_neg h]
theorem bTl {H:Hp}{a b:Addr}{o u:HO}(h:H a=some o)(h':H b=some u)(d:o≠u):a≠b:=by
 intro e;subst e;rw[h] at h';exact d (Option.some.inj h')
theorem aCf {H:Hp}{a b:Addr}{o:HO}(h:H a=some o)(h':H b=none):a≠b:=by
 intro e;subst e;rw[h] at h';cases h'
def bXn (w:Zb)(o:Obj):Prop:= ∃es ep t,o.data= .set es ep t/\(w.params.followText "set-order"=true\/t.led=true)/\(es.size=0\/t.plain=false)
def aJ3 (w:Zb)(h:Heap)(a:Addr):Prop:= ∃o,h.get? a=some o/\bXn w o
def bFh (h:Heap)(a:Addr)(its:Array Qd):Prop:= ∃o,h.get? a=some o/\o.cls= .type "tuple"/\(∃n,o.data= .seq its n)/\o.dict=none
theorem bFh.tup {h:Heap}{a:Addr}{its:Array Qd}(x:bFh h a its):IsTup h a its:=let ⟨o,e,c,d,_⟩:=x;⟨o,e,c,d⟩
theorem bFh.lt {h:Heap}{a:Addr}{its:Array Qd}(x:bFh h a its):a<h.objs.size:=let ⟨_,e,_⟩:=x;Qn e
theorem bFh.new (h:Heap)(its:Array Qd):bFh (h.push {cls:= .type "tuple",data:= .seq its}) h.objs.size its:=⟨_,Ql _ rfl,rfl,⟨_,rfl⟩,rfl⟩
section
variable (P:Qx)(w:Zb)
def aBn (H:Hp)(h:Heap)(a:Addr):HO->Prop
 | .lst xs=>xs.length<=Qy/\∃(its:List Qd) (n:Nat),Vals xs its/\h.get? a=some {cls:= .type "list",data:= .seq its.toArray n}
 | .tup xs=>xs.length<=Qy/\∃its:List Qd,Vals xs its/\bFh h a its.toArray
 | .dK kvs=>kvs.length<=Qy/\(a==Jj)=false/\∃vs,KV kvs vs/\h.DictOf (aBb P w) a vs
 | .dT kvs=>kvs.length<=Qy/\(a==Jj)=false/\∃xs:List (List Key×Addr×Qd),
   Paired (fun (p:List Key×V) (q:List Key×Addr×Qd)=>p.1=q.1/\H q.2.1=some (.tup (p.1.map kV))/\RelV p.2 q.2.2) kvs xs/\
   ∃o es ep,h.get? a=some o/\o.ExactDict/\o.data= .dict es ep/\es.toList=xs.map (entryOfKey (tupleKind (aBb P w)))/\(xs.map (·.1)).Nodup
 | .set S n=>h.SetOf (Qi P w) a S n/\aJ3 w h a
 | .ins C dx fs=>H dx=some (.own a)/\fs.length<=1000/\dx≠a/\h.get? a=some (Jb C dx)/\
   ∃mA,h.Ns1 dx mA/\(∀f,aPn (fs.lookup f) (mA f))/\Ea mA (fs.map (·.1))
 | .own _=> ∃o,h.get? a=some o
 | .xd fs=> ∃mA,h.Ns1 a mA/\∀f,aPn (fs.lookup f) (mA f)
 | .rng lo hi=> ∃t u v,h.get? a=some {cls:= .type "range",data:= .fields #[.int lo t,.int hi u,.int 1 v]}
 | .frz o u=>h.get? a=some o/\aBn H h a u
 | .tbl ps=>h.get? a=some {cls:= .none,data:= .fields ps}
 | .met f x=>h.get? a=some (W1 (.ref f) (.ref x))
 | .ext φ=>φ h/\(∃o,h.get? a=some o)/\∀h1 h2:Heap,φ h1->(∀o,h1.get? a=some o->h2.get? a=some o)->φ h2
def HOk (H:Hp)(h:Heap):Prop:= ∀a o,H a=some o->aBn P w H h a o
end
section
variable {P:Qx}{w:Zb}{H H':Hp}{h h':Heap}{a:Addr}{o:HO}
theorem aBn.lt (x:aBn P w H h a o):a<h.objs.size:=by
 cases o with
 | lst xs=>obtain⟨_,_,_,_,e⟩:=x;exact Qn e
 | tup xs=>obtain⟨_,_,_,p⟩:=x;exact p.lt
 | dK kvs=>obtain⟨_,_,_,_,o,_,_,e,_⟩:=x;exact Qn e
 | dT kvs=>obtain⟨_,_,_,_,o,_,_,e,_⟩:=x;exact Qn e
 | set S n=>obtain⟨⟨o,_,_,_,e,_⟩,_⟩:=x;exact Qn e
 | ins C dx fs=>obtain⟨_,_,_,e,_⟩:=x;exact Qn e
 | own y=>obtain⟨_,e⟩:=x;exact Qn e
 | xd fs=>obtain⟨_,⟨_,_,_,e,_⟩,_⟩:=x;exact Qn e
 | rng lo hi=>obtain⟨_,_,_,e⟩:=x;exact Qn e
 | frz ob u=>obtain⟨e,_⟩:=x;exact Qn e
 | tbl ps=>exact Qn (show h.get? a=some _ from x)
 | met f y=>exact Qn (show h.get? a=some _ from x)
 | ext φ=>obtain⟨_,⟨_,e⟩,_⟩:=x;exact Qn e
theorem Paired.bP6 {α β:Type}{F G:α->β->Prop}: ∀{l₁:List α} {l₂:List β},Paired F l₁ l₂->(∀a b,F a b->G a b)->Paired G l₁ l₂
 | _,_,.nil,_=> .nil
 | _,_,.cons r t,f=> .cons (f _ _ r) (Paired.bP6 t f)
theorem aBn.stay (x:aBn P w H h a o)(k: ∀b u,(b=a\/H b=some (.own a))->h.get? b=some u->h'.get? b=some u)
  (ho: ∀b,H b=some (.own a)->H' b=some (.own a)) (ht: ∀b xs,H b=some (.tup xs)->H' b=some (.tup xs)):aBn P w H' h' a o:=by
 induction o with
 | lst xs=>obtain⟨z,its,n,r,e⟩:=x;exact⟨z,its,n,r,k _ _ (.inl rfl) e⟩
 | tup xs=>obtain⟨z,its,r,ob,e,c⟩:=x;exact⟨z,its,r,ob,k _ _ (.inl rfl) e,c⟩
 | dK kvs=>obtain⟨z,y,vs,r,ob,es,ep,e,c⟩:=x;exact⟨z,y,vs,r,ob,es,ep,k _ _ (.inl rfl) e,c⟩
 | dT kvs=>
  obtain⟨z,y,xs,r,ob,es,ep,e,c⟩:=x;exact⟨z,y,xs,Paired.bP6 r fun p q z=>⟨z.1,ht _ _ z.2.1,z.2.2⟩,ob,es,ep,k _ _ (.inl rfl) e,c⟩
 | set S n=>obtain⟨⟨ob,es,ep,t,e,c⟩,o',e',c'⟩:=x;exact⟨⟨ob,es,ep,t,k _ _ (.inl rfl) e,c⟩,o',k _ _ (.inl rfl) e',c'⟩
 | ins C dx fs=>
  obtain⟨d,z,ne,e,mA,⟨od,es,ep,e2,c⟩,r⟩:=x;exact⟨ho _ d,z,ne,k _ _ (.inl rfl) e,mA,⟨od,es,ep,k _ _ (.inr d) e2,c⟩,r⟩
 | own y=>obtain⟨ob,e⟩:=x;exact⟨ob,k _ _ (.inl rfl) e⟩
 | xd fs=>obtain⟨mA,⟨od,es,ep,e,c⟩,r⟩:=x;exact⟨mA,⟨od,es,ep,k _ _ (.inl rfl) e,c⟩,r⟩
 | rng lo hi=>obtain⟨t,u,v,e⟩:=x;exact⟨t,u,v,k _ _ (.inl rfl) e⟩
 | frz ob u ih=>obtain⟨e,q⟩:=x;exact⟨k _ _ (.inl rfl) e,ih q⟩
 | tbl ps=>
  have e:h.get? a=some {cls:= .none,data:= .fields ps}:=x;show h'.get? a=some {cls:= .none,data:= .fields ps};exact k a _ (.inl rfl) e
 | met f y=>
  have e:h.get? a=some (W1 (.ref f) (.ref y)):=x;show h'.get? a=some (W1 (.ref f) (.ref y));exact k a _ (.inl rfl) e
 | ext φ=>obtain⟨p,⟨o,e⟩,st⟩:=x;exact⟨st _ _ p fun o q=>k _ _ (.inl rfl) q,⟨o,k _ _ (.inl rfl) e⟩,st⟩
theorem HOk.lt (x:HOk P w H h)(e:H a=some o):a<h.objs.size:=(x a o e).lt
theorem HOk.fresh (x:HOk P w H h)(e:h.objs.size<=a):H a=none:=by
 cases q:H a with
 | none=>rfl
 | some u=>exact absurd (Q3 (x.lt q) e) (Us _)
theorem HOk.kept (x:HOk P w H h)(k: ∀b u,h.get? b=some u->h'.get? b=some u):HOk P w H h':=fun a o e=>
 (x a o e).stay (fun b u _ q=>k b u q) (fun _ q=>q) fun _ _ q=>q
theorem HOk.laid (x:HOk P w H h)(k: ∀b u,h.get? b=some u->h'.get? b=some u)(hp:h.objs.size<=a)(new:aBn P w (upd H a o) h' a o):HOk P w (upd H a o) h':=fun b u e=>by
 have hn:=x.fresh hp;by_cases hb:b=a
 ·subst hb;rw[aAm] at e;cases e;exact new
 ·rw[aAo hb] at e
  exact (x b u e).stay (fun c v _ q=>k c v q) (fun c q=>by rw[aAo (aCf q hn)];exact q) fun c xs q=>by rw[aAo (aCf q hn)];exact q
end
def Rd (H:Hp)(a:Addr)(u:HO):Prop:=H a=some u\/∃o,H a=some (.frz o u)
theorem Rd.ok {P:Qx}{w:Zb}{H:Hp}{h:Heap}{a:Addr}{u:HO}(r:Rd H a u)(x:HOk P w H h):aBn P w H h a u:=by
 rcases r with r |⟨o,r⟩
 ·exact x a u r
 ·obtain⟨_,q⟩:=x a _ r
  exact q
def Mut:Option HO->Prop
 | some (.lst _)=>True
 | some (.dK _)=>True
 | some (.dT _)=>True
 | some (.set _ _)=>True
 | some (.ins _ _ _)=>True
 | some (.ext _)=>True
 | _=>False
section
variable {P:Qx}{w:Zb}{H:Hp}{h h':Heap}{x e:Addr}{o':HO}
theorem HOk.write (ok:HOk P w H h)(mu:Mut (H x))(he:e=x\/H e=some (.own x))(k: ∀b u,b≠e->h.get? b=some u->h'.get? b=some u)(heo: ∃u,h'.get? e=some u)
  (new:aBn P w (upd H x o') h' x o'):HOk P w (upd H x o') h':=fun b u q=>by
 have bU7: ∀c y,H c=some (.own y)->c≠x:=fun c y r z=>by subst z;rw[r] at mu;exact mu
 have bWj: ∀c xs,H c=some (.tup xs)->c≠x:=fun c xs r z=>by subst z;rw[r] at mu;exact mu
 by_cases hb:b=x
 ·subst hb;rw[aAm] at q;cases q;exact new
 ·rw[aAo hb] at q
  by_cases hbe:b=e
  ·have q':H b=some (.own x):=by
    rcases he with z | z
    ·exact absurd (hbe.trans z) hb
    ·rw[hbe];exact z
   rw[q] at q';cases q';obtain⟨v,hv⟩:=heo;exact⟨v,by rw[hbe];exact hv⟩
  ·refine (ok b u q).stay (fun c v hc r=>k c v ?_ r) (fun c r=>by rw[aAo (bU7 c b r)];exact r) fun c xs r=>by rw[aAo (bWj c xs r)];exact r
   rcases hc with rfl | hc
   ·exact hbe
   ·rintro rfl
    rcases he with z | z
    ·exact bU7 c b hc z
    ·rw[hc] at z;cases z;exact hb rfl
end
structure Un (fs ex:List Addr)(H H':Hp)(h h':Heap):Prop where
 keep: ∀b o,h.get? b=some o->H b=none->b∉fs->b∉ex->h'.get? b=some o
 slot: ∀b o,h.get? b=some o->H b=none->b∈fs->b∉ex->∃sl,h'.get? b=some {o with slots:=sl}
 free: ∀b o,h.get? b=some o->H b=none->b∉ex->H' b=none
 there: ∀b o,h.get? b=some o->b∉ex->∃o',h'.get? b=some o'
 tups: ∀b xs,H b=some (.tup xs)->H' b=some (.tup xs)
 aZ0: ∀b o u,H b=some (.frz o u)->H' b=some (.frz o u)
 bAl: ∀b ps,H b=some (.tbl ps)->∃more,H' b=some (.tbl (ps++more))
section
variable {fs fs' ex ex':List Addr}{H H1 H2:Hp}{h h1 h2 h':Heap}{a x e:Addr}{o:HO}
theorem Un.any (u:Un fs ex H H1 h h1){b:Addr}{ob:Obj}(q:h.get? b=some ob)(n:H b=none)(hx:b∉ex): ∃sl,h1.get? b=some {ob with slots:=sl}:=by
 by_cases hb:b∈fs
 ·exact u.slot b ob q n hb hx
 ·exact⟨ob.slots,u.keep b ob q n hb hx⟩
theorem Un.trans (a:Un fs ex H H1 h h1)(b:Un fs ex H1 H2 h1 h2):Un fs ex H H2 h h2 where
 keep:=fun c ob q n hc hx=>b.keep c ob (a.keep c ob q n hc hx) (a.free c ob q n hx) hc hx
 slot:=fun c ob q n hc hx=>by
  obtain⟨sl,e1⟩:=a.slot c ob q n hc hx;obtain⟨sl',e2⟩:=b.slot c _ e1 (a.free c ob q n hx) hc hx;exact⟨sl',e2⟩
 free:=fun c ob q n hx=>by
  obtain⟨o',e1⟩:=a.there c ob q hx;exact b.free c o' e1 (a.free c ob q n hx) hx
 there:=fun c ob q hx=>by
  obtain⟨o',e1⟩:=a.there c ob q hx;exact b.there c o' e1 hx
 tups:=fun c xs q=>b.tups c xs (a.tups c xs q)
 aZ0:=fun c ob xs q=>b.aZ0 c ob xs (a.aZ0 c ob xs q)
 bAl:=fun c ps q=>by
  obtain⟨m1,e1⟩:=a.bAl c ps q;obtain⟨m2,e2⟩:=b.bAl c _ e1;exact⟨m1++m2,by rw[e2,Ey]⟩
theorem Un.kept (k: ∀b u,h.get? b=some u->h'.get? b=some u):Un fs ex H H h h':=
 ⟨fun b ob q _ _ _=>k b ob q,fun b ob q _ _ _=>⟨ob.slots,k b ob q⟩,fun _ _ _ n _=>n,fun b ob q _=>⟨ob,k b ob q⟩,fun _ _ q=>q,fun _ _ _ q=>q,fun _ ps q=>⟨#[],by rw[q];simp⟩⟩
theorem Un.refl:Un fs ex H H h h:=Un.kept fun _ _ q=>q
theorem Un.laid (k: ∀b u,h.get? b=some u->h'.get? b=some u)(hp:h.objs.size<=a)(hn:H a=none):Un fs ex H (upd H a o) h h' where
 keep:=fun b u q _ _ _=>k b u q
 slot:=fun b u q _ _ _=>⟨u.slots,k b u q⟩
 free:=fun b u q n _=>by rw[aAo (Qz (Q3 (Qn q) hp))];exact n
 there:=fun b u q _=>⟨u,k b u q⟩
 tups:=fun b xs q=>by rw[aAo (aCf q hn)];exact q
 aZ0:=fun b u xs q=>by rw[aAo (aCf q hn)];exact q
 bAl:=fun b ps q=>⟨#[],by rw[aAo (aCf q hn),q];simp⟩
theorem Un.write (mu:Mut (H x))(he:e=x\/H e=some (.own x))(k: ∀b u,b≠e->h.get? b=some u->h'.get? b=some u)(heo: ∃u,h'.get? e=some u):Un fs ex H (upd H x o) h h':=by
 have hx: ∀b,H b=none->b≠x:=fun b n z=>by subst z;rw[n] at mu;exact mu
 have hb: ∀b,H b=none->b≠e:=fun b n z=>by
  subst z;rcases he with r | r
  ·exact hx b n r
  ·rw[n] at r;cases r
 have hm: ∀b u,H b=some u->¬Mut (some u)->b≠x:=fun b u q nm z=>by subst z;rw[q] at mu;exact nm mu
 refine⟨fun b u q n _ _=>k b u (hb b n) q,fun b u q n _ _=>⟨u.slots,k b u (hb b n) q⟩,fun b u q n _=>by rw[aAo (hx b n)];exact n,fun b u q _=> ?_,
  fun b xs q=>by rw[aAo (hm b _ q fun z=>z)];exact q,fun b u xs q=>by rw[aAo (hm b _ q fun z=>z)];exact q,fun b ps q=>⟨#[],by rw[aAo (hm b _ q fun z=>z),q];simp⟩⟩
 by_cases hbe:b=e
 ·subst hbe;exact heo
 ·exact⟨u,k b u hbe q⟩
theorem Un.mono (u:Un fs ex H H1 h h1)(hs: ∀b∈fs,b∈fs')(hx: ∀b∈ex,b∈ex'):Un fs' ex' H H1 h h1:=
 ⟨fun b ob q n hb he=>u.keep b ob q n (fun z=>hb (hs b z)) fun z=>he (hx b z),fun _ _ q n _ he=>u.any q n fun z=>he (hx _ z),fun b ob q n he=>u.free b ob q n fun z=>he (hx b z),fun b ob q he=>u.there b ob q fun z=>he (hx b z),u.tups,u.aZ0,u.bAl⟩
end
def trk (h:Heap)(H:Hp):List Addr:=(Zj h.objs.size).filter fun a=>(H a).isSome
def bHh (h:Heap)(H:Hp):Heap:=PySem.W.hideAll h (trk h H)
theorem bDl (h:Heap)(H:Hp):(bHh h H).objs.size=h.objs.size:=PySem.W.hideAll_size _ _
theorem bHg {h:Heap}{H:Hp}{b:Addr}{o:Obj}(e:h.get? b=some o)(n:H b=none):(bHh h H).get? b=some o:=
 PySem.W.hideAll_get _ e fun hm=>by
  have q:(H b).isSome=true:=(List.mem_filter.mp hm).2;rw[n] at q;simp at q
theorem bLv {h:Heap}{H:Hp}{b:Addr}{o:Obj}(e:(bHh h H).get? b=some o):h.get? b=some o/\H b=none:=by
 have e':h.get? b=some o:=PySem.W.of_hideAll (trk h H) e;refine⟨e',?_⟩;cases q:H b with
 | none=>rfl
 | some x=>
  have hm:b∈trk h H:=List.mem_filter.mpr ⟨List.mem_range.mpr (Qn e'),by simp[q]⟩;have z:(bHh h H).get? b=none:=PySem.W.hideAll_none (trk h H) hm;rw[z] at e;cases e
def bNl (g h:Heap)(L:Addr):List (Addr×Obj):=(Zj h.objs.size).filterMap fun a=>if a=L\/(g.get? a).isSome=true then none else (h.get? a).map fun o=>(a,o)
def rest (g h:Heap)(L d:Addr):List (Addr×Obj):=(bNl g h L).filter fun p=>decide (p.1≠d)
structure Mod (K:Qc)(mg:Str->Option Qd)(base:Heap):Prop where
 kin:K.In base
 glob:base.Ns Js mg
 blt: ∃mb,base.Ns builtinsNs mb/\∀x:Str,x≠"__name__"->mb x=Jn x
 nolimit:base.NoLimit
structure Cx where
 prog:Qx
 w:Zb
 K:Qc
 mg:Str->Option Qd
 base:Heap
 A:Ze
 N:List Str
 s₀:Qf
 H₀:Hp
 env:Env
 outer:List Env
 stack:List Env
 ex:List Addr
 fn:Str->Bool
 calm:Bool
 pn:List (Addr×Obj)
 xe:Qd->Qf->Prop
def frs (l:List Env):List Addr:=l.filterMap (·.frame)
abbrev Cx.fs (X:Cx):List Addr:=frs X.outer
def Vis (sc:Scope)(x:Str):Prop:=sc.names.lookup x=some .local\/sc.names.lookup x=some .cell\/sc.names.lookup x=some .free
def Loc (sc:Scope)(x:Str):Prop:=sc.names.lookup x=some .local\/sc.names.lookup x=some .cell
def Look (env:Env)(h:Heap)(m:Str->Option Qd)(x:Str)(u:Qd):Prop:=
 (env.kindOf x=some .local/\m x=some u)\/((env.kindOf x=some .cell\/env.kindOf x=some .free)/\∃c,env.cells.lookup x=some c/\h.IsCell c (some u))
structure Cx.Ok (X:Cx):Prop where
 mod:Mod X.K X.mg X.base
 kind:X.env.scope.kind= .function
 glob:X.env.globals=Js
 blt:X.env.builtins=builtinsNs
 above:X.s₀.heap.objs.size<=X.env.locals
 inj: ∀x y c,X.env.cells.lookup x=some c->X.env.cells.lookup y=some c->x=y
 has: ∀x,(X.env.kindOf x=some .cell\/X.env.kindOf x=some .free)->∃c,X.env.cells.lookup x=some c
 cab: ∀x c,X.fn x=true->X.env.cells.lookup x=some c->X.s₀.heap.objs.size<=c
 hd:X.calm=true->X.A.handled=none
 frames:X.A.frames=some X.stack
 stk:X.stack=X.outer\/(X.stack=X.env::X.outer/\X.env.frame=some X.env.locals)
 exf: ∀b∈X.ex,b≠X.env.locals/\∀x c,X.env.cells.lookup x=some c->c≠b
 bs: ∀b o,X.base.get? b=some o->X.s₀.heap.get? b=some o/\X.H₀ b=none
 bsz:X.base.objs.size<=X.s₀.heap.objs.size
 bPy: ∀b o,X.base.get? b=some o->b∉X.ex
 bRl: ∀b∈X.ex,b∉X.fs
 bAo:X.s₀.heap.FunFrames X.base X.outer
 frf: ∀b∈X.fs,X.H₀ b=none
structure Inv (X:Cx)(pins:List (Addr×Obj))(σ:List (Option V))(H:Hp)(s:Qf):Prop where
 ok:X.Ok
 os:s.os=X.s₀.os
 bare:AllBare s.gens
 base:Un X.fs X.ex X.H₀ H X.s₀.heap s.heap
 loc: ∃m,s.heap.Ns X.env.locals m/\∀(i:Nat) (x:Str) (v:V),X.N[i]? =some x->σ[i]? =some (some v)->Vis X.env.scope x->∃u,RelV v u/\Look X.env s.heap m x u
 cell: ∀x c,X.env.cells.lookup x=some c->∃v,s.heap.IsCell c v
 free:H X.env.locals=none
 aMk: ∀x c,X.env.cells.lookup x=some c->H c=none
 pin: ∀p∈X.pn++pins,s.heap.get? p.1=some p.2/\H p.1=none/\p.1≠X.env.locals/\p.1∉X.fs/\∀v,p.2.data≠ .cell v
 hok:HOk X.prog X.w H s.heap
 len:σ.length=X.N.length
section
variable {X:Cx}{pins:List (Addr×Obj)}{σ:List (Option V)}{H H':Hp}{s:Qf}{h':Heap}
theorem Cx.Ok.bWl (ok:X.Ok){b:Addr}{o:Obj}(e:X.base.get? b=some o):b∉X.fs:=fun hb=>by
 have:=(ok.bAo.mem hb).1;rw[e] at this;cases this
theorem Inv.bs (I:Inv X pins σ H s): ∀b o,X.base.get? b=some o->s.heap.get? b=some o/\H b=none:=fun b o e=>
 ⟨I.base.keep b o (I.ok.bs b o e).1 (I.ok.bs b o e).2 (I.ok.bWl e) (I.ok.bPy b o e),I.base.free b o (I.ok.bs b o e).1 (I.ok.bs b o e).2 (I.ok.bPy b o e)⟩
theorem Inv.bk (I:Inv X pins σ H s): ∀b o,X.base.get? b=some o->s.heap.get? b=some o:=fun b o e=>(I.bs b o e).1
theorem Inv.mod (I:Inv X pins σ H s):Mod X.K X.mg X.base:=I.ok.mod
theorem Inv.kIn (I:Inv X pins σ H s):X.K.In s.heap:=I.ok.mod.kin.keeps I.bk
theorem Inv.lt (I:Inv X pins σ H s):X.env.locals<s.heap.objs.size:=let ⟨_,hn,_⟩:=I.loc;hn.lt
theorem Inv.sz (I:Inv X pins σ H s):X.s₀.heap.objs.size<=s.heap.objs.size:=Zs I.ok.above (Um I.lt)
theorem Inv.bWk (I:Inv X pins σ H s){a:Addr}(h:s.heap.objs.size<=a):a∉X.fs:=fun hb=>by
 obtain⟨_,o,ho,_⟩:=I.ok.bAo.mem hb;exact absurd (Q3 (Qn ho) (Zs I.sz h)) (Us _)
theorem Inv.cne (I:Inv X pins σ H s): ∀x c,X.env.cells.lookup x=some c->c≠X.env.locals:=fun x c e z=>by
 obtain⟨v,o,ho,hd⟩:=I.cell x c e;obtain⟨m,⟨o',es,ep,ho',hd',_⟩,_⟩:=I.loc;rw[z,ho'] at ho;cases ho;rw[hd'] at hd;cases hd
theorem Inv.bAo (I:Inv X pins σ H s):s.heap.FunFrames X.base X.outer:=by
 have all: ∀(l:List Env),(∀b∈frs l,b∈X.fs)->X.s₀.heap.FunFrames X.base l->s.heap.FunFrames X.base l:=by
  intro l
  induction l with
  | nil=>intro _ _;trivial
  | cons env r ih=>
   intro hs hl;obtain⟨hk,⟨L,o,hf,hn,ho,hd⟩,hr⟩:=hl;have hL:L∈X.fs:=hs L (by unfold frs;rw[Wz,hf];exact Qm);obtain⟨sl,e⟩:=I.base.slot L o ho (I.ok.frf L hL) hL fun z=>I.ok.bRl L z hL
   exact⟨hk,⟨L,_,hf,hn,e,hd⟩,ih (fun b hb=>hs b (by unfold frs;rw[Wz,hf];exact Qr _ hb)) hr⟩
 exact all X.outer (fun _ hb=>hb) I.ok.bAo
theorem Inv.stack (I:Inv X pins σ H s):s.heap.FunFrames X.base X.stack:=by
 rcases I.ok.stk with e |⟨e,hf⟩
 ·rw[e];exact I.bAo
 ·rw[e]
  obtain⟨m,hn,_⟩:=I.loc;refine .cons (by rw[I.ok.kind];decide) hf hn ?_ I.bAo;exact Heap.get?_none_of_le (Zs I.ok.bsz I.ok.above)
theorem Inv.bA8 (I:Inv X pins σ H s): ∀b∈frs X.stack,b∈X.env.locals::X.fs:=fun b hb=>by
 rcases I.ok.stk with e |⟨e,hf⟩
 ·rw[e] at hb;exact Qr _ hb
 ·rw[e] at hb
  unfold frs at hb;rw[Wz,hf] at hb;exact hb
theorem Inv.bA9 (I:Inv X pins σ H s): ∀b∈frs X.stack,H b=none:=fun b hb=>by
 rcases List.mem_cons.mp (I.bA8 b hb) with e | hb
 ·rw[e];exact I.free
 ·obtain⟨_,o,ho,_⟩:=I.ok.bAo.mem hb
  exact I.base.free b o ho (I.ok.frf b hb) fun z=>I.ok.bRl b z hb
theorem Inv.step {g':Array GenState}{t':Nat}{d':Drawn}{ch:List Addr}(I:Inv X pins σ H s)
  (hch: ∀b∈ch,(b∈X.ex\/X.s₀.heap.objs.size<=b)/\b≠X.env.locals/\(∀x c,X.env.cells.lookup x=some c->c≠b)/\∀p∈X.pn++pins,p.1≠b)
  (keep: ∀b o,b≠X.env.locals->b∉X.fs->b∉ch->s.heap.get? b=some o->H b=none->h'.get? b=some o)
  (slot: ∀b o,b≠X.env.locals->b∈X.fs->b∉ch->s.heap.get? b=some o->H b=none->∃sl,h'.get? b=some {o with slots:=sl}) (free: ∀b o,b∉ch->s.heap.get? b=some o->H b=none->H' b=none)
  (there: ∀b o,b∉ch->s.heap.get? b=some o->∃o',h'.get? b=some o')
  (tups: ∀b xs,H b=some (.tup xs)->H' b=some (.tup xs)) (aZ0: ∀b o u,H b=some (.frz o u)->H' b=some (.frz o u)) (bAl: ∀b ps,H b=some (.tbl ps)->∃more,H' b=some (.tbl (ps++more)))
  (ns: ∀m,s.heap.Ns X.env.locals m->h'.Ns X.env.locals m) (hok:HOk X.prog X.w H' h') (hg:AllBare g'):
  Inv X pins σ H' {s with heap:=h',gens:=g',drawn:=d',toks:=t'}:=by
 have neL: ∀b o,X.s₀.heap.get? b=some o->b≠X.env.locals:=fun b o e=>Qz (Q3 (Qn e) I.ok.above)
 have neC: ∀b o,X.s₀.heap.get? b=some o->b∉X.ex->b∉ch:=fun b o e hx hb=>by
  rcases (hch b hb).1 with z | z
  ·exact hx z
  ·exact absurd (Q3 (Qn e) z) (Us _)
 have cellK: ∀x c,X.env.cells.lookup x=some c->∀v,s.heap.IsCell c v->h'.IsCell c v:=fun x c e v ⟨o,ho,hd⟩=>by
  have nch:c∉ch:=fun z=>(hch c z).2.2.1 x c e rfl
  by_cases hc:c∈X.fs
  ·obtain⟨sl,q⟩:=slot c o (I.cne x c e) hc nch ho (I.aMk x c e)
   exact⟨_,q,hd⟩
  ·exact⟨o,keep c o (I.cne x c e) hc nch ho (I.aMk x c e),hd⟩
 refine⟨I.ok,I.os,hg,⟨fun b o e n hb hx=> ?_,fun b o e n hb hx=> ?_,fun b o e n hx=> ?_,fun b o e hx=> ?_,fun b xs e=>tups b xs (I.base.tups b xs e),fun b o xs e=>aZ0 b o xs (I.base.aZ0 b o xs e),fun b ps e=> ?_⟩,?_,fun x c e=> ?_,?_,fun x c e=> ?_,fun p hp=> ?_,hok,I.len⟩
 ·exact keep b o (neL b o e) hb (neC b o e hx) (I.base.keep b o e n hb hx) (I.base.free b o e n hx)
 ·obtain⟨sl,e1⟩:=I.base.slot b o e n hb hx
  obtain⟨sl',e2⟩:=slot b _ (neL b o e) hb (neC b o e hx) e1 (I.base.free b o e n hx);exact⟨sl',e2⟩
 ·obtain⟨o',e1⟩:=I.base.there b o e hx
  exact free b o' (neC b o e hx) e1 (I.base.free b o e n hx)
 ·obtain⟨o',e1⟩:=I.base.there b o e hx
  exact there b o' (neC b o e hx) e1
 ·obtain⟨m1,e1⟩:=I.base.bAl b ps e
  obtain⟨m2,e2⟩:=bAl b _ e1;exact⟨m1++m2,by rw[e2,Ey]⟩
 ·obtain⟨m,hn,hl⟩:=I.loc
  refine⟨m,ns m hn,fun i x v e1 e2 e3=> ?_⟩;obtain⟨u,r,l⟩:=hl i x v e1 e2 e3;refine⟨u,r,?_⟩;rcases l with l |⟨k,c,e,z⟩
  ·exact .inl l
  ·exact .inr ⟨k,c,e,cellK x c e _ z⟩
 ·obtain⟨v,z⟩:=I.cell x c e
  exact⟨v,cellK x c e v z⟩
 ·obtain⟨m,⟨o,_,_,ho,_⟩,_⟩:=I.loc
  exact free _ o (fun z=>(hch _ z).2.1 rfl) ho I.free
 ·obtain⟨v,o,ho,hd⟩:=I.cell x c e
  exact free c o (fun z=>(hch c z).2.2.1 x c e rfl) ho (I.aMk x c e)
 ·obtain⟨e,n,ne,nf,d⟩:=I.pin p hp
  have nch:p.1∉ch:=fun z=>(hch p.1 z).2.2.2 p hp rfl
  exact⟨keep p.1 p.2 ne nf nch e n,free p.1 p.2 nch e n,ne,nf,d⟩
theorem Inv.un {t':Nat}(I:Inv X pins σ H s)(u:Un X.fs [] H H' s.heap h')(hok:HOk X.prog X.w H' h'):Inv X pins σ H' {s with heap:=h',toks:=t'}:=by
 obtain⟨m,⟨o,es,ep,ho,r⟩,_⟩:=id I.loc;obtain⟨sl,hL⟩:=u.any ho I.free (by simp);exact I.step (g':=s.gens) (d':=s.drawn) (ch:=[]) (fun _ z=>nomatch z) (fun b o _ hb _ e n=>u.keep b o e n hb (by simp)) (fun b o _ hb _ e n=>u.slot b o e n hb (by simp)) (fun b o _ e n=>u.free b o e n (by simp)) (fun b o _ e=>u.there b o e (by simp)) u.tups u.aZ0 u.bAl (fun m' hm=>by
  obtain⟨o',es',ep',ho',r'⟩:=hm;rw[ho] at ho';cases ho';exact⟨_,es',ep',hL,r'⟩) hok I.bare
theorem Inv.call {g':Array GenState}{t':Nat}{d':Drawn}{ch:List Addr}(I:Inv X pins σ H s)(u:Un (frs X.stack) ch H H' s.heap h')(hok:HOk X.prog X.w H' h')(hg:AllBare g')
  (hch: ∀b∈ch,(b∈X.ex\/X.s₀.heap.objs.size<=b)/\b≠X.env.locals/\(∀x c,X.env.cells.lookup x=some c->c≠b)/\∀p∈X.pn++pins,p.1≠b):
  Inv X pins σ H' {s with heap:=h',gens:=g',drawn:=d',toks:=t'}:=by
 obtain⟨m,⟨o,es,ep,ho,r⟩,_⟩:=id I.loc;obtain⟨sl,hL⟩:=u.any ho I.free fun z=>(hch _ z).2.1 rfl
 exact I.step (ch:=ch) hch (fun b o hL hb hc e n=>u.keep b o e n (fun z=>(List.mem_cons.mp (I.bA8 b z)).elim hL hb) hc) (fun b o _ _ hc e n=>u.any e n hc) (fun b o hc e n=>u.free b o e n hc) (fun b o hc e=>u.there b o e hc) u.tups u.aZ0 u.bAl (fun m' hm=>by
  obtain⟨o',es',ep',ho',r'⟩:=hm;rw[ho] at ho';cases ho';exact⟨_,es',ep',hL,r'⟩) hok hg
theorem Inv.turned {t':Nat}{it:Addr}(I:Inv X pins σ H s)(k: ∀b o,b≠it->s.heap.get? b=some o->h'.get? b=some o)(hn:H it=none)(hL:it≠X.env.locals)
  (h1:it∈X.ex\/X.s₀.heap.objs.size<=it) (h2: ∀x c,X.env.cells.lookup x=some c->c≠it) (h3: ∀p∈X.pn++pins,p.1≠it):Inv X pins σ H {s with heap:=h',toks:=t'}:=by
 have nit: ∀b u,H b=some u->b≠it:=fun b u e z=>by rw[z,hn] at e;cases e
 refine I.step (g':=s.gens) (d':=s.drawn) (ch:=[it]) (fun b hb=> ?_) (fun b o _ _ hc e _=>k b o (fun z=>hc (by simp[z])) e) (fun b o _ _ hc e _=>⟨o.slots,k b o (fun z=>hc (by simp[z])) e⟩) (fun _ _ _ _ n=>n)
  (fun b o hc e=>⟨o,k b o (fun z=>hc (by simp[z])) e⟩) (fun _ _ e=>e) (fun _ _ _ e=>e) (fun b ps e=>⟨#[],by rw[e];simp⟩) (fun m hm=> ?_) (fun b u e=> ?_) I.bare
 ·have e:b=it:=by simpa using hb
  subst e;exact⟨h1,hL,h2,h3⟩
 ·obtain⟨o,es,ep,ho,r⟩:=hm
  exact⟨o,es,ep,k _ o (Ne.symm hL) ho,r⟩
 ·refine (I.hok b u e).stay (fun c v hc q=>k c v ?_ q) (fun _ q=>q) fun _ _ q=>q
  rcases hc with z | z
  ·rw[z];exact nit b u e
  ·exact nit c _ z
theorem Inv.tok (I:Inv X pins σ H s)(t:Nat):Inv X pins σ H {s with toks:=t}:=I.un (h':=s.heap) (t':=t) Un.refl I.hok
theorem Inv.kept {t':Nat}(I:Inv X pins σ H s)(k: ∀b u,s.heap.get? b=some u->h'.get? b=some u):Inv X pins σ H {s with heap:=h',toks:=t'}:=I.un (Un.kept k) (I.hok.kept k)
theorem Inv.laid {a:Addr}{o:HO}{t':Nat}(I:Inv X pins σ H s)(k: ∀b u,s.heap.get? b=some u->h'.get? b=some u)(hp:s.heap.objs.size<=a)(new:aBn X.prog X.w (upd H a o) h' a o):
  Inv X pins σ (upd H a o) {s with heap:=h',toks:=t'}:=I.un (Un.laid k hp (I.hok.fresh hp)) (I.hok.laid k hp new)
theorem Inv.write {x e:Addr}{o:HO}{t':Nat}(I:Inv X pins σ H s)(mu:Mut (H x))(he:e=x\/H e=some (.own x))(k: ∀b u,b≠e->s.heap.get? b=some u->h'.get? b=some u)(heo: ∃u,h'.get? e=some u)
  (new:aBn X.prog X.w (upd H x o) h' x o):Inv X pins σ (upd H x o) {s with heap:=h',toks:=t'}:=I.un (Un.write mu he k heo) (I.hok.write mu he k heo new)
theorem Inv.weak {σ':List (Option V)}(I:Inv X pins σ H s)(hl:σ'.length=σ.length)(w: ∀(i:Nat) v,σ'[i]? =some (some v)->σ[i]? =some (some v)):Inv X pins σ' H s:=
 ⟨I.ok,I.os,I.bare,I.base,let ⟨m,hn,hl'⟩:=I.loc;⟨m,hn,fun i x v e1 e2 e3=>hl' i x v e1 (w i v e2) e3⟩,I.cell,I.free,I.aMk,I.pin,I.hok,hl.trans I.len⟩
theorem Inv.aU6 {bO5:List (Addr×Obj)}(I:Inv X pins σ H s)(h: ∀p∈bO5,s.heap.get? p.1=some p.2/\H p.1=none/\p.1≠X.env.locals/\p.1∉X.fs/\∀v,p.2.data≠ .cell v):Inv X bO5 σ H s:=
 ⟨I.ok,I.os,I.bare,I.base,I.loc,I.cell,I.free,I.aMk,fun p hp=>(List.mem_append.mp hp).elim (fun z=>I.pin p (Ja _ z)) (h p),I.hok,I.len⟩
theorem aXk {N:List Str}(hN:N.Nodup){i j:Nat}{x:Str}(a:N[i]? =some x)(b:N[j]? =some x):i=j:=by
 obtain⟨h1,e1⟩:=List.getElem?_eq_some_iff.mp a;obtain⟨h2,e2⟩:=List.getElem?_eq_some_iff.mp b;exact (List.getElem_inj hN).mp (e1.trans e2.symm)
theorem bA7 {M:Model}{A:Ze}{E:Qd->Qf->Prop}{i:Nat}{x:Str}{v:V}{u:Qd}{Q:Unit->Qf->Prop}(I:Inv X pins σ H s)(hN:X.N.Nodup)(hi:X.N[i]? =some x)(hx:Loc X.env.scope x)(r:RelV v u)
  (h: ∀s',Inv X pins (σ.set i (some v)) H s'->(∃a,Z3 a s.heap s'.heap/\(a=X.env.locals\/X.env.cells.lookup x=some a))->Q () s') (hf:X.fn x=true\/X.env.scope.names.lookup x=some .local):Qp M A (storeName X.env x u) Q E s:=by
 obtain⟨m,hn,hl⟩:=id I.loc;have hcls:(X.env.scope.kind== .class ||(X.env.scope.kind== .module&&X.env.locals !=X.env.globals))=false:=by rw[I.ok.kind];rfl
 have hiσ:i<σ.length:=by rw[I.len];exact (List.getElem?_eq_some_iff.mp hi).1
 have cne:=I.cne;have tracked: ∀{a:Addr} {h':Heap},(∃o,s.heap.get? a=some o/\H a=none)->Z3 a s.heap h'->HOk X.prog X.w H h':=fun {a h'} ha hs b ob e=>by
  obtain⟨_,_,hfree⟩:=ha;refine (I.hok b ob e).stay (fun c w' hc q=>(hs.2 c ?_).trans q) (fun _ q=>q) fun _ _ q=>q
  rintro rfl
  rcases hc with rfl | hc
  ·rw[hfree] at e;cases e
  ·rw[hfree] at hc;cases hc
 rcases hx with hk | hk
 ·refine wpAny_storeName_local hk hn (fun h' hn' hs=> ?_) hcls
  obtain⟨oL,_,_,hoL,_⟩:=id hn;refine h _ ⟨I.ok,I.os,I.bare,⟨fun b o e n hb hx=> ?_,fun b o e n hb hx=> ?_,I.base.free,fun b o e hx=> ?_,I.base.tups,I.base.aZ0,I.base.bAl⟩,⟨_,hn',fun j y v' e1 e2 e3=> ?_⟩,fun y c e=> ?_,I.free,I.aMk,fun p hp=> ?_,tracked ⟨oL,hoL,I.free⟩ hs,by simpa using I.len⟩ ⟨_,hs,.inl rfl⟩
  ·exact (hs.2 b (Qz (Q3 (Qn e) I.ok.above))).trans (I.base.keep b o e n hb hx)
  ·obtain⟨sl,e1⟩:=I.base.slot b o e n hb hx
   exact⟨sl,(hs.2 b (Qz (Q3 (Qn e) I.ok.above))).trans e1⟩
  ·obtain⟨o',e1⟩:=I.base.there b o e hx
   exact⟨o',(hs.2 b (Qz (Q3 (Qn e) I.ok.above))).trans e1⟩
  ·by_cases hj:j=i
   ·subst hj
    rw[hi] at e1;cases e1;rw[Q4 hiσ] at e2;cases e2;exact⟨u,r,.inl ⟨hk,by simp⟩⟩
   ·rw[Qs (Ne.symm hj)] at e2
    obtain⟨u',r',q⟩:=hl j y v' e1 e2 e3;refine⟨u',r',?_⟩;rcases q with⟨k,e⟩ |⟨k,c,e,z⟩
    ·refine .inl ⟨k,?_⟩
     have:y≠x:=fun e=>hj (aXk hN e1 (e▸hi))
     simp[this,e]
    ·exact .inr ⟨k,c,e,z.sameBut hs (cne y c e)⟩
  ·obtain⟨w',z⟩:=I.cell y c e
   exact⟨w',z.sameBut hs (cne y c e)⟩
  ·obtain⟨e,n,ne,nf,d⟩:=I.pin p hp
   exact⟨(hs.2 p.1 ne).trans e,n,ne,nf,d⟩
 ·have hfn:X.fn x=true:=by
   rcases hf with z | z
   ·exact z
   ·rw[z] at hk;cases hk
  obtain⟨c,hc⟩:=I.ok.has x (.inl hk);obtain⟨w',z⟩:=I.cell x c hc;refine wpAny_storeName_cell I.ok.kind hk hc z (fun h' hc' hs=> ?_);obtain⟨oc,hoc,bW2⟩:=id z;refine h {s with heap:=h'} ⟨I.ok,I.os,I.bare,⟨fun b o e n hb hx=> ?_,fun b o e n hb hx=> ?_,I.base.free,fun b o e hx=> ?_,I.base.tups,I.base.aZ0,I.base.bAl⟩,⟨m,hn.sameBut hs (Ne.symm (cne x c hc)),fun j y v' e1 e2 e3=> ?_⟩,fun y c' e=> ?_,I.free,I.aMk,fun p hp=> ?_,tracked ⟨oc,hoc,I.aMk x c hc⟩ hs,by simpa using I.len⟩ ⟨c,hs,.inr hc⟩
  ·exact (hs.2 b (Qz (Q3 (Qn e) (I.ok.cab x c hfn hc)))).trans (I.base.keep b o e n hb hx)
  ·obtain⟨sl,e1⟩:=I.base.slot b o e n hb hx
   exact⟨sl,(hs.2 b (Qz (Q3 (Qn e) (I.ok.cab x c hfn hc)))).trans e1⟩
  ·obtain⟨o',e1⟩:=I.base.there b o e hx
   exact⟨o',(hs.2 b (Qz (Q3 (Qn e) (I.ok.cab x c hfn hc)))).trans e1⟩
  ·by_cases hj:j=i
   ·subst hj
    rw[hi] at e1;cases e1;rw[Q4 hiσ] at e2;cases e2;exact⟨u,r,.inr ⟨.inl hk,c,hc,hc'⟩⟩
   ·rw[Qs (Ne.symm hj)] at e2
    obtain⟨u',r',q⟩:=hl j y v' e1 e2 e3;refine⟨u',r',?_⟩;rcases q with q |⟨k,c',e,z'⟩
    ·exact .inl q
    ·refine .inr ⟨k,c',e,z'.sameBut hs ?_⟩
     rintro rfl
     exact hj (aXk hN e1 (I.ok.inj _ _ _ e hc▸hi))
  ·by_cases hcc:c'=c
   ·subst hcc;exact⟨_,hc'⟩
   ·obtain⟨w2,z2⟩:=I.cell y c' e
    exact⟨w2,z2.sameBut hs hcc⟩
  ·obtain⟨e,n,ne,nf,d⟩:=I.pin p hp
   refine⟨(hs.2 p.1 ?_).trans e,n,ne,nf,d⟩;intro q;rw[q,hoc] at e;have q':oc=p.2:=Option.some.inj e;exact d w' (by rw[<-q'];exact bW2)
theorem aWv {M:Model}{A:Ze}{E:Qd->Qf->Prop}{i:Nat}{x:Str}{v:V}{u:Qd}{Q:Unit->Qf->Prop}(I:Inv X pins σ H s)(hN:X.N.Nodup)(hi:X.N[i]? =some x)(hx:Loc X.env.scope x)(r:RelV v u)
  (h: ∀s',Inv X pins (σ.set i (some v)) H s'->Q () s') (hf:X.fn x=true\/X.env.scope.names.lookup x=some .local:=by first | exact .inl rfl | exact .inr rfl | assumption):Qp M A (storeName X.env x u) Q E s:=
 bA7 I hN hi hx r (fun s' I' _=>h s' I') hf
theorem Inv.call' {s':Qf}{ch:List Addr}(I:Inv X pins σ H s)(ho:s'.os=s.os)(u:Un (frs X.stack) ch H H' s.heap s'.heap)(hok:HOk X.prog X.w H' s'.heap)(hg:AllBare s'.gens)
  (hch: ∀b∈ch,(b∈X.ex\/X.s₀.heap.objs.size<=b)/\b≠X.env.locals/\(∀x c,X.env.cells.lookup x=some c->c≠b)/\∀p∈X.pn++pins,p.1≠b):Inv X pins σ H' s':=by
 obtain⟨h',g',d',t',o'⟩:=s';have e:o'=s.os:=ho;subst e;exact I.call (g':=g') (t':=t') (d':=d') u hok hg hch
end
abbrev XK:=Qd->Option Addr->Hp->Prop
abbrev St:=List (Option V)
abbrev VK:=V->Hp->Prop
abbrev TE:=St->Hp->VK->Prop
abbrev TT:=St->Hp->(Bool->Hp->Prop)->Prop
abbrev TA:=St->Hp->(List V->Hp->Prop)->Prop
structure Ends where
 nx:St->Hp->Prop
 rt:VK
 bk:St->Hp->Prop:=fun _ _=>False
 ct:St->Hp->Prop:=fun _ _=>False
abbrev TS:=Ends->St->Hp->Prop
def EP (X:Cx)(pins:List (Addr×Obj))(σ:St)(Q:VK)(u:Qd)(s':Qf):Prop:= ∃v H',Inv X pins σ H' s'/\RelV v u/\Q v H'
def TP (X:Cx)(pins:List (Addr×Obj))(σ:St)(Q:Bool->Hp->Prop)(b:Bool)(s':Qf):Prop:= ∃H',Inv X pins σ H' s'/\Q b H'
def AP (X:Cx)(pins:List (Addr×Obj))(σ:St)(Q:List V->Hp->Prop)(us:List Qd)(s':Qf):Prop:= ∃vs H',Inv X pins σ H' s'/\Vals vs us/\Q vs H'
def SP (X:Cx)(pins:List (Addr×Obj))(D:Ends)(f:Flow)(s':Qf):Prop:=
 match f with
 | .next=> ∃σ' H',Inv X pins σ' H' s'/\D.nx σ' H'
 | .brk=> ∃σ' H',Inv X pins σ' H' s'/\D.bk σ' H'
 | .cont=> ∃σ' H',Inv X pins σ' H' s'/\D.ct σ' H'
 | .ret u=> ∃v σ' H',Inv X pins σ' H' s'/\RelV v u/\D.rt v H'
def PE (X:Cx)(e:Expr)(t:TE):Prop:=
 ∀(pins:List (Addr×Obj)) (s:Qf) (σ:St) (H:Hp) (Q:VK),Inv X pins σ H s->t σ H Q->Qp (Qt X.prog X.w) X.A (eval e X.env) (EP X pins σ Q) X.xe s
def PT (X:Cx)(e:Expr)(t:TT):Prop:=
 ∀(pins:List (Addr×Obj)) (s:Qf) (σ:St) (H:Hp) (Q:Bool->Hp->Prop),Inv X pins σ H s->t σ H Q->Qp (Qt X.prog X.w) X.A (isTrue e X.env (eval e X.env)) (TP X pins σ Q) X.xe s
def PW (X:Cx)(e:Expr)(t:TT):Prop:=
 ∀(whole:Sem Qd) (pins:List (Addr×Obj)) (s:Qf) (σ:St) (H:Hp) (Q:Bool->Hp->Prop),Inv X pins σ H s->t σ H Q->Qp (Qt X.prog X.w) X.A (isTrue e X.env whole) (TP X pins σ Q) X.xe s
theorem PW.pt {X:Cx}{e:Expr}{t:TT}(h:PW X e t):PT X e t:=h _
def PA (X:Cx)(es:List Expr)(t:TA):Prop:=
 ∀(pos:Pos) (pins:List (Addr×Obj)) (s:Qf) (σ:St) (H:Hp) (Q:List V->Hp->Prop),Inv X pins σ H s->t σ H Q->Qp (Qt X.prog X.w) X.A (spliced (backTo pos (Zi es X.env))) (AP X pins σ Q) X.xe s
def PS (X:Cx)(st:Stmt)(t:TS):Prop:=
 ∀(pins:List (Addr×Obj)) (s:Qf) (σ:St) (H:Hp) (D:Ends),Inv X pins σ H s->t D σ H->Qp (Qt X.prog X.w) X.A (exec st X.env) (SP X pins D) X.xe s
def PSs (X:Cx)(st:List Stmt)(t:TS):Prop:=
 ∀(pins:List (Addr×Obj)) (s:Qf) (σ:St) (H:Hp) (D:Ends),Inv X pins σ H s->t D σ H->Qp (Qt X.prog X.w) X.A (execs st X.env) (SP X pins D) X.xe s
theorem thn {α:Type}{t:Sem α}{Q Q':α->Qf->Prop}{M:Model}{A:Ze}{E:Qd->Qf->Prop}{s:Qf}(h:Qp M A t Q E s)(hQ: ∀a s,Q a s->Q' a s):Qp M A t Q' E s:=Y1 h hQ fun _ _ x=>x
section
variable {X:Cx}
def bUy (i:Nat):TE:=fun σ H Q=> ∃v,σ[i]? =some (some v)/\Q v H
def tC (v:V):TE:=fun _ H Q=>Q v H
theorem aD5 {i:Nat}{x:Str}{pos:Pos}(hN:X.N[i]? =some x)(hv:Vis X.env.scope x)(hd:(x==("__debug__":Str))=false:=by decide)(hcd:(x==("__classdict__":Str))=false:=by decide):PE X (.Name x pos) (bUy i):=by
 intro pins s σ H Q I h;obtain⟨v,e,h⟩:=h;obtain⟨m,hn,hl⟩:=I.loc;obtain⟨u,r,l⟩:=hl i x v hN e hv;have fin:EP X pins σ Q u s:=⟨v,H,I,r,h⟩;rcases l with⟨hk,hm⟩ |⟨hk,c,hc,hcell⟩
 ·exact wpAny_Name (wpAny_loadName_local I.ok.kind hk hn hm fin) hd
 ·rcases hk with hk | hk
  ·exact wpAny_Name (wpAny_loadName_cell I.ok.kind hk hc hcell fin) hd
  ·exact wpAny_Name (wpAny_loadName_free I.ok.kind hk hc hcell fin hcd) hd
theorem bPb {i j pos}:PE X (.Constant (.int i) j pos) (tC (.int i)):=fun _ _ _ H _ I h=>wpAny_Constant_int ⟨.int i,H,I.tok _,⟨_,rfl⟩,h⟩
theorem bS8 {b j pos}:PE X (.Constant (.bool b) j pos) (tC (.bl b)):=fun _ _ _ H _ I h=>Constant_bool ⟨.bl b,H,I,rfl,h⟩
theorem bPa {j pos}:PE X (.Constant .none j pos) (tC .non):=fun _ _ _ H _ I h=>Constant_none ⟨.non,H,I,rfl,h⟩
theorem bO7 {x j pos}:PE X (.Constant (.str x) j pos) (tC (.str x)):=fun _ _ _ H _ I h=>Calls.Constant_str ⟨.str x,H,I.tok _,⟨_,rfl⟩,h⟩
def Gl (X:Cx)(x:Str):Prop:=X.env.kindOf x=some .globalImplicit
theorem aVp {E:Qd->Qf->Prop}{pins:List (Addr×Obj)}{s:Qf}{σ:St}{H:Hp}{x:Str}{u:Qd}{pos:Pos}{Q:Qd->Qf->Prop}(I:Inv X pins σ H s)(hg:Gl X x)(hm:X.mg x=some u)(h:Q u s)
  (hd:(x==("__debug__":Str))=false:=by decide):Qp (Qt X.prog X.w) X.A (eval (.Name x pos) X.env) Q E s:=
 Calls.Name_function_global I.ok.kind hg (Calls.loadGlobal_global (by rw[I.ok.glob];exact I.mod.glob.keeps I.bk) hm h) hd
theorem aP9 {E:Qd->Qf->Prop}{pins:List (Addr×Obj)}{s:Qf}{σ:St}{H:Hp}{x:Str}{u:Qd}{pos:Pos}{Q:Qd->Qf->Prop}(I:Inv X pins σ H s)(hg:Gl X x)(hm:X.mg x=none)(hv:Jn x=some u)(h:Q u s)
  (hn:x≠"__name__":=by decide) (hd:(x==("__debug__":Str))=false:=by decide):Qp (Qt X.prog X.w) X.A (eval (.Name x pos) X.env) Q E s:=by
 obtain⟨mb,h1,h2⟩:=I.mod.blt;exact Calls.Name_function_global I.ok.kind hg (Calls.loadGlobal_builtin (by rw[I.ok.glob];exact I.mod.glob.keeps I.bk) hm (by rw[I.ok.blt];exact h1.keeps I.bk) ((h2 x hn).trans hv) h) hd
theorem bK8 {x:Str}{v:V}{u:Qd}{pos:Pos}(hg:Gl X x)(hm:X.mg x=none)(hv:Jn x=some u)(r:RelV v u)(hn:x≠"__name__":=by decide)(hd:(x==("__debug__":Str))=false:=by decide):PE X (.Name x pos) (tC v):=
 fun _ _ _ H _ I h=>aP9 I hg hm hv ⟨v,H,I,r,h⟩ hn hd
variable {a b:Expr}{ta tb:TE}{pos:Pos}
variable {tA tB':TT}{rest:List Expr}
def bV1 (t u:TT):TT:=fun σ H Q=>t σ H fun c H1=>if c=true then u σ H1 Q else Q false H1
def tOr (t u:TT):TT:=fun σ H Q=>t σ H fun c H1=>if c=true then Q true H1 else u σ H1 Q
def bVs (t:TT):TT:=fun σ H Q=>t σ H fun c H1=>Q (!c) H1
theorem bKt (ha:PT X a tA):PW X (.BoolOp .And [a] pos) tA:=by
 intro wh pins s σ H Q I h;refine isTrue_and (thn (ha pins s σ H Q I h) fun c s1 e=> ?_);cases c with
 | true=>exact isTrue_and_nil e
 | false=>exact e
theorem bOx (ha:PT X a tA):PW X (.BoolOp .Or [a] pos) tA:=by
 intro wh pins s σ H Q I h;refine isTrue_or (thn (ha pins s σ H Q I h) fun c s1 e=> ?_);cases c with
 | false=>exact isTrue_or_nil e
 | true=>exact e
theorem bOy (ha:PT X a tA)(hb:PW X (.BoolOp .And (b::rest) pos) tB'):PW X (.BoolOp .And (a::b::rest) pos) (bV1 tA tB'):=by
 intro wh pins s σ H Q I h;refine isTrue_and (thn (ha pins s σ H _ I h) fun c s1 ⟨H1,I1,q1⟩=> ?_);cases c with
 | true=>exact hb wh pins s1 σ H1 Q I1 q1
 | false=>exact⟨H1,I1,q1⟩
theorem bS1 (ha:PT X a tA)(hb:PW X (.BoolOp .Or (b::rest) pos) tB'):PW X (.BoolOp .Or (a::b::rest) pos) (tOr tA tB'):=by
 intro wh pins s σ H Q I h;refine isTrue_or (thn (ha pins s σ H _ I h) fun c s1 ⟨H1,I1,q1⟩=> ?_);cases c with
 | true=>exact⟨H1,I1,q1⟩
 | false=>exact hb wh pins s1 σ H1 Q I1 q1
theorem bO1 (ha:PT X a tA):PT X (.UnaryOp .Not a pos) (bVs tA):=by
 intro pins s σ H Q I h;exact isTrue_not (ha pins s σ H (fun c H1=>Q (!c) H1) I h)
def bSs (ta tb:TE):TE:=fun σ H Q=>ta σ H fun x H1=> ∃c,x= .bl c/\if c=true then tb σ H1 Q else Q (.bl false) H1
def bVr (ta tb:TE):TE:=fun σ H Q=>ta σ H fun x H1=> ∃c,x= .bl c/\if c=true then Q (.bl true) H1 else tb σ H1 Q
def bSm (ta:TE):TE:=fun σ H Q=>ta σ H fun x H1=> ∃c,x= .bl c/\Q (.bl (!c)) H1
theorem bO8 {op}{t:TE}(h:PE X a t):PE X (.BoolOp op [a] pos) t:=fun pins s σ H Q I hw=>BoolOp_one (h pins s σ H Q I hw)
theorem bPe (ha:PE X a ta)(hb:PE X (.BoolOp .And (b::rest) pos) tb):PE X (.BoolOp .And (a::b::rest) pos) (bSs ta tb):=by
 intro pins s σ H Q I h;refine BoolOp_and (thn (ha pins s σ H _ I h) fun v s1 ⟨x,H1,I1,r1,q1⟩=> ?_);obtain⟨c,rfl,q1⟩:=q1;cases r1;refine wpAny_truthy_bool ?_;cases c with
 | true=>exact hb pins s1 σ H1 Q I1 q1
 | false=>exact⟨.bl false,H1,I1,rfl,q1⟩
theorem bS5 (ha:PE X a ta)(hb:PE X (.BoolOp .Or (b::rest) pos) tb):PE X (.BoolOp .Or (a::b::rest) pos) (bVr ta tb):=by
 intro pins s σ H Q I h;refine BoolOp_or (thn (ha pins s σ H _ I h) fun v s1 ⟨x,H1,I1,r1,q1⟩=> ?_);obtain⟨c,rfl,q1⟩:=q1;cases r1;refine wpAny_truthy_bool ?_;cases c with
 | false=>exact hb pins s1 σ H1 Q I1 q1
 | true=>exact⟨.bl true,H1,I1,rfl,q1⟩
theorem bO9 (ha:PE X a ta):PE X (.UnaryOp .Not a pos) (bSm ta):=by
 intro pins s σ H Q I h;refine UnaryOp_ (thn (ha pins s σ H _ I h) fun v s1 ⟨x,H1,I1,r1,q1⟩=> ?_);obtain⟨c,rfl,q1⟩:=q1;cases r1;exact not_of (wpAny_truthy_bool ⟨.bl (!c),H1,I1,rfl,q1⟩)
end
def SqL (K:Qc)(H:Hp)(a:Addr)(xs:List V):Prop:=
 Rd H a (.lst xs)\/
  ∃(o:Obj) (its:Array Qd) (n:Nat),K.lookup a=some o/\o.cls= .type "list"/\o.dict=none/\o.data= .seq its n/\its.size<=Qy/\Vals xs its.toList
def SqT (K:Qc)(H:Hp)(a:Addr)(xs:List V):Prop:=
 Rd H a (.tup xs)\/
  ∃(o:Obj) (its:Array Qd) (n:Nat),K.lookup a=some o/\o.cls= .type "tuple"/\o.dict=none/\o.data= .seq its n/\its.size<=Qy/\Vals xs its.toList
def bXm:Qd->Option V
 | .none=>some .non
 | .bool b=>some (.bl b)
 | .int i _=>some (.int i)
 | .str x _=>some (.str x)
 | .bytes b _=>some (.byt b)
 | .float b _=>some (.flt b)
 | .ref a=>some (.ref a)
 | .type n=>some (.ty n)
 | _=>none
theorem RelV.abs {x:V}{u:Qd}(r:RelV x u):bXm u=some x:=by
 cases x with
 | non=>cases r;rfl
 | bl _=>cases r;rfl
 | int _=>obtain⟨t,rfl⟩:=r;rfl
 | str _=>obtain⟨t,rfl⟩:=r;rfl
 | byt _=>obtain⟨t,rfl⟩:=r;rfl
 | flt _=>obtain⟨t,rfl⟩:=r;rfl
 | ref _=>cases r;rfl
 | ty _=>cases r;rfl
theorem RelV.inj {x y:V}{u:Qd}(r:RelV x u)(q:RelV y u):x=y:=Option.some.inj (r.abs.symm.trans q.abs)
theorem Vals.inj: ∀{xs ys:List V} {us:List Qd},Vals xs us->Vals ys us->xs=ys
 | _,_,_,.nil,.nil=>rfl
 | _,_,_,.cons r t,.cons r' t'=>by rw[r.inj r',Vals.inj t t']
section
variable {X:Cx}{pins:List (Addr×Obj)}{σ:St}{H:Hp}{s:Qf}{a:Addr}{xs ys:List V}
theorem SqL.of {K:Qc}(h:H a=some (.lst xs)):SqL K H a xs:= .inl (.inl h)
theorem SqT.of {K:Qc}(h:H a=some (.tup xs)):SqT K H a xs:= .inl (.inl h)
theorem Inv.list (I:Inv X pins σ H s)(h:SqL X.K H a xs): ∃its:List Qd,Vals xs its/\PlainL s.heap a its.toArray/\xs.length<=Qy:=by
 rcases h with h |⟨o,its,n,hk,hc,hd,hs,hz,r⟩
 ·obtain⟨z,its,n,r,e⟩:=h.ok I.hok
  exact⟨its,r,⟨_,n,e,rfl,rfl,rfl⟩,z⟩
 ·refine⟨its.toList,r,⟨o,n,I.kIn a o hk,hc,hd,by simpa using hs⟩,?_⟩
  have e:=r.length;simp only[Q6] at e;omega
theorem Inv.tuple (I:Inv X pins σ H s)(h:SqT X.K H a xs): ∃its:List Qd,Vals xs its/\IsTup s.heap a its.toArray/\xs.length<=Qy:=by
 rcases h with h |⟨o,its,n,hk,hc,_,hs,hz,r⟩
 ·obtain⟨z,its,r,p⟩:=h.ok I.hok
  exact⟨its,r,p.tup,z⟩
 ·refine⟨its.toList,r,⟨o,I.kIn a o hk,hc,n,by simpa using hs⟩,?_⟩
  have e:=r.length;simp only[Q6] at e;omega
theorem Inv.aXt (I:Inv X pins σ H s)(h:SqL X.K H a xs)(h':SqL X.K H a ys):xs=ys:=by
 obtain⟨its,r,⟨o,n,e,_,_,d⟩,_⟩:=I.list h;obtain⟨its',r',⟨o',n',e',_,_,d'⟩,_⟩:=I.list h';rw[e] at e';cases e';rw[d] at d'
 injection d' with d1 _
 have:its=its':=by simpa using congrArg Array.toList d1
 subst this;exact r.inj r'
theorem Inv.aSl (I:Inv X pins σ H s)(h:SqT X.K H a xs)(h':SqT X.K H a ys):xs=ys:=by
 obtain⟨its,r,⟨o,e,_,n,d⟩,_⟩:=I.tuple h;obtain⟨its',r',⟨o',e',_,n',d'⟩,_⟩:=I.tuple h';rw[e] at e';cases e';rw[d] at d'
 injection d' with d1 _
 have:its=its':=by simpa using congrArg Array.toList d1
 subst this;exact r.inj r'
end
abbrev Cx.wish (X:Cx)(E:Qd->Qf->Prop):Cx:={X with xe:=E}
abbrev Cx.nox (X:Cx):Cx:=X.wish fun _ _=>False
theorem Cx.Ok.wish {X:Cx}(ok:X.Ok)(E:Qd->Qf->Prop):(X.wish E).Ok:=
 ⟨ok.mod,ok.kind,ok.glob,ok.blt,ok.above,ok.inj,ok.has,ok.cab,ok.hd,ok.frames,ok.stk,ok.exf,ok.bs,ok.bsz,ok.bPy,ok.bRl,ok.bAo,ok.frf⟩
theorem Cx.Ok.aLi {X:Cx}{E:Qd->Qf->Prop}(ok:(X.wish E).Ok):X.Ok:=
 ⟨ok.mod,ok.kind,ok.glob,ok.blt,ok.above,ok.inj,ok.has,ok.cab,ok.hd,ok.frames,ok.stk,ok.exf,ok.bs,ok.bsz,ok.bPy,ok.bRl,ok.bAo,ok.frf⟩
section
variable {X:Cx}{pins:List (Addr×Obj)}{σ:St}{H:Hp}{s:Qf}{E:Qd->Qf->Prop}
theorem Inv.wish (I:Inv X pins σ H s)(E:Qd->Qf->Prop):Inv (X.wish E) pins σ H s:=⟨I.ok.wish E,I.os,I.bare,I.base,I.loc,I.cell,I.free,I.aMk,I.pin,I.hok,I.len⟩
theorem Inv.aLi (I:Inv (X.wish E) pins σ H s):Inv X pins σ H s:=⟨I.ok.aLi,I.os,I.bare,I.base,I.loc,I.cell,I.free,I.aMk,I.pin,I.hok,I.len⟩
theorem SP.aLi {D:Ends}{f:Flow}{s':Qf}(h:SP (X.wish E) pins D f s'):SP X pins D f s':=by
 cases f with
 | next=>obtain⟨σ',H',I,q⟩:=h;exact⟨σ',H',I.aLi,q⟩
 | brk=>obtain⟨σ',H',I,q⟩:=h;exact⟨σ',H',I.aLi,q⟩
 | cont=>obtain⟨σ',H',I,q⟩:=h;exact⟨σ',H',I.aLi,q⟩
 | ret u=>obtain⟨v,σ',H',I,r,q⟩:=h;exact⟨v,σ',H',I.aLi,r,q⟩
theorem PSs.nox {st:List Stmt}{t:TS}(h:PSs X.nox st t):PSs X st t:=fun pins s σ H D I hw=>
 Y1 (h pins s σ H D (I.wish _) hw) (fun _ _ q=>q.aLi) fun _ _ z=>Qg z
end
section
variable {X:Cx}{st:Stmt}{rest:List Stmt}{t u:TS}{e:Expr}{te:TE}{pos:Pos}
def bSn:TS:=fun D σ H=>D.nx σ H
def bVp (t u:TS):TS:=fun D σ H=>t {D with nx:=u D} σ H
theorem bKy:PSs X [] bSn:=fun _ _ σ H _ I h=>wpAny_execs_nil ⟨σ,H,I,h⟩
theorem bGg (h1:PS X st t)(h2:PSs X rest u):PSs X (st::rest) (bVp t u):=by
 intro pins s σ H D I h;refine wpAny_execs_cons (thn (h1 pins s σ H {D with nx:=u D} I h) fun f s1 q=> ?_);cases f with
 | next=>
  obtain⟨σ',H',I',q⟩:=q;exact h2 pins s1 σ' H' D I' q
 | ret v=>exact q
 | brk=>exact q
 | cont=>exact q
theorem Inv.quiet {pins:List (Addr×Obj)}{σ:St}{H:Hp}{s:Qf}(I:Inv X pins σ H s):interactive X.env=false:=by simp[interactive,I.ok.kind]
def bSo (te:TE):TS:=fun D σ H=>te σ H fun _ H1=>D.nx σ H1
theorem aQ4 (he:PE X e te)(hs:Y3 e none pos.line X.env=pure false:=by rfl):PS X (.Expr e pos) (bSo te):=by
 intro pins s σ H D I h;exact wpAny_Expr_any (thn (he pins s σ H _ I h) fun v s1 ⟨x,H1,I1,r1,q1⟩=>⟨σ,H1,I1,q1⟩) I.quiet hs
def bVq (te:TE):TS:=fun D σ H=>te σ H D.rt
theorem bO2 (he:PE X e te):PS X (.Return (some e) pos) (bVq te):=by
 intro pins s σ H D I h;exact wpAny_Return_some (thn (he pins s σ H _ I h) fun v s1 ⟨x,H1,I1,r1,q1⟩=>⟨x,σ,H1,I1,r1,q1⟩)
def bVv (c:TT)(t u:TS):TS:=fun D σ H=>c σ H fun b H1=>if b=true then t D σ H1 else u D σ H1
theorem bS2 {c:Expr}{a b:List Stmt}{tc:TT}(hc:PT X c tc)(ha:PSs X a t)(hb:PSs X b u):PS X (.If c a b pos) (bVv tc t u):=by
 intro pins s σ H D I h;refine wpAny_If (thn (hc pins s σ H _ I h) fun d s1 ⟨H1,I1,q1⟩=> ?_);cases d with
 | true=>exact ha pins s1 σ H1 D I1 q1
 | false=>exact hb pins s1 σ H1 D I1 q1
def bOe:TS:=fun _ _ _=>False
theorem bBz {sts:List Stmt}:PSs X sts bOe:=fun _ _ _ _ _ _ h=>h.elim
end
abbrev TG:=V->St->Hp->(St->Hp->Prop)->Prop
abbrev TGs:=List V->St->Hp->(St->Hp->Prop)->Prop
def PG (X:Cx)(target:Expr)(t:TG):Prop:=
 ∀(pins:List (Addr×Obj)) (s:Qf) (σ:St) (H:Hp) (v:V) (u:Qd) (Q:St->Hp->Prop),Inv X pins σ H s->RelV v u->t v σ H Q->
  Qp (Qt X.prog X.w) X.A (assign target X.env u) (fun _ s'=> ∃σ' H',Inv X pins σ' H' s'/\Q σ' H') X.xe s
def PGs (X:Cx)(ts:List Expr)(t:TGs):Prop:=
 ∀(pins:List (Addr×Obj)) (s:Qf) (σ:St) (H:Hp) (vs:List V) (us:List Qd) (Q:St->Hp->Prop),Inv X pins σ H s->Vals vs us->t vs σ H Q->
  Qp (Qt X.prog X.w) X.A (assignInOrder ((assignEach ts X.env).map (·.2)) us) (fun _ s'=> ∃σ' H',Inv X pins σ' H' s'/\Q σ' H') X.xe s
abbrev bXp:=V->V->V->Hp->(Hp->Prop)->Prop
section
variable {X:Cx}{pos:Pos}
def bRe (i:Nat):TG:=fun v σ H Q=>Q (σ.set i (some v)) H
theorem aKa {i:Nat}{x:Str}(hN:X.N.Nodup)(hi:X.N[i]? =some x)(hx:Loc X.env.scope x)(hf:X.fn x=true\/X.env.scope.names.lookup x=some .local:=by first | exact .inl rfl | exact .inr rfl | assumption):PG X (.Name x pos) (bRe i):=by
 intro pins s σ H v u Q I r h;exact wpAny_assign_Name (aWv I hN hi hx r (fun s' I'=>⟨_,H,I',h⟩) hf)
def bXh:TGs:=fun vs σ H Q=>vs=[]/\Q σ H
def bUe (t:TG)(u:TGs):TGs:=fun vs σ H Q=> ∃v r,vs=v::r/\t v σ H fun σ' H'=>u r σ' H' Q
theorem bB3:PGs X [] bXh:=by
 intro pins s σ H vs us Q I r h;obtain⟨e,h⟩:=h;subst e;cases r;exact assignInOrder_nil ⟨σ,H,I,h⟩
theorem aMt {e:Expr}{es:List Expr}{t:TG}{u:TGs}(h1:PG X e t)(h2:PGs X es u)
  (hs:(assignEach (e::es) X.env).map (·.2)=assign e X.env::(assignEach es X.env).map (·.2):=by rfl):PGs X (e::es) (bUe t u):=by
 intro pins s σ H vs us Q I r h;obtain⟨v,vr,e1,h⟩:=h;subst e1;cases r with
 | cons r rr=>
  rw[hs];refine assignInOrder_cons (thn (h1 pins s σ H _ _ _ I r h) fun _ s1 ⟨σ1,H1,I1,q1⟩=> ?_);exact h2 pins s1 σ1 H1 _ _ Q I1 rr q1
def bXg (K:Qc)(n:Nat)(t:TGs):TG:=fun v σ H Q=> ∃a xs,v= .ref a/\SqT K H a xs/\xs.length=n/\t xs σ H Q
theorem bI2 {es:List Expr}{k:Nat}{t:TGs}{n:Nat}(hc:X.calm=true)(h:PGs X es t)
  (hn:(assignEach es X.env).length=n:=by rfl) (hst:(assignEach es X.env).findIdx? (·.1)=none:=by rfl):PG X (.Tuple es k pos) (bXg X.K n t):=by
 intro pins s σ H v u Q I r hw;obtain⟨a,xs,e1,hq,hl,hw⟩:=hw;subst e1;cases r;obtain⟨its,rv,ht,hz⟩:=I.tuple hq;refine assign_Tuple_tuple (I.ok.hd hc) ht (by simp[hn,<-hl,rv.length]) hst fun h' hx=> ?_
 have I1:Inv X pins σ H {s with heap:=h'}:=I.kept (t':=s.toks) fun b o e=>hx b o (Qz (Qn e)) e
 exact h pins _ σ H xs _ Q I1 (by simpa using rv) hw
def aM2 (to ti:TE)(t:bXp):TG:=fun v σ H Q=>to σ H fun o H1=>ti σ H1 fun i H2=>t o i v H2 fun H3=>Q σ H3
def bV0 (te:TE)(g:TG):TS:=fun D σ H=>te σ H fun x H1=>g x σ H1 D.nx
theorem aS5 {i:Nat}{x:Str}{e:Expr}{te:TE}{pos':Pos}(hN:X.N.Nodup)(hi:X.N[i]? =some x)(hx:Loc X.env.scope x)(he:PE X e te)(hs:Y3 e (some (.Name x pos')) pos.line X.env=pure false:=by rfl)(hf:X.fn x=true\/X.env.scope.names.lookup x=some .local:=by first | exact .inl rfl | exact .inr rfl | assumption):
  PS X (.Assign [.Name x pos'] e pos) (bV0 te (bRe i)):=by
 intro pins s σ H D I h;refine wpAny_Assign_Name (thn (he pins s σ H _ I h) fun v s1 ⟨y,H1,I1,r1,q1⟩=> ?_) hs;exact aWv I1 hN hi hx r1 (fun s2 I2=>⟨_,H1,I2,q1⟩) hf
end
section
variable {X:Cx}{pos:Pos}
def bOd (c:TT)(tb:TS):TS:=fun D σ H=> ∃W:Nat->St->Hp->Prop,(∃m,W m σ H)/\∀m σ H,W m σ H->
 c σ H fun b H1=>if b=true then∃N:St->Hp->Prop,(∀σ' H',N σ' H'->∃m',m'<m/\W m' σ' H')/\tb {D with nx:=N,ct:=N,bk:=D.nx} σ H1 else D.nx σ H1
theorem bGh {c:Expr}{body:List Stmt}{tc:TT}{tb:TS}(hp:PassesOwn (Qt X.prog X.w) X.A X.env X.xe)(hc:PT X c tc)(hb:PSs X body tb):PS X (.While c body [] pos) (bOd tc tb):=by
 intro pins s σ H D I h;obtain⟨W,⟨m0,w0⟩,turn⟩:=h;refine wpAny_While (codeAny_whileLoop (fun n s'=> ∃σ' H',Inv X pins σ' H' s'/\W n σ' H') ?_ m0 ⟨σ,H,I,w0⟩)
 rintro n s1 ⟨σ1,H1,I1,w1⟩
 refine J9 hp (thn (hc pins s1 σ1 H1 _ I1 (turn n σ1 H1 w1)) fun b s2 ⟨H2,I2,q2⟩=> ?_);cases b with
 | true=>
  obtain⟨N,hN,q2⟩:=q2;rw[if_pos rfl];refine J9 hp (thn (hb pins s2 σ1 H2 _ I2 q2) fun f s3 q3=> ?_);cases f with
  | next=>
   obtain⟨σ3,H3,I3,n3⟩:=q3;obtain⟨m',hm,w3⟩:=hN σ3 H3 n3;exact⟨m',hm,σ3,H3,I3,w3⟩
  | cont=>
   obtain⟨σ3,H3,I3,n3⟩:=q3;obtain⟨m',hm,w3⟩:=hN σ3 H3 n3;exact⟨m',hm,σ3,H3,I3,w3⟩
  | brk=>exact q3
  | ret v=>exact q3
 | false=>
  rw[if_neg Q2];exact wpAny_execs_nil ⟨σ1,H2,I2,q2⟩
end
structure It where
 go:Nat->Hp->Prop
 yld:Nat->Hp->V->Hp->Prop
 stop:Nat->Hp->Prop
def bFi (X:Cx)(pins:List (Addr×Obj))(H:Hp)(b:Addr):Prop:=
 H b=none/\b≠X.env.locals/\b∉X.fs/\(b∈X.ex\/X.s₀.heap.objs.size<=b)/\(∀x c,X.env.cells.lookup x=some c->c≠b)/\∀p∈X.pn++pins,p.1≠b
theorem Inv.bJq {X:Cx}{pins:List (Addr×Obj)}{σ:St}{H H':Hp}{s:Qf}{b:Addr}(I:Inv X pins σ H s)(hb:s.heap.objs.size<=b)(hn:H' b=none):bFi X pins H' b:=by
 refine⟨hn,Yc (Q3 I.lt hb),I.bWk hb,.inr (Zs I.sz hb),fun x c e z=> ?_,fun p hp z=> ?_⟩
 ·obtain⟨v,q⟩:=I.cell x c e
  exact absurd (Q3 q.lt (by rw[z];exact hb)) (Us _)
 ·exact absurd (Q3 (Qn (I.pin p hp).1) (by rw[z];exact hb)) (Us _)
structure Turn (P:Qx)(w:Zb)(K:Qc)(tg:Expr)(J:It)(fp:List Addr)(it:Addr)(tn:Nat->Heap->Prop):Prop where
 mem:it∈fp
 obj: ∀i h,tn i h->∀b∈fp,∃o,h.get? b=some o/\∀v,o.data≠ .cell v
 keep: ∀i h h',tn i h->(∀b∈fp,∀o,h.get? b=some o->h'.get? b=some o)->tn i h'
 item: ∀(X:Cx),X.prog=P->X.w=w->X.K=K->X.calm=true->∀(i:Nat) (pins:List (Addr×Obj)) (s:Qf) (σ:St) (H:Hp) (E:Qd->Qf->Prop),Inv X pins σ H s->(∀b∈fp,bFi X pins H b)->tn i s.heap->J.go i H->
  Qp (Qt P w) X.A (Jx (.ref it)) (fun r s1=> ∃u,r=some u/\
   Qp (Qt P w) X.A (letOwnedTupleGo tg (.ref it) u) (fun _ s2=> ∃x H',Inv X pins σ H' s2/\RelV x u/\J.yld i H x H'/\tn (i+1) s2.heap/\∀b∈fp,H' b=none) E s1) E s
 done: ∀(X:Cx),X.prog=P->X.w=w->X.K=K->X.calm=true->∀(i:Nat) (pins:List (Addr×Obj)) (s:Qf) (σ:St) (H:Hp) (E:Qd->Qf->Prop),Inv X pins σ H s->(∀b∈fp,bFi X pins H b)->tn i s.heap->J.stop i H->
  Qp (Qt P w) X.A (Jx (.ref it)) (fun r s1=>r=none/\Inv X pins σ H s1) E s
 self: ∀(A:Ze) (i:Nat) (s:Qf) (Q:Qd->Qf->Prop) (E:Qd->Qf->Prop),tn i s.heap->Q (.ref it) s->Qp (Qt P w) A (pyIter (.ref it)) Q E s
abbrev TI:=St->Hp->(It->Hp->Prop)->Prop
def PIE (X:Cx)(pins:List (Addr×Obj))(σ:St)(tg:Expr)(R:It->Hp->Prop)(itv:Qd)(s2:Qf):Prop:=
 ∃(it:Addr) (fp:List Addr) (tn:Nat->Heap->Prop) (J:It) (H':Hp),itv= .ref it/\Inv X pins σ H' s2/\Turn X.prog X.w X.K tg J fp it tn/\tn 0 s2.heap/\(∀b∈fp,bFi X pins H' b)/\R J H'
def PI (X:Cx)(tg iter:Expr)(wi:TI):Prop:=
 ∀(pins:List (Addr×Obj)) (s:Qf) (σ:St) (H:Hp) (R:It->Hp->Prop),Inv X pins σ H s->wi σ H R->
  Qp (Qt X.prog X.w) X.A (eval iter X.env) (fun v s1=>Qp (Qt X.prog X.w) X.A (pyIter v) (PIE X pins σ tg R) X.xe s1) X.xe s
theorem bHk {M:Model}{A:Ze}{E:Qd->Qf->Prop}{s:Qf}{tg:Expr}{it:Addr}{u:Qd}{o:Obj}{n:String}{vs:Array Qd}{Q:Unit->Qf->Prop}(ho:s.heap.get? it=some o)(hc:o.cls= .type n)(hd:o.data= .fields vs)
  (hn:["enumerate","zip","dict_itemiterator","dict_reverseitemiterator","odict_iterator","itertools.zip_longest","itertools.pairwise"].contains n=false) (hQ:Q () s):Qp M A (letOwnedTupleGo tg (.ref it) u) Q E s:=by
 unfold letOwnedTupleGo;cases tg<;>first
  | exact Qe hQ
  |(cases u<;>first
    | exact Qe hQ
    |(refine Qa (wpAny_load ho ?_)
      rw[hc,hd];show Qp M A (if (["enumerate","zip","dict_itemiterator","dict_reverseitemiterator","odict_iterator","itertools.zip_longest","itertools.pairwise"].contains n&&vs[0]? ==some (Z7 _))=true then _ else _) Q E s;rw[if_neg (by intro h;rw[hn,Vx] at h;cases h)];exact Qe hQ))
def Itl (K:Qc)(a:Addr):It:=
 ⟨fun i H=> ∃xs x,SqL K H a xs/\xs[i]? =some x,fun i H x H'=>H'=H/\∀xs,SqL K H a xs->xs[i]? =some x,fun i H=> ∃xs,SqL K H a xs/\xs.length<=i⟩
def Itt (K:Qc)(a:Addr):It:=
 ⟨fun i H=> ∃xs x,SqT K H a xs/\xs[i]? =some x,fun i H x H'=>H'=H/\∀xs,SqT K H a xs->xs[i]? =some x,fun i H=> ∃xs,SqT K H a xs/\xs.length<=i⟩
def Itr (lo:Int)(n:Nat):It:=⟨fun i _=>i<n,fun i H x H'=>H'=H/\x= .int (lo+i),fun i _=>n<=i⟩
theorem aSk {P:Qx}{w:Zb}{K:Qc}{tg:Expr}(a it:Addr):Turn P w K tg (Itl K a) [it] it (fun i h=>h.IsListIter it a i) where
 mem:=by simp
 obj:=fun i h st b hb=>by
  have e:b=it:=by simpa using hb
  subst e;obtain⟨o,e,c,d⟩:=st;exact⟨o,e,fun v z=>by rw[d] at z;cases z⟩
 keep:=fun i h h' st k=>st.at fun o e=>k it (by simp) o e
 item:=by
  intro X hP hw hK hc i pins s σ H E I hf st hg;subst hP hw hK;obtain⟨xs,x,hq,hx⟩:=hg;obtain⟨its,rv,p,hz⟩:=I.list hq;obtain⟨u,hu,ru⟩:=rv.get hx;obtain⟨f0,f1,f2,f3,f4,f5⟩:=hf it (by simp);refine wpAny_pyNext_list_item st p.isList (x:=u) (by simpa using hu) fun h' st' sb=> ?_
  have I1:Inv X pins σ H {s with heap:=h'}:=I.turned (t':=s.toks) (fun b o hb e=>(sb.2 b hb).trans e) f0 f1 f3 f4 f5;obtain⟨o,e,c,d⟩:=id st';exact⟨u,rfl,bHk (s:={s with heap:=h'}) e c d (by decide) ⟨x,H,I1,ru,⟨rfl,fun ys hy=>by rw[I.aXt hy hq];exact hx⟩,st',fun b hb=>(hf b hb).1⟩⟩
 done:=by
  intro X hP hw hK hc i pins s σ H E I hf st hg;subst hP hw hK;obtain⟨xs,hq,hx⟩:=hg;obtain⟨its,rv,p,hz⟩:=I.list hq;obtain⟨f0,f1,f2,f3,f4,f5⟩:=hf it (by simp);have hl:=rv.length;exact wpAny_pyNext_list_end (I.ok.hd hc) st p.isList (by simp;omega) fun h' eb=>⟨rfl,I.turned (t':=s.toks) (fun b o hb e=>eb b o hb e) f0 f1 f3 f4 f5⟩
 self:=fun _ _ _ _ _ st h=>wpAny_pyIter_listiter st h
theorem aYn {P:Qx}{w:Zb}{K:Qc}{tg:Expr}(a it:Addr):Turn P w K tg (Itt K a) [it] it (fun i h=>h.IsTupleIter it a i) where
 mem:=by simp
 obj:=fun i h st b hb=>by
  have e:b=it:=by simpa using hb
  subst e;obtain⟨o,e,c,d⟩:=st;exact⟨o,e,fun v z=>by rw[d] at z;cases z⟩
 keep:=fun i h h' st k=>st.at fun o e=>k it (by simp) o e
 item:=by
  intro X hP hw hK hc i pins s σ H E I hf st hg;subst hP hw hK;obtain⟨xs,x,hq,hx⟩:=hg;obtain⟨its,rv,p,hz⟩:=I.tuple hq;obtain⟨u,hu,ru⟩:=rv.get hx;obtain⟨f0,f1,f2,f3,f4,f5⟩:=hf it (by simp);refine wpAny_pyNext_tuple_item st (show s.heap.IsTuple a its.toArray from p) (x:=u) (by simpa using hu) fun h' st' sb=> ?_
  have I1:Inv X pins σ H {s with heap:=h'}:=I.turned (t':=s.toks) (fun b o hb e=>(sb.2 b hb).trans e) f0 f1 f3 f4 f5;obtain⟨o,e,c,d⟩:=id st';exact⟨u,rfl,bHk (s:={s with heap:=h'}) e c d (by decide) ⟨x,H,I1,ru,⟨rfl,fun ys hy=>by rw[I.aSl hy hq];exact hx⟩,st',fun b hb=>(hf b hb).1⟩⟩
 done:=by
  intro X hP hw hK hc i pins s σ H E I hf st hg;subst hP hw hK;obtain⟨xs,hq,hx⟩:=hg;obtain⟨its,rv,p,hz⟩:=I.tuple hq;obtain⟨f0,f1,f2,f3,f4,f5⟩:=hf it (by simp);have hl:=rv.length;exact wpAny_pyNext_tuple_end (I.ok.hd hc) st (show s.heap.IsTuple a its.toArray from p) (by simp;omega) fun h' eb=>⟨rfl,I.turned (t':=s.toks) (fun b o hb e=>eb b o hb e) f0 f1 f3 f4 f5⟩
 self:=fun _ _ _ _ _ st h=>wpAny_pyIter_tupleiter st h
theorem aYo {P:Qx}{w:Zb}{K:Qc}{tg:Expr}(it:Addr)(lo:Int)(n:Nat):Turn P w K tg (Itr lo n) [it] it (fun i h=>IsRangeIter h it (lo+(i:Nat)*1) ((n:Int)-(i:Nat)) 1) where
 mem:=by simp
 obj:=fun i h st b hb=>by
  have e:b=it:=by simpa using hb
  subst e;exact⟨_,st,fun v z=>by
   have z':Data.fields _=Data.cell v:=z;cases z'⟩
 keep:=fun i h h' st k=>k it (by simp) _ st
 item:=by
  intro X hP hw hK hc i pins s σ H E I hf st hg;subst hP hw hK;obtain⟨f0,f1,f2,f3,f4,f5⟩:=hf it (by simp);have W:=Walks.range (prog:=X.prog) (w:=X.w) (I.ok.hd hc) it lo 1 n;refine W.item i s _ _ hg st fun v h' tk hv st' kk=> ?_
  obtain⟨t,rfl⟩:=hv;have I1:Inv X pins σ H {s with heap:=h',toks:=tk}:=I.turned (fun b o hb e=>kk b o (by simpa using hb) e) f0 f1 f3 f4 f5;refine⟨_,rfl,bHk (s:={s with heap:=h',toks:=tk}) (n:="range_iterator") st' rfl rfl (by decide) ⟨.int (lo+i),H,I1,⟨t,?_⟩,⟨rfl,rfl⟩,st',fun b hb=>(hf b hb).1⟩⟩;rw[Int.mul_one]
 done:=by
  intro X hP hw hK hc i pins s σ H E I hf st hg;subst hP hw hK;obtain⟨f0,f1,f2,f3,f4,f5⟩:=hf it (by simp);exact wpAny_pyNext_range_end (I.ok.hd hc) st (by have:n<=i:=hg;omega) fun h' eb=>⟨rfl,I.turned (t':=s.toks) (fun b o hb e=>eb b o hb e) f0 f1 f3 f4 f5⟩
 self:=fun _ _ _ _ _ st h=>wpAny_pyIter_rangeiter st h
section
variable {X:Cx}{tg:Expr}
def bTx (K:Qc)(tl:TE):TI:=fun σ H R=>tl σ H fun x H1=> ∃a,x= .ref a/\(∃xs,SqL K H1 a xs)/\R (Itl K a) H1
theorem bK2 {l:Expr}{tl:TE}(hl:PE X l tl):PI X tg l (bTx X.K tl):=by
 intro pins s σ H R I h;refine thn (hl pins s σ H _ I h) fun v s1 ⟨x,H1,I1,r1,q1⟩=> ?_
 obtain⟨a,e,⟨xs,hq⟩,q⟩:=q1;subst e;cases r1;obtain⟨its,rv,p,hz⟩:=I1.list hq;refine wpAny_pyIter_list p.isList ?_;refine⟨s1.heap.objs.size,[s1.heap.objs.size],_,_,H1,rfl,I1.kept (t':=s1.toks) fun b o e=>Qb _ e,aSk a _,⟨_,Ql _ rfl,rfl,rfl⟩,fun b hb=> ?_,q⟩;have e:b=s1.heap.objs.size:=by simpa using hb
 subst e;exact I1.bJq (Qo _) (I1.hok.fresh (Qo _))
theorem bGb {pins:List (Addr×Obj)}{σ:St}{H:Hp}{s:Qf}{R:It->Hp->Prop}{E:Qd->Qf->Prop}{lo hi:Int}{t u v:Tok}{tk:Nat}(I:Inv X pins σ H s)(h1: -(2^62)<=lo)(h2:lo<2^62)(h3: -(2^62)<=hi)(h4:hi<2^62)
  (q:R (Itr lo (hi-lo).toNat) H):Qp (Qt X.prog X.w) X.A (pyIter (.ref s.heap.objs.size)) (PIE X pins σ tg R) E {s with heap:=s.heap.push {cls:= .type "range",data:= .fields #[.int lo t,.int hi u,.int 1 v]},toks:=tk}:=by
 refine wpAny_pyIter_range (IsRange.new ..) (small_one h1 h2 h3 h4) ?_;have I1:Inv X pins σ H {s with heap:=s.heap.push {cls:= .type "range",data:= .fields #[.int lo t,.int hi u,.int 1 v]},toks:=tk}:=I.kept fun b o e=>Qb _ e
 refine⟨(s.heap.push {cls:= .type "range",data:= .fields #[.int lo t,.int hi u,.int 1 v]}).objs.size,[(s.heap.push {cls:= .type "range",data:= .fields #[.int lo t,.int hi u,.int 1 v]}).objs.size],_,_,H,rfl,
  I1.kept (t':=tk) fun b o e=>Qb _ e,aYo _ lo (hi-lo).toNat,?_,fun b hb=> ?_,q⟩
 ·have e1:lo+((0:Nat):Int)*1=lo:=by simp
  have e2:(((hi-lo).toNat:Nat):Int)-((0:Nat):Int)=Builtin.Range.rangeSize lo hi 1:=by rw[rangeSize_one];split<;>omega
  show IsRangeIter _ _ (lo+((0:Nat):Int)*1) ((((hi-lo).toNat:Nat):Int)-((0:Nat):Int)) 1;rw[e1,e2];exact Ql _ rfl
 ·have e:b=(s.heap.push {cls:= .type "range",data:= .fields #[.int lo t,.int hi u,.int 1 v]}).objs.size:=by simpa using hb
  subst e;exact I1.bJq (Qo _) (I1.hok.fresh (Qo _))
def bTw (ta:TA):TI:=fun σ H R=>ta σ H fun vs H1=> ∃j:Int,vs=[.int j]/\ -(2^62)<=j/\j<2^62/\R (Itr 0 j.toNat) H1
theorem aS7 {a:Expr}{ta:TA}{p pos:Pos}(hg:Gl X "range")(hm:X.mg "range"=none)(ha:PA X [a] ta)(hs:Zi [a] X.env=[(false,eval a X.env)]:=by rfl):PI X tg (.Call (.Name "range" p) [a] [] pos) (bTw ta):=by
 intro pins s σ H R I h;refine Call_ (aP9 I hg hm boot_range (Uo (thn (ha pos pins s σ H _ I h) fun us s1 ⟨vs,H1,I1,r1,q1⟩=> ?_) hs rfl));obtain⟨j,e,q1,q2,q⟩:=q1;subst e;cases r1 with
 | cons r rr=>
  cases rr;obtain⟨t,rfl⟩:=r;exact call_range_1 (bGb I1 (by omega) (by omega) q1 q2 (by simpa using q))
def bVw (wi:TI)(g:TG)(tb:TS):TS:=fun D σ H=>wi σ H fun J H1=> ∃W:Nat->Nat->St->Hp->Prop,(∃m,W 0 m σ H1)/\∀i m σ H,W i m σ H->
 (J.stop i H/\D.nx σ H)\/(J.go i H/\∃N:St->Hp->Prop,(∀σ' H',N σ' H'->∃m',m'<m/\W (i+1) m' σ' H')/\∀x H',J.yld i H x H'->g x σ H' fun σ2 H2=>tb {D with nx:=N,ct:=N,bk:=D.nx} σ2 H2)
def aP2 (fp:List Addr)(h:Heap):List (Addr×Obj):=fp.filterMap fun b=>(h.get? b).map fun o=>(b,o)
theorem aKq {fp:List Addr}{h:Heap}{b:Addr}{o:Obj}(hb:b∈fp)(e:h.get? b=some o):(b,o)∈aP2 fp h:=List.mem_filterMap.mpr ⟨b,hb,by rw[e];rfl⟩
theorem bCk {fp:List Addr}{h:Heap}{p:Addr×Obj}(hp:p∈aP2 fp h):p.1∈fp/\h.get? p.1=some p.2:=by
 obtain⟨b,hb,e⟩:=List.mem_filterMap.mp hp;cases q:h.get? b with
 | none=>rw[q] at e;cases e
 | some o=>
  rw[q] at e;have e':(b,o)=p:=Option.some.inj e;subst e';exact⟨hb,q⟩
theorem Inv.pinned {pins:List (Addr×Obj)}{σ:St}{H:Hp}{s:Qf}{fp:List Addr}(I:Inv X pins σ H s)(hf: ∀b∈fp,bFi X pins H b)(ho: ∀b∈fp,∃o,s.heap.get? b=some o/\∀v,o.data≠ .cell v):Inv X (pins++aP2 fp s.heap) σ H s:=
 I.aU6 fun p hp=>(List.mem_append.mp hp).elim (fun z=>I.pin p (Zh _ z)) fun z=>by
  obtain⟨hb,e⟩:=bCk z;obtain⟨f0,f1,f2,_⟩:=hf p.1 hb;obtain⟨o,e',d⟩:=ho p.1 hb;rw[e] at e';cases e';exact⟨e,f0,f1,f2,d⟩
theorem Inv.aQs {pins pl:List (Addr×Obj)}{σ:St}{H:Hp}{s:Qf}(I:Inv X (pins++pl) σ H s):Inv X pins σ H s:=I.aU6 fun p hp=>I.pin p (Zh _ (Ja _ hp))
theorem bO3 {iter:Expr}{body:List Stmt}{wi:TI}{g:TG}{tb:TS}{pos:Pos}(hp:PassesOwn (Qt X.prog X.w) X.A X.env X.xe)(hc:X.calm=true)(hi:PI X tg iter wi)(hg:PG X tg g)(hb:PSs X body tb)
  (hs: ∀x,Ys iter X.env x=pure x:=by intro _;rfl):PS X (.For tg iter body [] pos) (bVw wi g tb):=by
 intro pins s σ H D I h;refine wpAny_For (thn (hi pins s σ H _ I h) fun v s1 h1=>thn h1 fun itv s2 h2=> ?_) hs;obtain⟨it,fp,tn,J,H2,e,I2,T,st2,f2,W,⟨m0,w0⟩,turn⟩:=h2;subst e;have stat: ∀{H':Hp},(∀b∈fp,H' b=none)->∀b∈fp,bFi X pins H' b:=fun hn b hb=>⟨hn b hb,(f2 b hb).2⟩
 refine codeAny_forLoop_any (fun n s'=> ∃i σ' H',Inv X pins σ' H' s'/\tn i s'.heap/\(∀b∈fp,H' b=none)/\W i n σ' H') ?_ m0 ⟨0,σ,H2,I2,st2,fun b hb=>(f2 b hb).1,w0⟩
 rintro n s3 ⟨i,σ3,H3,I3,st3,fr3,w3⟩
 rcases turn i n σ3 H3 w3 with⟨stop,qn⟩ |⟨go,N,hN,step⟩
 ·refine J9 hp (thn (T.done X rfl rfl rfl hc i pins s3 σ3 H3 X.xe I3 (stat fr3) st3 stop) fun r s4 ⟨hr,I4⟩=> ?_)
  subst hr;exact wpAny_execs_nil ⟨σ3,H3,I4,qn⟩
 ·refine J9 hp (thn (T.item X rfl rfl rfl hc i pins s3 σ3 H3 X.xe I3 (stat fr3) st3 go) fun r s4 ⟨u,hr,h4⟩=> ?_)
  subst hr;refine J9 hp (thn h4 fun _ s5 ⟨x,H5,I5,r5,y5,st5,fr5⟩=> ?_);have I5':=I5.pinned (stat fr5) (T.obj _ _ st5);refine J9 hp (thn (hg _ s5 σ3 H5 x u _ I5' r5 (step x H5 y5)) fun _ s6 ⟨σ6,H6,I6,q6⟩=> ?_);refine J9 hp (thn (hb _ s6 σ6 H6 _ I6 q6) fun f s7 q7=> ?_);have again: ∀{σ7:St} {H7:Hp},Inv X (pins++aP2 fp s5.heap) σ7 H7 s7->N σ7 H7->∃m,m<n/\∃i σ' H',Inv X pins σ' H' s7/\tn i s7.heap/\(∀b∈fp,H' b=none)/\W i m σ' H':=fun {σ7 H7} I7 n7=>by
   obtain⟨m',hm,w7⟩:=hN σ7 H7 n7;refine⟨m',hm,i+1,σ7,H7,I7.aQs,T.keep _ _ _ st5 fun b hb o e=>(I7.pin (b,o) (Zh _ (Zh _ (aKq hb e)))).1,fun b hb=> ?_,w7⟩;obtain⟨o,e,d⟩:=T.obj _ _ st5 b hb;exact (I7.pin (b,o) (Zh _ (Zh _ (aKq hb e)))).2.1
  cases f with
  | next=>obtain⟨σ7,H7,I7,n7⟩:=q7;exact again I7 n7
  | cont=>obtain⟨σ7,H7,I7,n7⟩:=q7;exact again I7 n7
  | brk=>obtain⟨σ7,H7,I7,q7⟩:=q7;exact⟨σ7,H7,I7.aQs,q7⟩
  | ret v=>obtain⟨x7,σ7,H7,I7,r7,q7⟩:=q7;exact⟨x7,σ7,H7,I7.aQs,r7,q7⟩
end
abbrev R2:=V->V->Hp->VK->Prop
def OpR (X:Cx)(f:Qd->Qd->Sem Qd)(r:R2):Prop:=
 ∀(pins:List (Addr×Obj)) (s:Qf) (σ:St) (H:Hp) (x y:V) (v u:Qd) (Q:VK),Inv X pins σ H s->RelV x v->RelV y u->r x y H Q->
  Qp (Qt X.prog X.w) X.A (f v u) (EP X pins σ Q) X.xe s
def UnR (X:Cx)(f:Qd->Sem Qd)(r:V->Hp->VK->Prop):Prop:=
 ∀(pins:List (Addr×Obj)) (s:Qf) (σ:St) (H:Hp) (x:V) (v:Qd) (Q:VK),Inv X pins σ H s->RelV x v->r x H Q->
  Qp (Qt X.prog X.w) X.A (f v) (EP X pins σ Q) X.xe s
def aGh (X:Cx)(f:Qd)(r:List V->Hp->VK->Prop):Prop:=
 ∀(pins:List (Addr×Obj)) (s:Qf) (σ:St) (H:Hp) (xs:List V) (us:List Qd) (Q:VK),Inv X pins σ H s->Vals xs us->r xs H Q->
  Qp (Qt X.prog X.w) X.A (call f us) (EP X pins σ Q) X.xe s
def bXo (X:Cx)(r:V->Hp->(Bool->Hp->Prop)->Prop):Prop:=
 ∀(pins:List (Addr×Obj)) (s:Qf) (σ:St) (H:Hp) (x:V) (v:Qd) (Q:Bool->Hp->Prop),Inv X pins σ H s->RelV x v->r x H Q->
  Qp (Qt X.prog X.w) X.A (truthy v) (TP X pins σ Q) X.xe s
def tOp (r:R2)(ta tb:TE):TE:=fun σ H Q=>ta σ H fun x H1=>tb σ H1 fun y H2=>r x y H2 Q
def tUn (r:V->Hp->VK->Prop)(ta:TE):TE:=fun σ H Q=>ta σ H fun x H1=>r x H1 Q
def rI (C:Int->Int->Prop)(g:Int->Int->V):R2:=fun x y H Q=> ∃i j,x= .int i/\y= .int j/\C i j/\Q (g i j) H
def rI0 (g:Int->Int->V):R2:=fun x y H Q=> ∃i j,x= .int i/\y= .int j/\Q (g i j) H
def rU (g:Int->V):V->Hp->VK->Prop:=fun x H Q=> ∃i,x= .int i/\Q (g i) H
section
variable {X:Cx}{a b c:Expr}{ta tb tc:TE}{pos:Pos}
theorem bUo (ha:PE X a ta)(hb:PE X b tb){pins:List (Addr×Obj)}{s:Qf}{σ:St}{H:Hp}{R:V->V->Hp->Prop}(I:Inv X pins σ H s)
  (h:ta σ H fun x H1=>tb σ H1 fun y H2=>R x y H2) {Q:Qd->Qf->Prop} {f:Qd->Qd->Sem Qd}
  (hf: ∀v u s2 x y H2,Inv X pins σ H2 s2->RelV x v->RelV y u->R x y H2->Qp (Qt X.prog X.w) X.A (f v u) Q X.xe s2):
  Qp (Qt X.prog X.w) X.A (eval a X.env) (fun v s₁=>Qp (Qt X.prog X.w) X.A (eval b X.env) (fun u s₂=>Qp (Qt X.prog X.w) X.A (f v u) Q X.xe s₂) X.xe s₁) X.xe s:=by
 refine thn (ha pins s σ H _ I h) fun v s1 ⟨x,H1,I1,r1,q1⟩=> ?_
 refine thn (hb pins s1 σ H1 _ I1 q1) fun u s2 ⟨y,H2,I2,r2,q2⟩=> ?_
 exact hf v u s2 x y H2 I2 r1 r2 q2
theorem bS6 {op:Operator}{r:R2}(ho:OpR X (Jh op) r)(ha:PE X a ta)(hb:PE X b tb):PE X (.BinOp a op b pos) (tOp r ta tb):=by
 intro pins s σ H Q I h;exact wpAny_BinOp (bUo ha hb I h fun v u s2 x y H2 I2 rx ry q=>ho pins s2 σ H2 x y v u Q I2 rx ry q)
theorem bS4 {op:UnaryOp}{r:V->Hp->VK->Prop}(ho:UnR X (unaryOp op) r)(ha:PE X a ta):PE X (.UnaryOp op a pos) (tUn r ta):=by
 intro pins s σ H Q I h;exact UnaryOp_ (thn (ha pins s σ H _ I h) fun v s1 ⟨x,H1,I1,r1,q1⟩=>ho pins s1 σ H1 x v Q I1 r1 q1)
theorem opI {f:Qd->Qd->Sem Qd}{C:Int->Int->Prop}{g:Int->Int->Int}
  (rule: ∀(i j:Int) (t u:Tok) (s:Qf) (Q:Qd->Qf->Prop) (E:Qd->Qf->Prop),C i j->Q (.int (g i j) s.toks) {s with toks:=s.toks+1}->Qp (Qt X.prog X.w) X.A (f (.int i t) (.int j u)) Q E s):
  OpR X f (rI C fun i j=> .int (g i j)):=by
 intro pins s σ H x y v u Q I rx ry h;obtain⟨i,j,rfl,rfl,hc,q⟩:=h;obtain⟨t,rfl⟩:=rx;obtain⟨t',rfl⟩:=ry;exact rule i j t t' s _ _ hc ⟨.int (g i j),H,I.tok _,⟨_,rfl⟩,q⟩
theorem bR6 {f:Qd->Qd->Sem Qd}{g:Int->Int->Int}
  (rule: ∀(i j:Int) (t u:Tok) (s:Qf) (Q:Qd->Qf->Prop) (E:Qd->Qf->Prop),Q (.int (g i j) s.toks) {s with toks:=s.toks+1}->Qp (Qt X.prog X.w) X.A (f (.int i t) (.int j u)) Q E s):
  OpR X f (rI0 fun i j=> .int (g i j)):=by
 intro pins s σ H x y v u Q I rx ry h;obtain⟨i,j,rfl,rfl,q⟩:=h;obtain⟨t,rfl⟩:=rx;obtain⟨t',rfl⟩:=ry;exact rule i j t t' s _ _ ⟨.int (g i j),H,I.tok _,⟨_,rfl⟩,q⟩
theorem bR7 {f:Qd->Qd->Sem Qd}{g:Int->Int->Bool}
  (rule: ∀(i j:Int) (t u:Tok) (s:Qf) (Q:Qd->Qf->Prop) (E:Qd->Qf->Prop),Q (.bool (g i j)) s->Qp (Qt X.prog X.w) X.A (f (.int i t) (.int j u)) Q E s):
  OpR X f (rI0 fun i j=> .bl (g i j)):=by
 intro pins s σ H x y v u Q I rx ry h;obtain⟨i,j,rfl,rfl,q⟩:=h;obtain⟨t,rfl⟩:=rx;obtain⟨t',rfl⟩:=ry;exact rule i j t t' s _ _ ⟨.bl (g i j),H,I,rfl,q⟩
def bXs (i j:Int):Prop:=0<j/\j<1073741824
def bVl (i j:Int):Prop:=0<=j/\j<=1000000/\i.natAbs<2^64
theorem bPw:OpR X (Jh .Add) (rI0 fun i j=> .int (i+j)):=bR6 fun _ _ _ _ _ _ _ q=>add_int q
theorem bPm:OpR X (Jh .Sub) (rI0 fun i j=> .int (i-j)):=bR6 fun _ _ _ _ _ _ _ q=>sub_int q
theorem bLq:OpR X (Jh .FloorDiv) (rI bXs fun i j=> .int (i/j)):=opI fun i j _ _ _ _ _ hc q=>by
 have h1:(0:Int)<j:=hc.1;have h2:j<1073741824:=hc.2;exact floordiv_int (by omega) (by rw[Int.fdiv_eq_ediv_of_nonneg i (by omega)];exact q) (.inl (PyProof.noPylong_small (by omega)))
theorem bPp:OpR X (Jh .Mod) (rI (fun _ j=>0<j) fun i j=> .int (i%j)):=opI fun i j _ _ _ _ _ hc q=>by
 have h1:(0:Int)<j:=hc;exact mod_int' (by omega) (by rw[Int.fmod_eq_emod_of_nonneg i (by omega)];exact q)
theorem bPo:OpR X (Jh .Pow) (rI bVl fun i j=> .int (i^j.toNat)):=opI fun _ _ _ _ _ _ _ hc q=>pow_int_small hc.1 hc.2.1 hc.2.2 q
theorem bPn:OpR X (Jh .LShift) (rI bVl fun i j=> .int (i*2^j.toNat)):=opI fun _ _ _ _ _ _ _ hc q=>lshift_int_small hc.1 hc.2.1 hc.2.2 q
theorem bPv:OpR X (Jh .BitAnd) (rI0 fun i j=> .int (Builtin.bitAnd i j)):=bR6 fun _ _ _ _ _ _ _ q=>and_int q
theorem bTg:OpR X (Jh .BitOr) (rI0 fun i j=> .int (Builtin.bitOr i j)):=bR6 fun _ _ _ _ _ _ _ q=>or_int q
theorem unI {f:Qd->Sem Qd}{g:Int->Int}
  (rule: ∀(i:Int) (t:Tok) (s:Qf) (Q:Qd->Qf->Prop) (E:Qd->Qf->Prop),Q (.int (g i) s.toks) {s with toks:=s.toks+1}->Qp (Qt X.prog X.w) X.A (f (.int i t)) Q E s):
  UnR X f (rU fun i=> .int (g i)):=by
 intro pins s σ H x v Q I rx h;obtain⟨i,rfl,q⟩:=h;obtain⟨t,rfl⟩:=rx;exact rule i t s _ _ ⟨.int (g i),H,I.tok _,⟨_,rfl⟩,q⟩
theorem bN6:UnR X (unaryOp .USub) (rU fun i=> .int (-i)):=unI fun _ _ _ _ _ q=>neg_int q
end
def bSv:V->V->Bool
 | .non,.non=>true | .non,.int _=>true | .int _,.non=>true | .non,.bl _=>true | .bl _,.non=>true | .non,.str _=>true | .str _,.non=>true
 | .int _,.int _=>true | .bl _,.bl _=>true | .str _,.str _=>true | .byt _,.byt _=>true
 | .int _,.str _=>true | .str _,.int _=>true | .bl _,.str _=>true | .str _,.bl _=>true
 | _,_=>false
def rEq:R2:=fun x y H Q=>bSv x y=true/\Q (.bl (decide (x=y))) H
def rNe:R2:=fun x y H Q=>bSv x y=true/\Q (.bl (!decide (x=y))) H
theorem bEb {i j:Int}:decide (V.int i=V.int j)=(i==j):=by
 rw[Yd];simp
theorem bJw {i j:Bool}:decide (V.bl i=V.bl j)=(i==j):=by
 rw[Yd];simp
theorem bEa {i j:Str}:decide (V.str i=V.str j)=(i==j):=by
 rw[Yd];simp
theorem bEc {i j:Array UInt8}:decide (V.byt i=V.byt j)=(i.toList==j.toList):=by
 rw[Yd];cases i;cases j;simp
section
variable {X:Cx}{a b c:Expr}{ta tb tc:TE}{pos:Pos}
theorem aBg {pins:List (Addr×Obj)}{σ:St}{H:Hp}{s:Qf}{Q:VK}{k k':Bool}(I:Inv X pins σ H s)(q:Q (.bl k) H)(e:k=k'):EP X pins σ Q (.bool k') s:=by
 subst e;exact⟨.bl k,H,I,rfl,q⟩
theorem bPt:OpR X (Yp .Eq) rEq:=by
 intro pins s σ H x y v u Q I rx ry h;obtain⟨hs,q⟩:=h;cases x with
 | non=>
  cases rx;cases y with
  | non=>cases ry;exact PySem.EqNone.eq_none_none (aBg I q (by simp))
  | bl j=>cases ry;exact PySem.EqNone.eq_none_bool (aBg I q (by simp))
  | int j=>obtain⟨t',rfl⟩:=ry;exact PySem.EqNone.eq_none_int (aBg I q (by simp))
  | str j=>obtain⟨t',rfl⟩:=ry;exact PySem.EqNone.eq_none_str (aBg I q (by simp))
  | _=>exact absurd (show false=true from hs) Q2
 | bl i=>
  cases rx;cases y with
  | non=>cases ry;exact PySem.EqNone.eq_bool_none (aBg I q (by simp))
  | bl j=>cases ry;exact eq_bool (aBg I q bJw)
  | str j=>obtain⟨t',rfl⟩:=ry;exact PySem.EqMixed.eq_bool_str (aBg I q (by simp))
  | _=>exact absurd (show false=true from hs) Q2
 | int i=>
  obtain⟨t,rfl⟩:=rx;cases y with
  | non=>cases ry;exact PySem.EqNone.eq_int_none (aBg I q (by simp))
  | int j=>obtain⟨t',rfl⟩:=ry;exact eq_int (aBg I q bEb)
  | str j=>obtain⟨t',rfl⟩:=ry;exact PySem.EqMixed.eq_int_str (aBg I q (by simp))
  | _=>exact absurd (show false=true from hs) Q2
 | str i=>
  obtain⟨t,rfl⟩:=rx;cases y with
  | non=>cases ry;exact PySem.EqNone.eq_str_none (aBg I q (by simp))
  | bl j=>cases ry;exact PySem.EqMixed.eq_str_bool (aBg I q (by simp))
  | int j=>obtain⟨t',rfl⟩:=ry;exact PySem.EqMixed.eq_str_int (aBg I q (by simp))
  | str j=>obtain⟨t',rfl⟩:=ry;exact eq_str (aBg I q bEa)
  | _=>exact absurd (show false=true from hs) Q2
 | byt i=>
  obtain⟨t,rfl⟩:=rx;cases y with
  | byt j=>obtain⟨t',rfl⟩:=ry;exact PySem.W.eq_bytes (aBg I q bEc)
  | _=>exact absurd (show false=true from hs) Q2
 | _=>cases y<;>exact absurd (show false=true from hs) Q2
theorem bTh:OpR X (Yp .NotEq) rNe:=by
 intro pins s σ H x y v u Q I rx ry h;obtain⟨hs,q⟩:=h;cases x with
 | non=>
  cases rx;cases y with
  | non=>cases ry;exact PySem.EqNone.ne_none_none (aBg I q (by simp))
  | bl j=>cases ry;exact PySem.EqNone.ne_none_bool (aBg I q (by simp))
  | int j=>obtain⟨t',rfl⟩:=ry;exact PySem.EqNone.ne_none_int (aBg I q (by simp))
  | str j=>obtain⟨t',rfl⟩:=ry;exact PySem.EqNone.ne_none_str (aBg I q (by simp))
  | _=>exact absurd (show false=true from hs) Q2
 | bl i=>
  cases rx;cases y with
  | non=>cases ry;exact PySem.EqNone.ne_bool_none (aBg I q (by simp))
  | bl j=>cases ry;exact ne_bool (aBg I q (congrArg not bJw))
  | str j=>obtain⟨t',rfl⟩:=ry;exact PySem.EqMixed.ne_bool_str (aBg I q (by simp))
  | _=>exact absurd (show false=true from hs) Q2
 | int i=>
  obtain⟨t,rfl⟩:=rx;cases y with
  | non=>cases ry;exact PySem.EqNone.ne_int_none (aBg I q (by simp))
  | int j=>obtain⟨t',rfl⟩:=ry;exact ne_int (aBg I q (congrArg not bEb))
  | str j=>obtain⟨t',rfl⟩:=ry;exact PySem.EqMixed.ne_int_str (aBg I q (by simp))
  | _=>exact absurd (show false=true from hs) Q2
 | str i=>
  obtain⟨t,rfl⟩:=rx;cases y with
  | non=>cases ry;exact PySem.EqNone.ne_str_none (aBg I q (by simp))
  | bl j=>cases ry;exact PySem.EqMixed.ne_str_bool (aBg I q (by simp))
  | int j=>obtain⟨t',rfl⟩:=ry;exact PySem.EqMixed.ne_str_int (aBg I q (by simp))
  | str j=>obtain⟨t',rfl⟩:=ry;exact ne_str (aBg I q (congrArg not bEa))
  | _=>exact absurd (show false=true from hs) Q2
 | byt i=>
  obtain⟨t,rfl⟩:=rx;cases y with
  | byt j=>obtain⟨t',rfl⟩:=ry;exact PySem.W.ne_bytes (aBg I q (congrArg not bEc))
  | _=>exact absurd (show false=true from hs) Q2
 | _=>cases y<;>exact absurd (show false=true from hs) Q2
theorem bPq:OpR X (Yp .Lt) (rI0 fun i j=> .bl (decide (i<j))):=bR7 fun _ _ _ _ _ _ _ q=>lt_int q
theorem bTi:OpR X (Yp .LtE) (rI0 fun i j=> .bl (decide (i<=j))):=bR7 fun _ _ _ _ _ _ _ q=>le_int q
theorem bTj:OpR X (Yp .Gt) (rI0 fun i j=> .bl (decide (j<i))):=bR7 fun _ _ _ _ _ _ _ q=>gt_int q
theorem bTk:OpR X (Yp .GtE) (rI0 fun i j=> .bl (decide (j<=i))):=bR7 fun _ _ _ _ _ _ _ q=>ge_int q
theorem bPs:OpR X (Yp .Is) (fun x y H Q=>y= .non/\Q (.bl (decide (x= .non))) H):=by
 intro pins s σ H x y v u Q I rx ry h;obtain⟨rfl,q⟩:=h;cases ry;refine is_none_gen (aBg I q ?_);cases x<;>first
  |(cases rx;rfl)
  |(obtain⟨t,rfl⟩:=rx;rfl)
theorem OpR.or {f:Qd->Qd->Sem Qd}{r r':R2}(h:OpR X f r)(h':OpR X f r'):OpR X f (fun x y H Q=>r x y H Q\/r' x y H Q):=by
 intro pins s σ H x y v u Q I rx ry q;rcases q with q | q
 ·exact h pins s σ H x y v u Q I rx ry q
 ·exact h' pins s σ H x y v u Q I rx ry q
theorem aHb (b:Expr){op:CmpOp}(h:op≠ .In:=by decide)(h2:op≠ .NotIn:=by decide):behindInMarks op b=false:=by
 have e1:(op==CmpOp.In)=false:=by cases op<;>first | rfl | exact absurd rfl h
 have e2:(op==CmpOp.NotIn)=false:=by cases op<;>first | rfl | exact absurd rfl h2
 cases b<;>simp[behindInMarks,e1,e2]
theorem bK6 {op:CmpOp}{r:R2}(ho:OpR X (Yp op) r)(ha:PE X a ta)(hb:PE X b tb)(hm:behindInMarks op b=false):PE X (.Compare a [op] [b] pos) (tOp r ta tb):=by
 intro pins s σ H Q I h;exact wpAny_Compare1 (bUo ha hb I h fun v u s2 x y H2 I2 rx ry q=>ho pins s2 σ H2 x y v u Q I2 rx ry q) hm
def bSk (t:TE):TT:=fun σ H Q=>t σ H fun x H'=> ∃k,x= .bl k/\Q k H'
theorem bKx {op:CmpOp}{r:R2}(ho:OpR X (Yp op) r)(ha:PE X a ta)(hb:PE X b tb)(hm:behindInMarks op b=false):PT X (.Compare a [op] [b] pos) (bSk (tOp r ta tb)):=by
 intro pins s σ H Q I h;refine wpAny_isTrue_Compare1 (thn (ha pins s σ H _ I h) fun v s1 ⟨x,H1,I1,r1,q1⟩=>thn (hb pins s1 σ H1 _ I1 q1) fun u s2 ⟨y,H2,I2,r2,q2⟩=>
  thn (ho pins s2 σ H2 x y v u _ I2 r1 r2 q2) fun c s3 ⟨z,H3,I3,r3,k,e,q3⟩=> ?_) hm
 subst e;cases r3;exact wpAny_truthy_bool ⟨H3,I3,q3⟩
def bUt (K:Qc)(x:V)(H:Hp)(k:Bool):Prop:=
 match x with
 | .non=>k=false
 | .bl b=>k=b
 | .int i=>k=(i !=0)
 | .str y=>y.length<=Qy/\k=((y.length:Int) !=0)
 | .byt y=>y.size<=Qy/\k=((y.size:Int) !=0)
 | .ref p=>(∃xs,SqL K H p xs/\k= !xs.isEmpty)\/(∃xs,SqT K H p xs/\k= !xs.isEmpty)\/∃kvs,H p=some (.dK kvs)/\k= !kvs.isEmpty
 | _=>False
theorem aZo {κ:Type}{kvs:List (κ×V)}{vs:List (κ×Qd)}(r:KV kvs vs):(!vs.isEmpty)= !kvs.isEmpty:=by
 cases r<;>rfl
theorem aQd {xs:List V}{its:List Qd}(r:Vals xs its):(!its.toArray.isEmpty)= !xs.isEmpty:=by
 cases r<;>simp
theorem aTm:(Qy:Nat)<2^63:=by rw[Z6];decide
theorem bN9:bXo X (fun x H Q=> ∃k,bUt X.K x H k/\Q k H):=by
 intro pins s σ H x v Q I rx h;obtain⟨k,e,q⟩:=h;have hl:=aTm;have hs:Qy=16777216:=Z6;cases x with
 | non=>
  cases rx;have e':k=false:=e;subst e';exact truthy_none ⟨H,I,q⟩
 | bl b=>
  cases rx;have e':k=b:=e;subst e';exact wpAny_truthy_bool ⟨H,I,q⟩
 | int i=>
  obtain⟨t,rfl⟩:=rx;have e':k=(i !=0):=e;subst e';exact PySem.P.truthy_int ⟨H,I,q⟩
 | str y=>
  obtain⟨t,rfl⟩:=rx;obtain⟨hy,e'⟩:y.length<=Qy/\k=((y.length:Int) !=0):=e;subst e';exact PySem.P.truthy_str (by omega) ⟨H,I.tok _,q⟩
 | byt y=>
  obtain⟨t,rfl⟩:=rx;obtain⟨hy,e'⟩:y.size<=Qy/\k=((y.size:Int) !=0):=e;subst e';exact PySem.W.truthy_bytes (by omega) ⟨H,I.tok _,q⟩
 | ref p=>
  cases rx;have e':(∃xs,SqL X.K H p xs/\k= !xs.isEmpty)\/(∃xs,SqT X.K H p xs/\k= !xs.isEmpty)\/∃kvs,H p=some (.dK kvs)/\k= !kvs.isEmpty:=e;rcases e' with⟨xs,hx,e'⟩ |⟨xs,hx,e'⟩ |⟨kvs,hx,e'⟩
  ·subst e'
   obtain⟨its,r,pl,hz⟩:=I.list hx;have hlen:=r.length;exact wpAny_truthy_list pl.isList (by simp only[Qu];omega) ⟨H,I.tok _,by rw[aQd r];exact q⟩
  ·subst e'
   obtain⟨its,r,pl,hz⟩:=I.tuple hx;have hlen:=r.length;exact truthy_tuple pl (by simp only[Qu];omega) ⟨H,I.tok _,by rw[aQd r];exact q⟩
  ·subst e'
   obtain⟨hz,hS,vs,r,m⟩:kvs.length<=Qy/\(p==Jj)=false/\∃vs,KV kvs vs/\s.heap.DictOf (aBb X.prog X.w) p vs:=I.hok p _ hx;have hlen:kvs.length=vs.length:=Paired.length r;exact wpAny_truthy_dict hS m (by omega) ⟨H,I.tok _,by rw[aZo r];exact q⟩
 | _=>exact (show False from e).elim
theorem bGf (ha:PE X a ta)(he: ∀whole,isTrue a X.env whole=(do let v<-whole;standAt a.pos;holding [v] (truthy v))):
  PT X a (fun σ H Q=>ta σ H fun x H'=> ∃k,bUt X.K x H' k/\Q k H'):=by
 intro pins s σ H Q I h;exact isTrue_plain (thn (ha pins s σ H _ I h) fun v s1 ⟨x,H1,I1,r1,q1⟩=>bN9 pins s1 σ H1 x v Q I1 r1 q1) (he _)
theorem aY9:OpR X (Jh .Add) (fun x y H Q=> ∃i j,x= .str i/\y= .str j/\i.length+j.length<=Qy/\Q (.str (i++j)) H):=by
 intro pins s σ H x y v u Q I rx ry h;obtain⟨i,j,rfl,rfl,hz,q⟩:=h;obtain⟨t,rfl⟩:=rx;obtain⟨t',rfl⟩:=ry;exact add_str (fun t' tk=>⟨.str (i++j),H,I.tok _,⟨_,rfl⟩,q⟩) hz
theorem vals1 {x:V}{us:List Qd}(r:Vals [x] us): ∃u,us=[u]/\RelV x u:=by
 cases r with
 | cons r1 r2=>cases r2;exact⟨_,rfl,r1⟩
theorem vals2 {x y:V}{us:List Qd}(r:Vals [x,y] us): ∃u w',us=[u,w']/\RelV x u/\RelV y w':=by
 cases r with
 | cons r1 r2=>
  cases r2 with
  | cons r3 r4=>cases r4;exact⟨_,_,rfl,r1,r3⟩
end
structure bNp (h:Heap)(x dx C:Addr)(mA:Str->Option Qd):Prop where
 obj:h.get? x=some (Jb C dx)
 ns:h.Ns1 dx mA
 ne:dx≠x
theorem bCv {h:Heap}{dx:Addr}{mA:Str->Option Qd}(n:h.Ns1 dx mA): ∃od,h.get? dx=some od/\∀name,Wp name od=some (mA name):=by
 obtain⟨o,es,ep,ho,hd,hk,_,hm⟩:=n;refine⟨o,ho,fun name=> ?_⟩;have e:=hm name;unfold nsFind findBy at e;rw[<-Array.find?_toList] at e;unfold Wp;rw[hd]
 dsimp only
 split
 ·rename_i y q
  rw[q] at e;exact congrArg some e
 ·rename_i q
  rw[q] at e;have a:es.toList.any (·.refKey)=false:=by
   rw[Uk];intro y hy;obtain⟨z,t,hkey⟩:=hk y (Array.mem_toList_iff.mp hy);simp[DictEntry.refKey,hkey]
  have a':¬es.toList.any (·.refKey)=true:=by rw[a];exact Q2
  rw[if_neg a'];exact congrArg some e
theorem bNp.look {h:Heap}{x dx C:Addr}{mA:Str->Option Qd}(I:bNp h x dx C mA): ∃od,PySem.W.InstAt h x (Jb C dx) C (some od)/\∀name,Wp name od=some (mA name):=
 let ⟨od,ho,hl⟩:=bCv I.ns
 ⟨od,⟨I.obj,rfl,rfl,ho⟩,hl⟩
section
variable {prog:Qx}{w:Zb}{A:Ze}{E:Qd->Qf->Prop}{s:Qf}{K:Qc}{x dx C f:Addr}{mA:Str->Option Qd}{name:Str}{v:Qd}
theorem get_map {expr:Bool}{Q:Qd->Qf->Prop}(X:K.In s.heap)(I:bNp s.heap x dx C mA)(hg:Wc K C name=true)(hh:W2 K C=true)
  (ha:Jl K (.ref C) name=some none) (hv:mA name=some v) (hv':Et v=true) (h:Q v {s with toks:=s.toks+1}):
  Qp (Qt prog w) A (getAttr (.ref x) name expr) Q E s:=by
 obtain⟨od,J,hl⟩:=I.look;exact PySem.W.get_value X J (Wt hg).1 (PySem.W.findObj_own hh ha rfl (by rw[hl,hv])) hv' h
theorem bHl {pl:Sem Bool}{Q:Qd×List Qd->Qf->Prop}(X:K.In s.heap)(I:bNp s.heap x dx C mA)(hg:Wc K C name=true)
  (hf:Jl K (.ref C) name=some (some (.ref f))) (ht:Vy K (.ref f)=true) (hv:mA name=none) (h:Q (.ref f,[.ref x]) s):
  Qp (Qt prog w) A (getMethod (.ref x) name pl) Q E s:=by
 obtain⟨od,J,hl⟩:=I.look;exact PySem.W.method_fn X J (Wt hg).1 (Wt hg).2 hf (beq_iff_eq.mp ht) (by show (Wp name od).map (·.isSome)=some false;rw[hl,hv];rfl) h
theorem bKo {ns:List Str}{Q:Unit->Qf->Prop}(X:K.In s.heap)(I:bNp s.heap x dx C mA)
  (hs:Jl K (.ref C) "__setattr__"=some (some (.builtin "object.__setattr__"))) (hp:Em K C=true) (ht:Va K C name=some none) (hh:W2 K C=true)
  (hw:Ea mA ns) (hsz:ns.length<=Qy)
  (h: ∀h',bNp h' x dx C (fun y=>if y=name then some v else mA y)->Z3 dx s.heap h'->Q () {s with heap:=h',toks:=s.toks+2}):
  Qp (Qt prog w) A (setAttr (.ref x) name v) Q E s:=by
 obtain⟨od,J,hl⟩:=I.look;refine PySem.W.set_plain X J hs (PySem.W.osa_open (s:={s with toks:=s.toks+1}) (r:=none) X J hp ht fun b=> ?_);obtain⟨cd,hc,hd'⟩:=PySem.W.any_some hh;have hx:s.heap.get? x=some ⟨.ref C,some dx,.plain,#[]⟩:=I.obj;refine Qa (Qe (Qa (Qa (wpAny_loadPart hx (Qa (PySem.W.Looks.here (s:={s with toks:=s.toks+1}) (PySem.W.looks_clsIn X hc) ?_))))));rw[hd'];refine Qe (a:=some dx) (Qa (Qe (Qa ?_)));refine wpAny_nsSet1 (s:={s with toks:=s.toks+1}) I.ns fun h' hn2 hs2=> ?_
 obtain⟨oD,esD,epD,hoD,hdD,hcD⟩:=hn2.count (PySem.Within.cons name v hw);refine Qa (wpAny_lookBehind hoD (by rw[hdD];exact pastItsLine_dict (Zs hcD (by rw[Qk];omega))) ?_);exact Qe (h _ ⟨(hs2.2 _ (Ne.symm I.ne)).trans I.obj,hn2,I.ne⟩ hs2)
theorem bG9 {R:Result->Qf->Prop}{vs:List Qd}{kw:List (Str×Qd)}(X:K.In s.heap)(hm:Ez K C=true)
  (hi:Jl K (.ref C) "__init__"=some (some (.ref f))) (hf:PySem.W.typeIn K (.ref f)=some (.type "function"))
  (h:codeAny (Qt prog w) (A.under (.builtin "type.__call__" ⟨.ref C::vs,kw⟩)) (.call (.ref f) ⟨.ref (s.heap.objs.size+1)::vs,kw⟩) (PySem.W.InitBack (s.heap.objs.size+1) R)
   {s with heap:=(s.heap.push Yn).push (Jb C s.heap.objs.size)}):
  codeAny (Qt prog w) A (.call (.ref C) ⟨vs,kw⟩) R s:=by
 obtain⟨hh,g,d,t,os⟩:=s;exact PySem.W.make_core (PySem.W.makes_of X hm) (PySem.W.looks_findIn X hi) (fun self=>PySem.W.bind_fn X self hf) (.inl rfl) h
end
def aP1 (f:Str)(v:V):List (Str×V)->List (Str×V)
 | []=> [(f,v)]
 |(g,x)::r=>if g=f then (g,v)::r else (g,x)::aP1 f v r
theorem aN9 (f g:Str)(v:V): ∀fs:List (Str×V),(aP1 f v fs).lookup g=if g=f then some v else fs.lookup g
 | []=>by
  show Ut g [(f,v)]=_;by_cases h:g=f
  ·have hb:(g==f)=true:=beq_iff_eq.mpr h
   simp only[Ut,hb,if_pos h]
  ·have hb:(g==f)=false:=beq_eq_false_iff_ne.mpr h
   simp only[Ut,hb,if_neg h]
 |(k,x)::r=>by
  have ih:=aN9 f g v r;rw[show aP1 f v ((k,x)::r)=(if k=f then (k,v)::r else (k,x)::aP1 f v r) from rfl];by_cases hk:k=f
  ·rw[if_pos hk]
   by_cases h:g=k
   ·have hb:(g==k)=true:=beq_iff_eq.mpr h
    simp only[Ut,hb,if_pos (h.trans hk)]
   ·have hb:(g==k)=false:=beq_eq_false_iff_ne.mpr h
    simp only[Ut,hb,if_neg (fun e:g=f=>h (e.trans hk.symm))]
  ·rw[if_neg hk]
   by_cases h:g=k
   ·have hb:(g==k)=true:=beq_iff_eq.mpr h
    simp only[Ut,hb,if_neg (fun e:g=f=>hk (h.symm.trans e))]
   ·have hb:(g==k)=false:=beq_eq_false_iff_ne.mpr h
    simp only[Ut,hb];exact ih
theorem aOe (f:Str)(v:V): ∀fs:List (Str×V),f∈(aP1 f v fs).map (·.1)/\∀g,g∈fs.map (·.1)->g∈(aP1 f v fs).map (·.1)
 | []=>⟨by simp[aP1],fun g h=>by simp at h⟩
 |(k,x)::r=>by
  obtain⟨i1,i2⟩:=aOe f v r;rw[show aP1 f v ((k,x)::r)=(if k=f then (k,v)::r else (k,x)::aP1 f v r) from rfl];by_cases hk:k=f
  ·rw[if_pos hk]
   subst hk;exact⟨by simp,fun g h=>by simpa using h⟩
  ·rw[if_neg hk]
   refine⟨?_,fun g h=> ?_⟩
   ·rw[Qv]
    exact Qr _ i1
   ·rw[Qv] at h⊢
    rcases List.mem_cons.mp h with e | e
    ·exact List.mem_cons.mpr (.inl e)
    ·exact Qr _ (i2 g e)
theorem aOb (f:Str)(v:V): ∀fs:List (Str×V),(aP1 f v fs).length<=fs.length+1
 | []=>by simp[aP1]
 |(k,x)::r=>by
  have ih:=aOb f v r;rw[show aP1 f v ((k,x)::r)=(if k=f then (k,v)::r else (k,x)::aP1 f v r) from rfl];by_cases hk:k=f
  ·rw[if_pos hk,Qk,Qk];omega
  ·rw[if_neg hk,Qk,Qk];omega
theorem aPn.some_of {v:V}{o:Option Qd}(r:aPn (some v) o): ∃u,o=some u/\RelV v u:=by
 cases o with
 | none=>exact (show False from r).elim
 | some u=>exact⟨u,rfl,r⟩
theorem aPn.none_of {o:Option Qd}(r:aPn none o):o=none:=by
 cases o with
 | none=>rfl
 | some u=>exact (show False from r).elim
theorem bDn {v:V}{u:Qd}(r:RelV v u):Et u=true:=by
 cases v with
 | non=>cases (show u=Zn from r);rfl
 | bl b=>cases (show u=Value.bool b from r);rfl
 | int i=>obtain⟨t,e⟩:=(show∃t,u=Value.int i t from r);cases e;rfl
 | str x=>obtain⟨t,e⟩:=(show∃t,u=Jk x t from r);cases e;rfl
 | byt b=>obtain⟨t,e⟩:=(show∃t,u=Value.bytes b t from r);cases e;rfl
 | flt b=>obtain⟨t,e⟩:=(show∃t,u=Value.float b t from r);cases e;rfl
 | ref a=>cases (show u=Q1 a from r);rfl
 | ty n=>cases (show u=Jd n from r);rfl
section
variable {P:Qx}{w:Zb}{H H':Hp}{h h':Heap}{a C dx:Addr}{fs fs':List (Str×V)}
theorem aVx (hok:HOk P w H h)(e:H a=some (.ins C dx fs)): ∃mA,bNp h a dx C mA/\(∀f,aPn (fs.lookup f) (mA f))/\Ea mA (fs.map (·.1))/\fs.length<=1000/\H dx=some (.own a):=by
 obtain⟨d,z,ne,ob,mA,n,r,q⟩:=(show aBn P w H h a (.ins C dx fs) from hok a _ e);exact⟨mA,⟨ob,n,ne⟩,r,q,z,d⟩
end
structure Cls (K:Qc)(C:Addr):Prop where
 pg:Wc K C Jz=true
 hd:W2 K C=true
 po:Em K C=true
 sa:Jl K (.ref C) "__setattr__"=some (some (.builtin "object.__setattr__"))
theorem Cls.get {K:Qc}{C:Addr}(c:Cls K C)(f:Str):Wc K C f=true:=c.pg
def aE8 (K:Qc)(C:Addr)(f:Str):Prop:=Jl K (.ref C) f=some none
theorem aE8.taker {K:Qc}{C:Addr}{f:Str}(n:aE8 K C f):Va K C f=some none:=by
 unfold Va;rw[show Jl K (.ref C) f=some none from n];rfl
structure Meth (K:Qc)(C:Addr)(m:Str)(f:Addr):Prop where
 at_:Jl K (.ref C) m=some (some (.ref f))
 fn:Vy K (.ref f)=true
 kp:Ux K (.ref f)=true
section
variable {X:Cx}{pins:List (Addr×Obj)}{σ:St}{H:Hp}{s:Qf}{a C dx:Addr}{fs:List (Str×V)}{f:Str}{v:V}{A:Ze}{E:Qd->Qf->Prop}
theorem aZs {b:Bool}{Q:Qd->Qf->Prop}(I:Inv X pins σ H s)(e:H a=some (.ins C dx fs))(c:Cls X.K C)(n:aE8 X.K C f)(l:fs.lookup f=some v)
  (h: ∀u s',Inv X pins σ H s'->RelV v u->Q u s'):Qp (Qt X.prog X.w) A (getAttr (.ref a) f b) Q E s:=by
 obtain⟨mA,O,r,_,_,_⟩:=aVx I.hok e;obtain⟨u,hu,ru⟩:=aPn.some_of (v:=v) (o:=mA f) (by rw[<-l];exact r f);exact get_map I.kIn O (c.get f) c.hd n hu (bDn ru) (h u _ (I.tok _) ru)
theorem aZr {m:Str}{g:Addr}{pl:Sem Bool}{Q:Qd×List Qd->Qf->Prop}(I:Inv X pins σ H s)(e:H a=some (.ins C dx fs))(c:Cls X.K C)(k:Meth X.K C m g)(l:fs.lookup m=none)
  (h:Q (.ref g,[.ref a]) s):Qp (Qt X.prog X.w) A (getMethod (.ref a) m pl) Q E s:=by
 obtain⟨mA,O,r,_,_,_⟩:=aVx I.hok e;have hn:mA m=none:=aPn.none_of (by rw[<-l];exact r m);exact bHl I.kIn O (c.get m) k.at_ k.fn hn h
theorem aYu {y:V}{u:Qd}{Q:Unit->Qf->Prop}(I:Inv X pins σ H s)(e:H a=some (.ins C dx fs))(c:Cls X.K C)(n:aE8 X.K C f)(hl:fs.length<1000)(ry:RelV y u)
  (h: ∀s',Inv X pins σ (upd H a (.ins C dx (aP1 f y fs))) s'->Q () s'):Qp (Qt X.prog X.w) A (setAttr (.ref a) f u) Q E s:=by
 obtain⟨mA,O,r,wi,_,ho⟩:=aVx I.hok e;have hz:(fs.map (·.1)).length<=Qy:=by rw[Qh,Z6];omega
 refine bKo I.kIn O c.sa c.po n.taker c.hd wi hz fun h' O' sb=>h _ ?_
 have hd: ∃o,h'.get? dx=some o:=let ⟨o,_,_,e',_⟩:=O'.ns;⟨o,e'⟩;refine I.write (x:=a) (e:=dx) (by rw[e];exact True.intro) (.inr ho) (fun b q hb z=>(sb.2 b hb).trans z) hd ?_;refine⟨by rw[aAo O.ne];exact ho,?_,O.ne,O'.obj,_,O'.ns,fun g=> ?_,fun g hg=> ?_⟩
 ·have:=aOb f y fs;omega
 ·show aPn ((aP1 f y fs).lookup g) (if g=f then some u else mA g)
  rw[aN9];by_cases q:g=f
  ·rw[if_pos q,if_pos q];exact ry
  ·rw[if_neg q,if_neg q];exact r g
 ·by_cases q:g=f
  ·rw[q];exact (aOe f y fs).1
  ·refine (aOe f y fs).2 g (wi g fun z=>hg ?_)
   show (if g=f then some u else mA g)=none;rw[if_neg q];exact z
theorem Inv.made (I:Inv X pins σ H s):Inv X pins σ (upd (upd H s.heap.objs.size (.own (s.heap.objs.size+1))) (s.heap.objs.size+1) (.ins C s.heap.objs.size []))
  {s with heap:=(s.heap.push Yn).push (Jb C s.heap.objs.size)}:=by
 have e1:(s.heap.push Yn).get? s.heap.objs.size=some Yn:=Ql s.heap rfl;have e2:((s.heap.push Yn).push (Jb C s.heap.objs.size)).get? (s.heap.objs.size+1)=some (Jb C s.heap.objs.size):=by
  have:=Ql (s.heap.push Yn) (o:=Jb C s.heap.objs.size) rfl
  rwa [Z2] at this
 have e3:(s.heap.push Yn).Ns s.heap.objs.size (fun _=>none):=⟨Yn,#[],_,e1,rfl,(fun e he=>absurd he (by simp)),fun _=>rfl⟩;have I1:=I.laid (a:=s.heap.objs.size) (o:= .own (s.heap.objs.size+1)) (h':=s.heap.push Yn) (t':=s.toks) (fun b u q=>Qb _ q) (Qo _) ⟨_,e1⟩;refine I1.laid (a:=s.heap.objs.size+1) (o:= .ins C s.heap.objs.size []) (t':=s.toks) (fun b u q=>Qb _ q) (Nat.le_of_eq (Z2 _ _)) ?_;have ne:s.heap.objs.size≠s.heap.objs.size+1:=Qz (Ur _);refine⟨by rw[aAo ne,aAm],Zy _,ne,e2,fun _=>none,(Heap.Ns1.of_empty e3).at fun o q=>Qb _ q,fun _=>True.intro,fun y hy=>absurd rfl hy⟩
theorem bNk {prog:Qx}{w:Zb}{env:Env}{e:Expr}{f:Str}{pos:Pos}{s:Qf}{Q:Qd->Qf->Prop}(hb:Jy e f env (eval e env)=eval e env)
  (h:Qp (Qt prog w) A (eval e env) (fun o s₁=>Qp (Qt prog w) A (getAttr o f true) Q E s₁) E s):Qp (Qt prog w) A (eval (.Attribute e f pos) env) Q E s:=
 Attribute_any_ h (by rw[arm_eval_Attribute,hb])
end
def bVx (K:Qc)(ta:TE)(f:Str):TE:=fun σ H Q=>ta σ H fun x H1=> ∃a C dx fs v,x= .ref a/\H1 a=some (.ins C dx fs)/\Cls K C/\aE8 K C f/\fs.lookup f=some v/\Q v H1
def bV3 (K:Qc)(ta tv:TE)(f:Str):TS:=fun D σ H=>tv σ H fun y H1=>ta σ H1 fun x H2=> ∃a C dx fs,x= .ref a/\H2 a=some (.ins C dx fs)/\Cls K C/\aE8 K C f/\fs.length<1000/\
 D.nx σ (upd H2 a (.ins C dx (aP1 f y fs)))
section
variable {X:Cx}{o e value:Expr}{f:Str}{pos pos' tpos:Pos}{ta tv:TE}
theorem bPc (he:PE X e ta)(hb:Jy e f X.env (eval e X.env)=eval e X.env):PE X (.Attribute e f pos) (bVx X.K ta f):=by
 intro pins s σ H Q I h;refine bNk hb (thn (he pins s σ H _ I h) fun u s1 hP=> ?_);obtain⟨x,H1,I1,rx,a,C,dx,fs,v,ex,ea,c,n,l,q⟩:=hP;subst ex;obtain rfl:u=Q1 a:=rx;exact aZs I1 ea c n l fun u' s2 I2 ru=>⟨v,H1,I2,ru,q⟩
theorem bI1 (ha:PE X o ta)(hv:PE X value tv)(hs:Y3 value (some (.Attribute o f pos')) pos.line X.env=pure false):PS X (.Assign [.Attribute o f pos'] value pos) (bV3 X.K ta tv f):=by
 intro pins s σ H D I h;refine plainObj_wpAny_Assign_Attribute (thn (hv pins s σ H _ I h) fun u s1 ⟨y,H1,I1,ry,q⟩=>thn (ha pins s1 σ H1 _ I1 q) fun ov s2 hP=> ?_) hs;obtain⟨x,H2,I2,rx,a,C,dx,fs,ex,ea,c,n,l,q2⟩:=hP;subst ex;obtain rfl:ov=Q1 a:=rx;exact aYu I2 ea c n l ry fun s3 I3=>⟨σ,_,I3,q2⟩
end
structure aFk (k:Nat)(A:Ze):Prop where
 hd:A.handled=none
 dp:A.depth+3*k+5<recursionLimit
 un:A.units+16*k+200<cLine
theorem aFk.mono {j k:Nat}{A:Ze}(r:aFk k A)(h:j<=k):aFk j A:=⟨r.hd,by have:=r.dp;omega,by have:=r.un;omega⟩
theorem aFk.deeper {k:Nat}{A:Ze}(r:aFk (k+1) A)(env:Env):aFk k (A.deeper env):=
 ⟨r.hd,by have:=r.dp;show A.depth+1+3*k+5<_;omega,by have:=r.un;show A.units+3+16*k+200<_;omega⟩
theorem aZg {A:Ze}{C:Addr}{us:List Qd}{kw:List (Str×Qd)}:(A.under (.builtin "type.__call__" ⟨.ref C::us,kw⟩)).depth=A.depth+1:=by
 first | rfl | simp[Around.under,Code.weight,Code.isCreation,Code.isGuard,Code.isCaller,Code.frames,Code.isFrame,guardIds]
theorem aZf {A:Ze}{C:Addr}{us:List Qd}{kw:List (Str×Qd)}:(A.under (.builtin "type.__call__" ⟨.ref C::us,kw⟩)).units=A.units+1:=by
 first | rfl | simp[Around.under,Code.cUnits,Code.frames,Code.isFrame]
theorem aFk.make {k:Nat}{A:Ze}(r:aFk (k+1) A)(C:Addr)(us:List Qd)(kw:List (Str×Qd)):aFk k (A.under (.builtin "type.__call__" ⟨.ref C::us,kw⟩)):=
 ⟨r.hd,by have:=r.dp;rw[aZg];omega,by have:=r.un;rw[aZf];omega⟩
theorem aFk.depth {k:Nat}{A:Ze}(r:aFk k A):A.depth<recursionLimit:=by have:=r.dp;omega
theorem aFk.units {k:Nat}{A:Ze}(r:aFk k A):A.units+64<cLine:=by have:=r.un;omega
theorem aFk.bIj {k:Nat}{A:Ze}(r:aFk k A):A.units<cLine:=by have:=r.un;omega
def bVt:TA:=fun _ H Q=>Q [] H
def bSr (ta:TE)(tr:TA):TA:=fun σ H Q=>ta σ H fun x H1=>tr σ H1 fun xs H2=>Q (x::xs) H2
section
variable {X:Cx}{e:Expr}{es:List Expr}{te:TE}{t:TA}{pos:Pos}
theorem aDl:PA X [] bVt:=fun _ _ _ _ H Q I h=>Calls.spliced_nil ⟨[],H,I,.nil,h⟩
theorem aB8 (ha:PE X e te)(hr:PA X es t)(hs:Zi (e::es) X.env=(false,eval e X.env)::Zi es X.env:=by rfl):PA X (e::es) (bSr te t):=by
 intro pos pins s σ H Q I h;rw[hs];show Qp _ _ (spliced ((false,eval e X.env)::backTo pos (Zi es X.env))) _ _ s;refine J0 (thn (ha pins s σ H _ I h) fun u s1 ⟨x,H1,I1,r1,q1⟩=> ?_);exact thn (hr pos pins s1 σ H1 _ I1 q1) fun us s2 ⟨xs,H2,I2,r2,q2⟩=>⟨x::xs,H2,I2,.cons r1 r2,q2⟩
def bVo (t:TA):TE:=fun σ H Q=>t σ H fun xs H1=>xs.length<=Qy/\∀p,H1 p=none->Q (.ref p) (upd H1 p (.tup xs))
def bVu (t:TA):TE:=fun σ H Q=>t σ H fun xs H1=>xs.length<=Qy/\∀p,H1 p=none->Q (.ref p) (upd H1 p (.lst xs))
theorem bO6 {x1}(h:PA X es t):PE X (.Tuple es x1 pos) (bVo t):=by
 intro pins s σ H Q I hq;refine wpAny_Tuple_spliced (thn (h pos pins s σ H _ I hq) fun us s1 ⟨xs,H1,I1,r,z,q⟩=>⟨by rw[<-r.length];exact z,?_⟩);have hf:H1 s1.heap.objs.size=none:=I1.hok.fresh (Qo _);refine⟨.ref s1.heap.objs.size,upd H1 s1.heap.objs.size (.tup xs),I1.laid (t':=s1.toks) (fun b u e=>Qb _ e) (Qo _) ?_,rfl,q _ hf⟩;exact⟨z,us,r,⟨_,Ql _ rfl,rfl,⟨_,rfl⟩,rfl⟩⟩
theorem aW6 (h:PA X es t):PE X (.List es pos) (bVu t):=by
 intro pins s σ H Q I hq;refine wpAny_List_spliced (thn (h pos pins s σ H _ I hq) fun us s1 ⟨xs,H1,I1,r,z,q⟩=>⟨by rw[<-r.length];exact z,?_⟩);have hf:H1 s1.heap.objs.size=none:=I1.hok.fresh (Qo _);refine⟨.ref s1.heap.objs.size,upd H1 s1.heap.objs.size (.lst xs),I1.laid (t':=s1.toks) (fun b u e=>Qb _ e) (Qo _) ?_,rfl,q _ hf⟩;exact⟨z,us,0,r,Ql _ rfl⟩
end
abbrev Sp:=List V->Hp->VK->XK->Prop
abbrev CXT:=List Env->Hp->Qf->XK->Qd->Qf->Prop
structure bNt (P:Qx)(w:Zb)(K:Qc)(mg:Str->Option Qd)(base:Heap)(A:Ze)(outer:List Env)(s:Qf)(H:Hp):Prop where
 frames:A.frames=some outer
 mod:Mod K mg base
 bs: ∀b o,base.get? b=some o->s.heap.get? b=some o/\H b=none
 bsz:base.objs.size<=s.heap.objs.size
 bAo:s.heap.FunFrames base outer
 frf: ∀b∈frs outer,H b=none
 hok:HOk P w H s.heap
 bare:AllBare s.gens
def CE (outer:List Env)(P:Qx)(w:Zb)(H:Hp)(s:Qf)(Q:VK)(u:Qd)(s':Qf):Prop:=
 ∃v H',s'.os=s.os/\AllBare s'.gens/\Un (frs outer) [] H H' s.heap s'.heap/\HOk P w H' s'.heap/\RelV v u/\Q v H'
def CR (CX:CXT)(outer:List Env)(P:Qx)(w:Zb)(H:Hp)(s:Qf)(Q:VK)(E:XK)(r:Result)(s':Qf):Prop:=
 match r with
 | .ok (.ret u)=>CE outer P w H s Q u s'
 | .ok _=>False
 | .error e=>CX outer H s E e s'
structure bFj (P:Qx)(w:Zb)(K:Qc)(mg:Str->Option Qd)(base:Heap)(CX:CXT)(k:Nat)(f:Addr)(fd:FuncData)(ps:List Str)(sp:Sp):Prop where
 len: ∀vs H Q E,sp vs H Q E->vs.length=ps.length
 run: ∀(A:Ze) (outer:List Env) (s:Qf) (H:Hp) (args:Args) (us:List Qd) (vs:List V) (Q:VK) (E:XK),aFk k A->bNt P w K mg base A outer s H->BindsTo s fd args (ps.zip us)->Vals vs us->sp vs H Q E->
  codeAny (Qt P w) A (.call (.ref f) args) (CR CX outer P w H s Q E) s
theorem bFj.imp {P:Qx}{w:Zb}{K:Qc}{mg:Str->Option Qd}{base:Heap}{CX:CXT}{k:Nat}{f:Addr}{fd:FuncData}{ps:List Str}{sp sp':Sp}(F:bFj P w K mg base CX k f fd ps sp)
  (h: ∀vs H Q E,sp' vs H Q E->sp vs H Q E):bFj P w K mg base CX k f fd ps sp':=
 ⟨fun vs H Q E q=>F.len vs H Q E (h _ _ _ _ q),fun A outer s H args us vs Q E hr he hb hv hs=>F.run A outer s H args us vs Q E hr he hb hv (h _ _ _ _ hs)⟩
theorem bNt.make {P:Qx}{w:Zb}{K:Qc}{mg:Str->Option Qd}{base:Heap}{A:Ze}{outer:List Env}{s:Qf}{H:Hp}(e:bNt P w K mg base A outer s H)(C:Addr)(us:List Qd)(kw:List (Str×Qd)):
  bNt P w K mg base (A.under (.builtin "type.__call__" ⟨.ref C::us,kw⟩)) outer s H:=⟨by first | exact e.frames |(simpa[Around.under,Code.envs,Code.isFrame,pushEnvs] using e.frames),e.mod,e.bs,e.bsz,e.bAo,e.frf,e.hok,e.bare⟩
section
variable {X:Cx}{pins:List (Addr×Obj)}{σ:St}{H:Hp}{s s':Qf}
theorem Inv.env0 (I:Inv X pins σ H s):bNt X.prog X.w X.K X.mg X.base X.A X.stack s H:=
 ⟨I.ok.frames,I.ok.mod,I.bs,Zs I.ok.bsz I.sz,I.stack,I.bA9,I.hok,I.bare⟩
theorem Inv.after {Q:VK}{u:Qd}(I:Inv X pins σ H s)(h:CE X.stack X.prog X.w H s Q u s'):EP X pins σ Q u s':=by
 obtain⟨v,H',os,bare,un,hok,r,q⟩:=h;obtain⟨hh,g,d,t,os'⟩:=s';obtain rfl:os'=s.os:=os;exact⟨v,H',I.call (h':=hh) (g':=g) (d':=d) (t':=t) (ch:=[]) un hok bare (fun b z=>absurd z (by simp)),r,q⟩
end
def Binds (K:Qc)(fd:FuncData)(ps:List Str)(ds:List Qd):Prop:=
 ∀(s:Qf) (us:List Qd),K.In s.heap->(us++ds).length=ps.length->BindsTo s fd ⟨us,[]⟩ (ps.zip (us++ds))
theorem Binds.all {K:Qc}{fd:FuncData}{ps:List Str}(h: ∀us:List Qd,us.length=ps.length->bindArgs fd ⟨us,[]⟩=pure (ps.zip us)):Binds K fd ps []:=fun s us _ hl=>by
 rw[Z9] at hl⊢;exact .of_eq (h us hl)
section
variable {X:Cx}{CX:CXT}{k:Nat}{f C:Addr}{fd:FuncData}{ps:List Str}{sp:Sp}{dvs:List V}{ds:List Qd}{E:XK}{x m:Str}{p pos apos:Pos}{e o:Expr}{es:List Expr}{ta:TE}{t:TA}
structure Mk (K:Qc)(C f:Addr):Prop where
 makes:Ez K C=true
 init:Jl K (.ref C) "__init__"=some (some (.ref f))
 fn:Vy K (.ref f)=true
 kp:Ux K (.ref C)=true
end
structure aAt (N P:List Str)(sc:Scope):Prop where
 kind:sc.kind= .function
 co:sc.isCoroutine=false
 gen:sc.isGenerator=false
 nd:N.Nodup
 pre:N.take P.length=P
 par: ∀x∈P,sc.names.lookup x=some .local\/sc.names.lookup x=some .cell
 bPx: ∀y∈sc.names,y.2≠ .free
theorem aT9 {kindOf:Str->Option NameKind}{x:Str}: ∀{binds:List (Str×Qd)} {m:Str->Option Qd},(∀v,(x,v)∉binds)->bindL kindOf binds m x=m x
 | [],_,_=>rfl
 |(n,v)::r,m,h=>by
  unfold bindL;rw[aT9 fun w hw=>h w (Qr _ hw)];split
  ·have:x≠n:=by rintro rfl;exact h v Qm
   simp[this]
  ·rfl
theorem aUb {kindOf:Str->Option NameKind}{x:Str}: ∀{binds:List (Str×Qd)} {m:Str->Option Qd},(∀v,(x,v)∉binds)->bindC kindOf binds m x=m x
 | [],_,_=>rfl
 |(n,v)::r,m,h=>by
  unfold bindC;rw[aUb fun w hw=>h w (Qr _ hw)];split
  ·rfl
  ·have:x≠n:=by rintro rfl;exact h v Qm
   simp[this]
theorem aUa {kindOf:Str->Option NameKind}{x:Str}{v:Qd}: ∀{P:List Str} {vs:List Qd} {i:Nat} {m:Str->Option Qd},P.Nodup->P[i]? =some x->vs[i]? =some v->kindOf x=some .local->
  bindL kindOf (P.zip vs) m x=some v
 | [],_,_,_,_,h,_,_=>by simp at h
 | _::_,[],_,_,_,_,h,_=>by simp at h
 | p::P,w::vs,0,m,nd,h1,h2,hk=>by
  simp at h1 h2;subst h1;subst h2;show bindL kindOf ((p,w)::P.zip vs) m p=_;unfold bindL;rw[aT9 fun v hv=>(List.nodup_cons.mp nd).1 (Vk hv).1,if_pos hk];simp
 | p::P,w::vs,i+1,m,nd,h1,h2,hk=>by
  show bindL kindOf ((p,w)::P.zip vs) m x=_;unfold bindL;exact aUa (i:=i) (List.nodup_cons.mp nd).2 (by simpa using h1) (by simpa using h2) hk
theorem aUc {kindOf:Str->Option NameKind}{x:Str}{v:Qd}: ∀{P:List Str} {vs:List Qd} {i:Nat} {m:Str->Option Qd},P.Nodup->P[i]? =some x->vs[i]? =some v->kindOf x≠some .local->
  bindC kindOf (P.zip vs) m x=some v
 | [],_,_,_,_,h,_,_=>by simp at h
 | _::_,[],_,_,_,_,h,_=>by simp at h
 | p::P,w::vs,0,m,nd,h1,h2,hk=>by
  simp at h1 h2;subst h1;subst h2;show bindC kindOf ((p,w)::P.zip vs) m p=_;unfold bindC;rw[aUb fun v hv=>(List.nodup_cons.mp nd).1 (Vk hv).1,if_neg hk];simp
 | p::P,w::vs,i+1,m,nd,h1,h2,hk=>by
  show bindC kindOf ((p,w)::P.zip vs) m x=_;unfold bindC;exact aUc (i:=i) (List.nodup_cons.mp nd).2 (by simpa using h1) (by simpa using h2) hk
def start (N:List Str)(vs:List V):St:=vs.map some++Zv (N.length-vs.length) none
def bNz (CX:CXT)(P:Qx)(w:Zb)(K:Qc)(mg:Str->Option Qd)(base:Heap)(N:List Str)(qual:Str)(scope:Scope)(f:Addr)(cd:Qd)(A:Ze)(outer:List Env)(s:Qf)(H:Hp)(E:XK):Cx where
 prog:=P
 w:=w
 K:=K
 mg:=mg
 base:=base
 A:=A.deeper (envOfC qual scope s.heap.objs.size f cd)
 N:=N
 s₀:=s
 H₀:=H
 env:=envOfC qual scope s.heap.objs.size f cd
 outer:=outer
 stack:=envOfC qual scope s.heap.objs.size f cd::outer
 ex:=[]
 calm:=true
 fn:=fun _=>true
 pn:=[]
 xe:=fun e s'=>Qp (Qt P w) (A.deeper (envOfC qual scope s.heap.objs.size f cd)) (leaving (envOfC qual scope s.heap.objs.size f cd) e) (fun _ s''=>CX outer H s E e s'') (fun e' s''=>CX outer H s E e' s'') s'
theorem aYb {sc:Scope}{n:Nat}{x:Str}(h:sc.names.lookup x=some .cell): ∃c,(cellsFrom n sc.names []).lookup x=some c:=by
 have q:=Vz sc.names n [] (.inl h);exact Option.isSome_iff_exists.mp q
theorem bDh {CX:CXT}{P:Qx}{w:Zb}{K:Qc}{mg:Str->Option Qd}{base:Heap}{N ps:List Str}{qual:Str}{scope:Scope}{f:Addr}{cd:Qd}{A:Ze}{outer:List Env}{s s1:Qf}{H:Hp}{E:XK}{us:List Qd}{vs:List V}
  (S:aAt N ps scope) (hd:A.handled=none) (e0:bNt P w K mg base A outer s H) (hl:vs.length=ps.length) (r:Vals vs us)
  (x:InCallC s s.heap.objs.size (bindL (envOfC qual scope s.heap.objs.size f cd).kindOf (ps.zip us) fun _=>none) (cellsFrom (s.heap.objs.size+1) scope.names []) (bindC (envOfC qual scope s.heap.objs.size f cd).kindOf (ps.zip us) fun _=>none) s1):
  Inv (bNz CX P w K mg base N qual scope f cd A outer s H E) [] (start N vs) H s1:=by
 have hpl:ps.length<=N.length:=by have:=congrArg Uu S.pre;rw[Yv] at this;omega
 obtain⟨h1,tk,rfl,hk⟩:=x.done;have noA: ∀b:Addr,b∉(bNz CX P w K mg base N qual scope f cd A outer s H E).ex:=fun b z=>absurd (show b∈([]:List Addr) from z) (by simp)
 refine⟨⟨e0.mod,S.kind,rfl,rfl,Qo _,fun y z c h1 h2=> ?_,fun y hy=> ?_,fun y c _ h=> ?_,fun _=>hd,Around.frames_deeper e0.frames,.inr ⟨rfl,rfl⟩,fun b z=>absurd z (noA b),e0.bs,e0.bsz,fun b _ _=>noA b,fun b z=>absurd z (noA b),e0.bAo,e0.frf⟩,
  rfl,e0.bare,Un.kept hk,⟨_,x.toInCall.ns,fun i y v h1 h2 h3=> ?_⟩,fun y c h=>⟨_,x.cell y c h⟩,e0.hok.fresh (Qo _),fun y c h=> ?_,fun p hp=>absurd (show p∈([]:List (Addr×Obj)) from hp) (by simp),e0.hok.kept hk,?_⟩
 ·exact name_of_addr x.apart (Ue h1) (Ue h2)
 ·have hy:scope.names.lookup y=some .cell\/scope.names.lookup y=some .free:=hy
  rcases hy with hy | hy
  ·exact aYb hy
  ·exact absurd rfl (S.bPx _ (Ue hy))
 ·exact Um (x.above y c (Ue h))
 ·have hi:i<vs.length:=by
   unfold start at h2;by_cases hi:i<vs.length
   ·exact hi
   ·rw[Yy (by simpa using hi)] at h2
    rw[Je] at h2;split at h2<;>cases h2
  have ha:vs[i]? =some v:=by
   unfold start at h2;rw[Yo (by simpa using hi),Q7] at h2;cases e:vs[i]? with
   | none=>rw[e] at h2;cases h2
   | some a=>rw[e] at h2;cases h2;rfl
  obtain⟨u,hu,rv⟩:=r.get ha;have hp:ps[i]? =some y:=by
   rw[<-S.pre,List.getElem?_take_of_lt (by omega)];exact h1
  have ndP:ps.Nodup:=by rw[<-S.pre];exact S.nd.sublist (List.take_sublist _ _)
  refine⟨u,rv,?_⟩;rcases S.par y (Ua hp) with k | k
  ·exact .inl ⟨k,aUa ndP hp hu k⟩
  ·obtain⟨c,e⟩:=aYb (n:=s.heap.objs.size+1) k
   refine .inr ⟨.inl k,c,e,?_⟩;have q:=x.cell y c e;rw[aUc ndP hp hu (by show scope.names.lookup y≠_;rw[k];decide)] at q;exact q
 ·exact e0.hok.fresh (Um (x.above y c (Ue h)))
 ·unfold start
  show _=N.length;rw[Qq,Qh,J7];omega
theorem bRg {CX:CXT}{P:Qx}{w:Zb}{K:Qc}{mg:Str->Option Qd}{base:Heap}{k:Nat}{f:Addr}{name qual:Str}{params:Arguments}{body:List Stmt}{scope:Scope}{dV kV doc pm cdv ct oc:Qd}{an od:Option Addr}
  {osl:Array (Option Qd)} {N ps:List Str} {sp:Sp} (lk:K.lookup f=some ⟨oc,od,.func (Uv name qual params body scope dV kV doc pm an cdv ct),osl⟩) (hcd:Vi K cdv qual=true) (S:aAt N ps scope)
  (len: ∀vs H Q E,sp vs H Q E->vs.length=ps.length)
  (hbody: ∀(A:Ze) (outer:List Env) (s:Qf) (H:Hp) (vs:List V) (Q:VK) (E:XK),aFk k (A.deeper (envOfC qual scope s.heap.objs.size f cdv))->sp vs H Q E->
   ∃t,PSs (bNz CX P w K mg base N qual scope f cdv A outer s H E) body t/\t {nx:=fun _ H'=>Q .non H',rt:=Q} (start N vs) H):
  bFj P w K mg base CX (k+1) f (Uv name qual params body scope dV kV doc pm an cdv ct) ps sp:=by
 refine⟨len,fun A outer s H args us vs Q E hr e0 hb r hsp=> ?_⟩;have hl:=len _ _ _ _ hsp;have KX:K.In s.heap:=e0.mod.kin.keeps fun b o e=>(e0.bs b o e).1
 have lim:s.heap.NoLimit:=e0.mod.nolimit.keeps fun b o e=>(e0.bs b o e).1
 have hkind: ∀y∈ps.zip us,scope.names.lookup y.1=some .local\/(scope.names.lookup y.1=some .cell/\((cellsFrom (s.heap.objs.size+1) scope.names []).lookup y.1).isSome=true):=fun⟨n,v⟩ hy=>by
  rcases S.par n (Vk hy).1 with q | q
  ·exact .inl q
  ·exact .inr ⟨q,Vz _ _ _ (.inl q)⟩
 refine codeAny_call_function hr.depth (KX _ _ lk) rfl S.co S.gen rfl (PySem.W.codeRec_of KX hcd) (hb _ _ _ _ ?_);refine wpAny_newFunctionEnv_cells S.kind hkind fun env he s1 x=> ?_
 subst he;refine⟨lim.keeps x.toInCall.keep,codeAny_func ?_⟩;obtain⟨t,ht,hq⟩:=hbody A outer s H vs Q E (hr.deeper _) hsp;have I:Inv (bNz CX P w K mg base N qual scope f cdv A outer s H E) [] (start N vs) H s1:=bDh S hr.hd e0 hl r x;refine Y1 (ht [] s1 (start N vs) H _ I hq) (fun fl s' hs=> ?_) fun e s' hs=>hs
 have fin: ∀{σ':St} {H':Hp} {v:V} {u:Qd},Inv (bNz CX P w K mg base N qual scope f cdv A outer s H E) [] σ' H' s'->RelV v u->Q v H'->CE outer P w H s Q u s':=
  fun {σ' H' v u} J rv q=>⟨v,H',J.os,J.bare,J.base,J.hok,rv,q⟩
 cases fl with
 | ret u=>
  obtain⟨v,σ',H',J,rv,q⟩:=hs;exact fin J rv q
 | next=>
  obtain⟨σ',H',J,q⟩:=hs;exact fin (v:=V.non) (u:=Zn) J rfl q
 | brk=>
  obtain⟨_,_,_,q⟩:=hs;exact Qg q
 | cont=>
  obtain⟨_,_,_,q⟩:=hs;exact Qg q
section
variable {X:Cx}{x:Str}{p pos:Pos}{e:Expr}{es:List Expr}{t:TA}{id T:String}{r:List V->Hp->VK->Prop}
def tCB (r:List V->Hp->VK->Prop)(t:TA):TE:=fun σ H Q=>t σ H fun vs H1=>r vs H1 Q
theorem aEr (hc:aGh X (.builtin id) r)(hg:Gl X x)(hm:X.mg x=none)(hv:Jn x=some (.builtin id))(ha:PA X (e::es) t)(hn:x≠"__name__":=by decide)(hdb:(x==("__debug__":Str))=false:=by decide)
  (he:Zi (e::es) X.env=(false,eval e X.env)::Zi es X.env:=by rfl) (hpl:(backTo pos (Zi es X.env)).any (·.1)=false:=by rfl):PE X (.Call (.Name x p) (e::es) [] pos) (tCB r t):=by
 intro pins s σ H Q I h;refine J8 (aP9 I hg hm hv ?_ hn hdb);exact Wv (thn (ha pos pins s σ H _ I h) fun us s1 ⟨vs,H1,I1,r1,q1⟩=>hc pins s1 σ H1 vs us Q I1 r1 q1) he hpl
theorem aJe (hc:aGh X (.type T) r)(hg:Gl X x)(hm:X.mg x=none)(hv:Jn x=some (.type T))(ha:PA X (e::es) t)(hn:x≠"__name__":=by decide)(hdb:(x==("__debug__":Str))=false:=by decide)
  (he:Zi (e::es) X.env=(false,eval e X.env)::Zi es X.env:=by rfl) (hpl:(backTo pos (Zi es X.env)).any (·.1)=false:=by rfl):PE X (.Call (.Name x p) (e::es) [] pos) (tCB r t):=by
 intro pins s σ H Q I h;refine J8 (aP9 I hg hm hv ?_ hn hdb);exact Uo (thn (ha pos pins s σ H _ I h) fun us s1 ⟨vs,H1,I1,r1,q1⟩=>hc pins s1 σ H1 vs us Q I1 r1 q1) he hpl
end
end L2
namespace HT
open PySem PyProof.Rows
section
variable {prog:Qx}{w:Zb}{A:Ze}{E:Qd->Qf->Prop}{s:Qf}
theorem bNf {t b:Addr}{vs ws:List Qd}{Q:Qd->Qf->Prop}(ht:IsTup s.heap t vs.toArray)(hb:IsTup s.heap b ws.toArray)(hv:vs≠[])
  (h1:ws=[]->Q (.ref t) s) (h2:ws≠[]->Q (.ref s.heap.objs.size) {s with heap:=s.heap.push {cls:= .type "tuple",data:= .seq (vs++ws).toArray}})
  (hsz:vs.length+ws.length<=Qy):Qp (Qt prog w) A (Jh .Add (.ref t) (.ref b)) Q E s:=by
 obtain⟨⟨cls,dd,data,sl⟩,ho,hc,n,hd⟩:=id ht;obtain⟨⟨cls2,dd2,data2,sl2⟩,ho2,hc2,n2,hd2⟩:=id hb;simp only at hc hd hc2 hd2;subst hc hd hc2 hd2;have e:vs.toArray++ws.toArray=(vs++ws).toArray:=by simp
 by_cases hw:ws=[]
 ·exact concat_meets ⟨_,ho,rfl⟩ ⟨_,ho2,rfl⟩ noFill_tuple_add seq_tuple_add Wk Wf (U7 _ _)
   (tuple_addW1 t b vs.toArray ws.toArray n n2 dd dd2 sl sl2 (by simpa using hv) (by simp[hw])) ⟨ho,ho2,h1 hw⟩
 ·refine concat_meets ⟨_,ho,rfl⟩ ⟨_,ho2,rfl⟩ noFill_tuple_add seq_tuple_add Wk Wf (U7 _ _)
   (tuple_addW2 t b vs.toArray ws.toArray n n2 dd dd2 sl sl2 (by simpa using hv) (by simpa using hw) (by rw[Qu,Qu];exact hsz)) ⟨ho,ho2,?_⟩
  rw[e];exact h2 hw
def sIx (n d:Nat):Option Int->Nat
 | none=>d
 | some v=>if v<0 then (v+(n:Int)).toNat else min v.toNat n
theorem aW1 (n d:Nat):sIx n d none=d:=rfl
theorem bBk (n d k:Nat):sIx n d (some (k:Int))=min k n:=by
 show (if (k:Int)<0 then ((k:Int)+(n:Int)).toNat else min (k:Int).toNat n)=min k n;rw[if_neg (by omega),Zc]
theorem bBl (n d:Nat)(hd:d<=n)(o:Option Int):sIx n d o<=n:=by
 cases o with
 | none=>exact hd
 | some v=>
  show (if v<0 then (v+(n:Int)).toNat else min v.toNat n)<=n;by_cases hv:v<0
  ·rw[if_pos hv];omega
  ·rw[if_neg hv];exact Nat.min_le_right _ _
theorem bEi (v:Int)(n d:Nat):(if v<0 then max (v+(n:Int)) 0 else min v (n:Int))=((sIx n d (some v):Nat):Int):=by
 show (if v<0 then max (v+(n:Int)) 0 else min v (n:Int))=(((if v<0 then (v+(n:Int)).toNat else min v.toNat n):Nat):Int);by_cases hv:v<0
 ·simp only[if_pos hv];omega
 ·simp only[if_neg hv];omega
theorem bAe (lo hi:Option Int)(n:Nat):Builtin.Slice.sliceAdjust lo hi 1 (n:Int)=(((sIx n 0 lo:Nat):Int),((sIx n n hi:Nat):Int)):=by
 have h1:¬((1:Int)<0):=by omega
 unfold Builtin.Slice.sliceAdjust;simp only[h1,if_false];refine Prod.ext ?_ ?_
 ·cases lo with
  | none=>rfl
  | some v=>exact bEi v n 0
 ·cases hi with
  | none=>rfl
  | some v=>exact bEi v n n
theorem aY4 (i j:Nat):J6 (i:Int) (j:Int) 1=j-i:=by
 unfold J6;have h1:(1:Int)>0:=by omega
 simp only[h1,if_true,Int.ediv_one];split<;>omega
theorem aPr {v:Qd}{o:Option Int}{Q:Option Int->Qf->Prop}(p:IsPart v o)(h:Q o s):Qp (Qt prog w) A (Builtin.Slice.slicePartIndex v) Q E s:=by
 cases p with
 | none=>exact slicePart_none h
 | int i t=>exact slicePart_int h
theorem aG3 {sl:Addr}{vl vu:Qd}{lo hi:Option Int}{n:Nat}{Q:Int×Int×Nat->Qf->Prop}(hs:s.heap.IsSliceOf sl vl vu .none)(pl:IsPart vl lo)(pu:IsPart vu hi)
  (h:Q (((sIx n 0 lo:Nat):Int),1,sIx n n hi-sIx n 0 lo) s):Qp (Qt prog w) A (Builtin.Slice.sliceApplied (.ref sl) (pure (n:Int))) Q E s:=by
 obtain⟨os,hos,hcs,hds⟩:=id hs;unfold Builtin.Slice.sliceApplied Builtin.Slice.sliceFields;refine Qa (Qa (Z5 hos hds (x:=vl) rfl (Qa (Z5 hos hds (x:=vu) rfl (Qa (Z5 hos hds (x:= .none) rfl (Qe ?_)))))));refine Qa (slicePart_none ?_);show Qp _ _ (if ((1:Int)==0)=true then _ else _) _ _ s;rw[if_neg (by decide)];refine Qa (aPr pl (Qa (aPr pu (Qa (Qe ?_)))));show Qp _ _ (match Builtin.Slice.sliceAdjust lo hi 1 (n:Int) with |(lo,hi)=>pure (lo,(1:Int),J6 lo hi 1)) _ _ s;rw[bAe lo hi n];show Qp _ _ (pure (((sIx n 0 lo:Nat):Int),(1:Int),J6 ((sIx n 0 lo:Nat):Int) ((sIx n n hi:Nat):Int) 1)) _ _ s;rw[aY4];exact Qe h
theorem bGl (xs:Array Qd)(i k:Nat):((Zj k).filterMap fun (m:Nat)=>xs[((i:Int)+(m:Int)*1).toNat]?).toArray=((xs.toList.drop i).take k).toArray:=by
 have e:(fun (m:Nat)=>xs[((i:Int)+(m:Int)*1).toNat]?)=fun m=>xs[i+m]? :=by
  funext m
  have:((i:Int)+(m:Int)*1).toNat=i+m:=by omega
  rw[this]
 rw[e];have:=pick_run xs i k;rw[List.filterMap_map] at this;have e2:((fun x=>xs[x]?)∘fun x=>i+x)=fun m=>xs[i+m]? :=rfl
 rw[e2] at this;rw[this]
theorem aK0 {t sl:Addr}{items:Array Qd}{vl vu:Qd}{lo hi:Option Int}{Q:Qd->Qf->Prop}(ht:IsTup s.heap t items)(hs:s.heap.IsSliceOf sl vl vu .none)(pl:IsPart vl lo)(pu:IsPart vu hi)
  (hw:¬(sIx items.size 0 lo=0/\sIx items.size items.size hi=items.size))
  (h:Q (.ref s.heap.objs.size) {s with heap:=s.heap.push {cls:= .type "tuple",data:= .seq ((items.toList.drop (sIx items.size 0 lo)).take (sIx items.size items.size hi-sIx items.size 0 lo)).toArray}})
  (hsz:items.size<=Qy):Qp (Qt prog w) A (getItem (.ref t) (.ref sl)) Q E s:=by
 have bHe:sizeOk (.seq ((items.toList.drop (sIx items.size 0 lo)).take (sIx items.size items.size hi-sIx items.size 0 lo)).toArray):=by
  show ((items.toList.drop (sIx items.size 0 lo)).take (sIx items.size items.size hi-sIx items.size 0 lo)).toArray.size<=Qy;rw[Qu,Yv,Ub,Q6];omega
 have hj:sIx items.size items.size hi<=items.size:=bBl _ _ (Qo _) hi;obtain⟨os,hos,hcs,hds⟩:=id hs;have hTs:s.TypeIs (.ref sl) "slice":=⟨os,hos,hcs⟩;unfold getItem
 try with_reducible refine Yh ?_
 first | refine Qa (Qe ?_) | skip
 refine Qa (wpAny_sequenceKey ht.typeIs (by decide) ?_);refine Qa (Zm (name:=Yz "__getitem__") ht.typeIs Jo
  (Za Jo ht.typeIs entry_tuple_getitem ?_ (args_tuple_getitem _ _)))
 show Qp _ _ (Builtin.Tuple.tupleItemsOf (.ref t)>>=_) _ _ s;refine Qa (tupleItemsOf_ ht ?_);refine Qa (wpAny_typeOf hTs ?_);rw[if_pos (by decide)];refine Qa (aG3 hs pl pu ?_);have hno:¬((((sIx items.size 0 lo:Nat):Int)==0&&(1:Int)==1&&(sIx items.size items.size hi-sIx items.size 0 lo)==items.size)=true):=by
  intro q;rw[Zg,Zg] at q;have q1:((sIx items.size 0 lo:Nat):Int)=0:=eq_of_beq q.1.1;have q2:sIx items.size items.size hi-sIx items.size 0 lo=items.size:=eq_of_beq q.2;exact hw ⟨by omega,by omega⟩
 show Qp _ _ (if (((sIx items.size 0 lo:Nat):Int)==0&&(1:Int)==1&&(sIx items.size items.size hi-sIx items.size 0 lo)==items.size)=true then _ else _) _ _ s;rw[if_neg hno,bGl]
 first
  | exact Qa (m:=Builtin.Tuple.tupleExact _) (Zx (Qe ⟨_,rfl,Qe h⟩) bHe)
  | exact Qa (m:=Builtin.Tuple.tupleExact _) (Zx (Qa (Qe (Qe ⟨_,rfl,Qe h⟩))) bHe)
  | exact Qa (Qa (m:=Builtin.Tuple.tupleExact _) (Zx (Qe (Qe ⟨_,rfl,Qe h⟩)) bHe))
  | exact Qa (Qa (m:=Builtin.Tuple.tupleExact _) (Zx (Qe ⟨_,rfl,Qe h⟩) bHe))
end
end HT
namespace L2
open PySem PySem.Spec PyProof.Rows
abbrev TO:=St->Hp->(Option Int->Hp->Prop)->Prop
def PO (X:Cx)(e:Option Expr)(t:TO):Prop:=
 ∀(pins:List (Addr×Obj)) (s:Qf) (σ:St) (H:Hp) (Q:Option Int->Hp->Prop),Inv X pins σ H s->t σ H Q->
  Qp (Qt X.prog X.w) X.A (evalPart e X.env) (fun u s'=> ∃o H',Inv X pins σ H' s'/\IsPart u o/\Q o H') X.xe s
def bKc:TO:=fun _ H Q=>Q none H
def bSl (t:TE):TO:=fun σ H Q=>t σ H fun x H1=> ∃i,x= .int i/\Q (some i) H1
section
variable {X:Cx}{e:Expr}{te:TE}{lo hi:Option Expr}{tl th:TO}{pos p2:Pos}
theorem bK1:PO X none bKc:=by
 intro pins s σ H Q I h;rw[evalPart_none];exact Qe ⟨none,H,I,.none,h⟩
theorem bK0 (h:PE X e te):PO X (some e) (bSl te):=by
 intro pins s σ H Q I hw;rw[evalPart_some];refine thn (h pins s σ H _ I hw) fun u s1 ⟨x,H1,I1,r1,q1⟩=> ?_
 obtain⟨i,rfl,q⟩:=q1;obtain⟨t,rfl⟩:=r1;exact⟨some i,H1,I1,.int i t,q⟩
def SlR (X:Cx)(r:V->Option Int->Option Int->Hp->VK->Prop):Prop:=
 ∀(pins:List (Addr×Obj)) (s:Qf) (σ:St) (H:Hp) (x:V) (v vl vu:Qd) (lo hi:Option Int) (sl:Addr) (Q:VK),Inv X pins σ H s->RelV x v->s.heap.IsSliceOf sl vl vu .none->IsPart vl lo->IsPart vu hi->r x lo hi H Q->
  ∃T id,typeLookup (.type T) "__getitem__"=pure (some (.builtin id))/\s.TypeIs v T/\Qp (Qt X.prog X.w) X.A (getItem v (.ref sl)) (EP X pins σ Q) X.xe s
theorem SlR.or {r r':V->Option Int->Option Int->Hp->VK->Prop}(h:SlR X r)(h':SlR X r'):SlR X (fun x lo hi H Q=>r x lo hi H Q\/r' x lo hi H Q):=by
 intro pins s σ H x v vl vu lo hi sl Q I rx hs pl pu q;rcases q with q | q
 ·exact h pins s σ H x v vl vu lo hi sl Q I rx hs pl pu q
 ·exact h' pins s σ H x v vl vu lo hi sl Q I rx hs pl pu q
def tSl (r:V->Option Int->Option Int->Hp->VK->Prop)(te:TE)(tl th:TO):TE:=fun σ H Q=>te σ H fun x H1=>tl σ H1 fun l H2=>th σ H2 fun u H3=>r x l u H3 Q
theorem bGm {r:V->Option Int->Option Int->Hp->VK->Prop}(hr:SlR X r)(he:PE X e te)(hl:PO X lo tl)(hu:PO X hi th):PE X (.Subscript e (.Slice lo hi none p2) pos) (tSl r te tl th):=by
 intro pins s σ H Q I h;refine Subscript_ (thn (he pins s σ H _ I h) fun v s1 ⟨x,H1,I1,r1,q1⟩=> ?_);refine wpAny_Slice (thn (hl pins s1 σ H1 _ I1 q1) fun vl s2 ⟨l,H2,I2,pl,q2⟩=>thn (hu pins s2 σ H2 _ I2 q2) fun vu s3 ⟨u,H3,I3,pu,q3⟩=> ?_);rw[evalPart_none];refine Qe ?_;have I4:Inv X pins σ H3 {s3 with heap:=s3.heap.push {cls:= .type "slice",data:= .fields #[vl,vu,.none]}}:=I3.kept (t':=s3.toks) fun b ob q=>Qb _ q
 obtain⟨T,id,hT,ht,hg⟩:=hr pins {s3 with heap:=s3.heap.push {cls:= .type "slice",data:= .fields #[vl,vu,.none]}} σ H3 x v vl vu l u s3.heap.objs.size Q I4 r1 (Heap.IsSliceOf.new ..) pl pu q3;show Qp (Qt X.prog X.w) X.A (subscriptTail e (.Slice lo hi none p2) v (.ref s3.heap.objs.size)) (EP X pins σ Q) X.xe {s3 with heap:=s3.heap.push {cls:= .type "slice",data:= .fields #[vl,vu,.none]}};exact tail_any (ops:=[.ref s3.heap.objs.size,v]) ht hT hg (by with_unfolding_all rfl)
def bJx (xs:List V)(lo hi:Option Int):List V:=(xs.drop (HT.sIx xs.length 0 lo)).take (HT.sIx xs.length xs.length hi-HT.sIx xs.length 0 lo)
theorem aOs (xs:List V)(lo hi:Option Int):(bJx xs lo hi).length<=xs.length:=by
 unfold bJx;rw[Yv,Ub];omega
def bWd (K:Qc):V->Option Int->Option Int->Hp->VK->Prop:=fun x lo hi H Q=> ∃a xs,x= .ref a/\SqT K H a xs/\
 ¬(HT.sIx xs.length 0 lo=0/\HT.sIx xs.length xs.length hi=xs.length)/\∀p,H p=none->Q (.ref p) (upd H p (.tup (bJx xs lo hi)))
theorem bOj:SlR X (bWd X.K):=by
 intro pins s σ H x v vl vu lo hi sl Q I rx hs pl pu h;obtain⟨a,xs,rfl,hx,hw,q⟩:=h;cases rx;obtain⟨its,r,ht,hz⟩:=I.tuple hx;have hlen:its.toArray.size=xs.length:=by rw[Qu];exact r.length.symm
 refine⟨"tuple",_,PyProof.Rows.slot_tuple_getitem.lookup,ht.typeIs,?_⟩;refine HT.aK0 ht hs pl pu (by rw[hlen];exact hw) ?_ (by rw[hlen];exact hz);rw[hlen];refine⟨.ref s.heap.objs.size,_,I.laid (t':=s.toks) (o:= .tup (bJx xs lo hi)) (fun b ob q=>Qb _ q) (Qo _) ?_,rfl,q _ (I.hok.fresh (Qo _))⟩;exact⟨Zs (aOs xs lo hi) hz,_,(r.drop (HT.sIx xs.length 0 lo)).take (HT.sIx xs.length xs.length hi-HT.sIx xs.length 0 lo),bFh.new _ _⟩
def bOu (K:Qc):R2:=fun x y H Q=> ∃a b xs ys,x= .ref a/\y= .ref b/\SqT K H a xs/\SqT K H b ys/\xs≠[]/\xs.length+ys.length<=Qy/\
 (ys=[]->Q (.ref a) H)/\(ys≠[]->∀p,H p=none->Q (.ref p) (upd H p (.tup (xs++ys))))
theorem Vals.aNs {xs:List V}{us:List Qd}(r:Vals xs us):us=[]↔xs=[]:=by
 cases r with
 | nil=>simp
 | cons _ _=>simp
theorem bLs:OpR X (Jh .Add) (bOu X.K):=by
 intro pins s σ H x y v u Q I rx ry h;obtain⟨a,b,xs,ys,rfl,rfl,ha,hb,hx,hz,q1,q2⟩:=h;cases rx;cases ry;obtain⟨its,r1,p1,_⟩:=I.tuple ha;obtain⟨its2,r2,p2,_⟩:=I.tuple hb;refine HT.bNf p1 p2 (fun z=>hx (r1.aNs.mp z)) (fun z=>⟨.ref a,H,I,rfl,q1 (r2.aNs.mp z)⟩) (fun z=> ?_) (by rw[<-r1.length,<-r2.length];exact hz);refine⟨.ref s.heap.objs.size,_,I.laid (t':=s.toks) (o:= .tup (xs++ys)) (fun b ob q=>Qb _ q) (Qo _) ?_,rfl,q2 (fun w=>z (r2.aNs.mpr w)) _ (I.hok.fresh (Qo _))⟩;exact⟨by rw[Qq];exact hz,_,r1.append r2,bFh.new _ _⟩
end
def ixN (n:Nat)(i:Int):Option Nat:=if 0<=i then (if i<n then some i.toNat else none) else if-(n:Int)<=i then some (i+n).toNat else none
def atI {α:Type}(xs:List α)(i:Int):Option α:=(ixN xs.length i).bind fun j=>xs[j]?
theorem bMm {n:Nat}{i:Int}{j:Nat}(h:ixN n i=some j):seqIndex? i n=some j/\j<n/\ -(n:Int)<=i/\i<n:=by
 unfold ixN at h;by_cases h0:0<=i
 ·rw[if_pos h0] at h
  by_cases h1:i<n
  ·rw[if_pos h1] at h
   have e:i.toNat=j:=Option.some.inj h;exact⟨by rw[seqIndex_of h0 h1,e],by omega,by omega,h1⟩
  ·rw[if_neg h1] at h;cases h
 ·rw[if_neg h0] at h
  by_cases h1: -(n:Int)<=i
  ·rw[if_pos h1] at h
   have e:(i+n).toNat=j:=Option.some.inj h;exact⟨by rw[seqIndex_neg (by omega) h1,e],by omega,h1,by omega⟩
  ·rw[if_neg h1] at h;cases h
theorem aWe {α:Type}{xs:List α}{i:Int}{v:α}(h:atI xs i=some v): ∃j,seqIndex? i xs.length=some j/\xs[j]? =some v/\j<xs.length/\ -(xs.length:Int)<=i/\i<xs.length:=by
 unfold atI at h;cases e:ixN xs.length i with
 | none=>rw[e] at h;cases h
 | some j=>
  rw[e] at h;obtain⟨h1,h2,h3,h4⟩:=bMm e;exact⟨j,h1,h,h2,h3,h4⟩
theorem aR7 {α:Type}{xs:List α}{j:Nat}{v:α}(h:xs[j]? =some v):atI xs (j:Int)=some v:=by
 have hj:j<xs.length:=(List.getElem?_eq_some_iff.mp h).1;have e:ixN xs.length (j:Int)=some j:=by
  unfold ixN;rw[if_pos (by omega),if_pos (by omega)];simp
 unfold atI;rw[e];exact h
def bE3 (b:Expr):Prop:= ∀o i,subscripted b false o i=operate [o,i] (getItem o i)
def IxR (X:Cx)(r:R2):Prop:=
 ∀(value slice:Expr) (pins:List (Addr×Obj)) (s:Qf) (σ:St) (H:Hp) (x y:V) (v u:Qd) (Q:VK),Inv X pins σ H s->RelV x v->RelV y u->r x y H Q->
  subscripted slice false v u=operate [v,u] (getItem v u)->Qp (Qt X.prog X.w) X.A (subscriptTail value slice v u) (EP X pins σ Q) X.xe s
def MtR (X:Cx)(id:String)(r:V->List V->Hp->VK->Prop):Prop:=
 ∀(pins:List (Addr×Obj)) (s:Qf) (σ:St) (H:Hp) (x:V) (xs:List V) (v:Qd) (us:List Qd) (Q:VK),Inv X pins σ H s->RelV x v->Vals xs us->r x xs H Q->
  Qp (Qt X.prog X.w) X.A (call (.builtin id) (v::us)) (EP X pins σ Q) X.xe s
section
variable {X:Cx}{a b:Expr}{ta tb:TE}{pos:Pos}
theorem IxR.or {r r':R2}(h:IxR X r)(h':IxR X r'):IxR X (fun x y H Q=>r x y H Q\/r' x y H Q):=by
 intro value slice pins s σ H x y v u Q I rx ry q hs;rcases q with q | q
 ·exact h value slice pins s σ H x y v u Q I rx ry q hs
 ·exact h' value slice pins s σ H x y v u Q I rx ry q hs
theorem bS7 {r:R2}(hr:IxR X r)(ha:PE X a ta)(hb:PE X b tb)(hs:bE3 b):PE X (.Subscript a b pos) (tOp r ta tb):=by
 intro pins s σ H Q I h;exact Subscript_ (bUo ha hb I h fun v u s2 x y H2 I2 rx ry q=>hr a b pins s2 σ H2 x y v u Q I2 rx ry q (hs _ _))
def bU4 (K:Qc):R2:=fun x y H Q=> ∃p xs i v,x= .ref p/\y= .int i/\SqL K H p xs/\atI xs i=some v/\Q v H
def bU2 (K:Qc):R2:=fun x y H Q=> ∃p xs i v,x= .ref p/\y= .int i/\SqT K H p xs/\atI xs i=some v/\Q v H
def bU3:R2:=fun x y H Q=> ∃z i c,x= .str z/\y= .int i/\z.length<=Qy/\atI z.cps.toList i=some c/\Q (.str ⟨#[c]⟩) H
theorem bMl:IxR X (bU4 X.K):=by
 intro value slice pins s σ H x y v u Q I rx ry h hs;obtain⟨p,xs,i,z,rfl,rfl,hq,he,q⟩:=h;cases rx;obtain⟨t,rfl⟩:=ry;obtain⟨its,r,pl,hz⟩:=I.list hq;obtain⟨j,h1,h2,h3,h4,h5⟩:=aWe he;obtain⟨w,ew,rw'⟩:=r.get h2;have hl:=r.length;have hn:=aTm;have fin:EP X pins σ Q w s:=⟨z,H,I,rw',q⟩;by_cases h0:0<=i
 ·have hj:i.toNat=j:=by
   rw[seqIndex_of h0 h5] at h1;exact Option.some.inj h1
  exact item_listR pl.isList h0 (by omega) (by rw[hj];simpa using ew) fin hs
 ·have hj:(i+(its.toArray.size:Int)).toNat=j:=by
   rw[seqIndex_neg (by omega) h4] at h1;rw[Qu,<-hl];exact Option.some.inj h1
  exact subscriptTail_builtinR (x:=w) pl.isList.typeIs slot_list_getitem.lookup
   (wpAny_getItem_list_neg (Q:=fun r s'=>r=w/\EP X pins σ Q r s') pl.isList (by omega) (by rw[Qu]<;>omega) (by omega) (by rw[hj];simpa using ew) ⟨rfl,fin⟩) hs
theorem aXv:IxR X (bU2 X.K):=by
 intro value slice pins s σ H x y v u Q I rx ry h hs;obtain⟨p,xs,i,z,rfl,rfl,hq,he,q⟩:=h;cases rx;obtain⟨t,rfl⟩:=ry;obtain⟨its,r,pl,hz⟩:=I.tuple hq;obtain⟨j,h1,h2,h3,h4,h5⟩:=aWe he;obtain⟨w,ew,rw'⟩:=r.get h2;have hl:=r.length;have hn:=aTm;have fin:EP X pins σ Q w s:=⟨z,H,I,rw',q⟩;exact subscriptTail_builtinR (x:=w) pl.typeIs slot_tuple_getitem.lookup
  (getItem_tuple (j:=j) (Q:=fun r s'=>r=w/\EP X pins σ Q r s') pl (by omega) (by omega) (by rw[Qu,<-hl];exact h1) (by simpa using ew) ⟨rfl,fin⟩) hs
theorem bQk:IxR X bU3:=by
 intro value slice pins s σ H x y v u Q I rx ry h hs;obtain⟨z,i,c,rfl,rfl,hz,he,q⟩:=h;obtain⟨t,rfl⟩:=rx;obtain⟨t',rfl⟩:=ry;obtain⟨j,h1,h2,h3,h4,h5⟩:=aWe he;have hl:z.cps.toList.length=z.length:=by simp[Str.length]
 rw[hl] at h1 h4 h5;have hn:=aTm;exact tail_any (typeIs_str s z t) slot_str_getitem.lookup (getItem_str (c:=c) (by
  have e1:decide (i< -(2^63:Int))=false:=decide_eq_false (by omega);have e2:decide (i≥2^63)=false:=decide_eq_false (by omega);rw[e1,e2,Bool.or_false]) (by rw[h1];simpa using h2) ⟨.str ⟨#[c]⟩,H,I.tok _,⟨_,rfl⟩,q⟩) hs
def rIx (K:Qc):R2:=fun x y H Q=>bU4 K x y H Q\/bU2 K x y H Q\/bU3 x y H Q
theorem bQl:IxR X (rIx X.K):=bMl.or (aXv.or bQk)
theorem aSs (lo hi:Option Int)(n:Nat):(sliceBounds lo hi none n).1=((HT.sIx n 0 lo:Nat):Int)/\(sliceBounds lo hi none n).2.1=((HT.sIx n n hi:Nat):Int)/\(sliceBounds lo hi none n).2.2=1:=by
 refine⟨?_,?_,rfl⟩
 ·cases lo with
  | none=>simp[sliceBounds,HT.sIx]
  | some i=>
   simp only[sliceBounds,HT.sIx,Wj,show (1:Int)>0 by decide,if_true];by_cases h:i<0
   ·simp only[h,if_true]<;>omega
   ·simp only[h,if_false]<;>omega
 ·cases hi with
  | none=>simp[sliceBounds,HT.sIx]
  | some i=>
   simp only[sliceBounds,HT.sIx,Wj,show (1:Int)>0 by decide,if_true];by_cases h:i<0
   ·simp only[h,if_true]<;>omega
   ·simp only[h,if_false]<;>omega
theorem aQz (its:List Qd)(lo hi:Option Int):slicePick its.toArray lo hi none=((its.drop (HT.sIx its.length 0 lo)).take (HT.sIx its.length its.length hi-HT.sIx its.length 0 lo)).toArray:=by
 obtain⟨h1,h2,h3⟩:=aSs lo hi its.toArray.size;unfold slicePick;rw[h1,h2,h3];simp only[sliceRange_one,pick_run,Qu]<;>rfl
def bWf (K:Qc):V->Option Int->Option Int->Hp->VK->Prop:=fun x lo hi H Q=> ∃a xs,x= .ref a/\SqL K H a xs/\∀p,H p=none->Q (.ref p) (upd H p (.lst (bJx xs lo hi)))
theorem bKl:SlR X (bWf X.K):=by
 intro pins s σ H x v vl vu lo hi sl Q I rx hs pl pu h;obtain⟨a,xs,rfl,hx,q⟩:=h;cases rx;obtain⟨its,r,ht,hz⟩:=I.list hx;have hlen:=r.length;refine⟨"list",_,slot_list_getitem.lookup,ht.isList.typeIs,?_⟩;refine wpAny_getItem_list_slice ht.isList hs pl pu .none (by simp) ?_ (by rw[Qu]<;>omega);rw[aQz,<-hlen];refine⟨.ref s.heap.objs.size,_,I.laid (t':=s.toks) (o:= .lst (bJx xs lo hi)) (fun b ob q=>Qb _ q) (Qo _) ?_,rfl,q _ (I.hok.fresh (Qo _))⟩;exact⟨Zs (aOs xs lo hi) hz,_,0,(r.drop (HT.sIx xs.length 0 lo)).take (HT.sIx xs.length xs.length hi-HT.sIx xs.length 0 lo),Ql _ rfl⟩
theorem aLx:aGh X (.builtin "len") (fun xs H Q=> ∃p ys,xs=[.ref p]/\(SqL X.K H p ys\/SqT X.K H p ys)/\Q (.int ys.length) H):=by
 intro pins s σ H xs us Q I r h;obtain⟨p,ys,rfl,hq,q⟩:=h;obtain⟨u,rfl,rx⟩:=vals1 r;cases rx;have hn:=aTm;rcases hq with hq | hq
 ·obtain⟨its,r',pl,hz⟩:=I.list hq
  have hlen:=r'.length;exact Calls.call_len_list pl.isList (by simp only[Qu]<;>omega) ⟨.int ys.length,H,I.tok _,⟨s.toks+1,by rw[Qu,hlen]⟩,q⟩
 ·obtain⟨its,r',pl,hz⟩:=I.tuple hq
  have hlen:=r'.length;exact len_tuple pl (by simp only[Qu]<;>omega) ⟨.int ys.length,H,I.tok _,⟨s.toks+1,by rw[Qu,hlen]⟩,q⟩
theorem aGh.or {f:Qd}{r r':List V->Hp->VK->Prop}(h:aGh X f r)(h':aGh X f r'):aGh X f (fun xs H Q=>r xs H Q\/r' xs H Q):=by
 intro pins s σ H xs us Q I rs q;rcases q with q | q
 ·exact h pins s σ H xs us Q I rs q
 ·exact h' pins s σ H xs us Q I rs q
theorem aT7:aGh X (.type "list") (fun xs H Q=> ∃p ys,xs=[.ref p]/\(SqL X.K H p ys\/SqT X.K H p ys)/\∀l,H l=none->Q (.ref l) (upd H l (.lst ys))):=by
 intro pins s σ H xs us Q I r h;obtain⟨p,ys,rfl,hq,q⟩:=h;obtain⟨u,rfl,rx⟩:=vals1 r;cases rx;have fin: ∀(its:List Qd),Vals ys its->ys.length<=Qy->∀(h':Heap) (c':Nat),(∀b o',s.heap.get? b=some o'->h'.get? b=some o')->
   h'.get? s.heap.objs.size=some {cls:= .type "list",dict:=none,data:= .seq its.toArray c',slots:= #[]}->EP X pins σ Q (.ref s.heap.objs.size) {s with heap:=h'}:=fun its r' hz h' c' kp e=>
  ⟨.ref s.heap.objs.size,_,I.laid (t':=s.toks) kp (Qo _) (show aBn X.prog X.w _ h' _ (.lst ys) from⟨hz,its,c',r',e⟩),rfl,q _ (I.hok.fresh (Qo _))⟩
 rcases hq with hq | hq
 ·obtain⟨its,r',pl,hz⟩:=I.list hq
  have hlen:=r'.length;obtain⟨o,ho,hc,n,hd⟩:=pl.isList;exact call_list_seq p (.inl rfl) ho hc hd (fun h' c' kp e=>fin its r' hz h' c' kp e) (by simp only[Qu]<;>omega)
 ·obtain⟨its,r',pl,hz⟩:=I.tuple hq
  have hlen:=r'.length;obtain⟨o,ho,hc,n,hd⟩:=pl;exact call_list_seq p (.inr rfl) ho hc hd (fun h' c' kp e=>fin its r' hz h' c' kp e) (by simp only[Qu]<;>omega)
theorem aR4:aGh X (.type "tuple") (fun xs H Q=> ∃p ys,xs=[.ref p]/\((SqL X.K H p ys/\∀l,H l=none->Q (.ref l) (upd H l (.tup ys)))\/(SqT X.K H p ys/\Q (.ref p) H))):=by
 intro pins s σ H xs us Q I r h;obtain⟨p,ys,rfl,h⟩:=h;obtain⟨u,rfl,rx⟩:=vals1 r;cases rx;rcases h with⟨hq,q⟩ |⟨hq,q⟩
 ·obtain⟨its,r',pl,hz⟩:=I.list hq
  have hlen:=r'.length;refine call_tuple_list pl.isList (fun h' kp=> ?_) (by simp only[Qu]<;>omega);have I1:Inv X pins σ H {s with heap:=h'}:=I.kept (t':=s.toks) kp;have I2:Inv X pins σ (upd H h'.objs.size (.tup ys)) {s with heap:=h'.push {cls:= .type "tuple",data:= .seq its.toArray}}:=
   I1.laid (t':=s.toks) (fun b o e=>Qb _ e) (Qo _) (show aBn X.prog X.w _ _ _ (.tup ys) from⟨hz,its,r',bFh.new _ _⟩)
  exact⟨.ref h'.objs.size,_,I2,rfl,q _ (I1.hok.fresh (Qo _))⟩
 ·obtain⟨its,r',pl,hz⟩:=I.tuple hq
  exact call_tuple_same pl ⟨.ref p,H,I,rfl,q⟩
def tyV (K:Qc)(T:String)(x:V)(H:Hp):Prop:=match x with
 | .str _=>T="str"
 | .int _=>T="int"
 | .ref p=>(T="list"/\∃xs,SqL K H p xs)\/(T="tuple"/\∃o,K.lookup p=some o/\o.cls= .type "tuple"/\o.dict=none)\/
   (T="dict"/\((∃kvs,H p=some (.dK kvs))\/∃kvs,H p=some (.dT kvs)))\/(T="set"/\∃S n,H p=some (.set S n))
 | _=>False
theorem bIk {pins:List (Addr×Obj)}{σ:St}{H:Hp}{s:Qf}{T:String}{x:V}{v:Qd}(I:Inv X pins σ H s)(r:RelV x v)(ty:tyV X.K T x H):
  s.TypeIs v T/\∀a,v= .ref a->∃ob,s.heap.get? a=some ob/\ob.dict=none:=by
 cases x with
 | str z=>
  obtain⟨t,rfl⟩:=r;cases (show T="str" from ty);exact⟨typeIs_str s z t,fun _ e=>nomatch e⟩
 | int i=>
  obtain⟨t,rfl⟩:=r;cases (show T="int" from ty);exact⟨typeIs_int s i t,fun _ e=>nomatch e⟩
 | ref p=>
  cases r;rcases ty with⟨rfl,xs,hq⟩ |⟨rfl,o,hk,hc,hd⟩ |⟨rfl,hk⟩ |⟨rfl,S,n,hk⟩
  ·obtain⟨its,_,pl,_⟩:=I.list hq
   refine⟨pl.isList.typeIs,fun a e=> ?_⟩;cases e;obtain⟨o,n,e,c,hd,_⟩:=pl;exact⟨o,e,hd⟩
  ·refine⟨⟨o,I.kIn p o hk,hc⟩,fun a e=> ?_⟩
   cases e;exact⟨o,I.kIn _ o hk,hd⟩
  ·have z: ∃o,s.heap.get? p=some o/\o.ExactDict:=by
    rcases hk with⟨kvs,hk⟩ |⟨kvs,hk⟩
    ·obtain⟨_,_,_,_,o,_,_,e,ex,_⟩:=I.hok p _ hk
     exact⟨o,e,ex⟩
    ·obtain⟨_,_,_,_,o,_,_,e,ex,_⟩:=I.hok p _ hk
     exact⟨o,e,ex⟩
   obtain⟨o,e,ex⟩:=z;refine⟨⟨o,e,ex.1⟩,fun a e2=> ?_⟩;cases e2;exact⟨o,e,ex.2.1⟩
  ·obtain⟨⟨o,_,_,_,e,ex,_⟩,_⟩:=I.hok p _ hk
   refine⟨⟨o,e,ex.1⟩,fun a e2=> ?_⟩;cases e2;exact⟨o,e,ex.2.1⟩
 | _=>exact Qg ty
def bVz (K:Qc)(T:String)(r:V->List V->Hp->VK->Prop)(to:TE):TE:=fun σ H Q=>to σ H fun x H1=>tyV K T x H1/\r x [] H1 Q
def tBM (K:Qc)(T:String)(r:V->List V->Hp->VK->Prop)(to:TE)(t:TA):TE:=fun σ H Q=>to σ H fun x H1=>tyV K T x H1/\t σ H1 fun xs H2=>r x xs H2 Q
variable {o e:Expr}{es:List Expr}{to:TE}{t:TA}{name:Str}{apos cpos:Pos}{T id:String}{r:V->List V->Hp->VK->Prop}
theorem bPd (pa:PlainAttrs T)(slot:Slot T name id)(hty:typeOf (.builtin id)=pure (.type "method_descriptor"))(hm:MtR X id r)(ho:PE X o to)
  (hbase:Jy o name X.env (eval o X.env)=eval o X.env:=by rfl) (hline:(apos.endLine==cpos.line)=true:=by rfl):PE X (.Call (.Attribute o name apos) [] [] cpos) (bVz X.K T r to):=by
 intro pins s σ H Q I h;refine wpAny_Call_method0_late hbase hline (thn (ho pins s σ H _ I h) fun v s1 ⟨x,H1,I1,r1,ty,q1⟩=> ?_);obtain⟨h1,h2⟩:=bIk I1 r1 ty;exact⟨T,id,pa,slot,hty,h1,h2,J1 rfl (El (hm pins s1 σ H1 x [] v [] Q I1 r1 .nil q1))⟩
theorem bK7 (pa:PlainAttrs T)(slot:Slot T name id)(hty:typeOf (.builtin id)=pure (.type "method_descriptor"))(hm:MtR X id r)(ho:PE X o to)(ha:PA X (e::es) t)
  (hbase:Jy o name X.env (eval o X.env)=eval o X.env:=by rfl)
  (hfew:((backTo cpos (Zi (e::es) X.env)).all (fun x=> !x.1)&&(backToKw cpos (keywordEach [] X.env)).all (fun x=>x.1.isSome)
   &&decide ((e::es).length+([]:List Keyword).length+(if ([]:List Keyword).isEmpty then 0 else 1)<30))=true:=by rfl)
  (hline:(apos.endLine==cpos.line)=true:=by rfl) (hs:Zi (e::es) X.env=(false,eval e X.env)::Zi es X.env:=by rfl) (hplain:(backTo cpos (Zi es X.env)).any (·.1)=false:=by rfl):
  PE X (.Call (.Attribute o name apos) (e::es) [] cpos) (tBM X.K T r to t):=by
 intro pins s σ H Q I h;refine wpAny_Call_method_late hbase hfew hline rfl (thn (ho pins s σ H _ I h) fun v s1 ⟨x,H1,I1,r1,ty,q1⟩=> ?_);obtain⟨h1,h2⟩:=bIk I1 r1 ty;refine⟨T,id,pa,slot,hty,h1,h2,?_⟩;have hA:=ha cpos pins s1 σ H1 _ I1 q1;rw[hs] at hA⊢;refine J1 (by show (false ||(backTo cpos (Zi es X.env)).any (·.1))=false;rw[hplain]<;>rfl) (Calls.evalArgs_plain ?_);exact thn hA fun us s2 ⟨vs,H2,I2,r2,q2⟩=>hm pins s2 σ H2 x vs v us Q I2 r1 r2 q2
end
def MtM (X:Cx)(id:String)(r:V->List V->Hp->VK->Prop):Prop:=
 ∀(pins:List (Addr×Obj)) (s:Qf) (σ:St) (H:Hp) (x:V) (xs:List V) (v:Qd) (us:List Qd) (Q:VK),Inv X pins σ H s->RelV x v->Vals xs us->r x xs H Q->
  Qp (Qt X.prog X.w) X.A (call (.builtin id) (v::us)) (EP X pins σ Q) X.xe s
theorem Vals.one {x:V}{us:List Qd}(h:Vals [x] us): ∃u,us=[u]/\RelV x u:=by
 cases h with | cons r t=>cases t;exact⟨_,rfl,r⟩
section
variable {X:Cx}{pins:List (Addr×Obj)}{σ:St}{H:Hp}{s:Qf}{l b:Addr}{xs ys zs:List V}
theorem Inv.bTp {its its':List Qd}{n:Nat}{f:Array Qd->Array Qd}{t':Nat}(I:Inv X pins σ H s)(hH:H l=some (.lst xs))
  (e:s.heap.get? l=some {cls:= .type "list",data:= .seq its.toArray n}) (hf:f its.toArray=its'.toArray) (hv:Vals ys its') (hz:ys.length<=Qy):
  Inv X pins σ (upd H l (.lst ys)) {s with heap:=s.heap.update l (Zz f),toks:=t'}:=by
 have q:=PySem.IsL.update e f;rw[hf] at q;refine I.write (x:=l) (e:=l) (by rw[hH];exact trivial) (.inl rfl) (fun b' u hb hu=>(Q8 s.heap (Zz f) (Ne.symm hb)).trans hu) ⟨_,q⟩ ?_;exact⟨hz,its',_,hv,q⟩
theorem Inv.bVb {its:List Qd}{t':Nat}(I:Inv X pins σ H s)(hv:Vals ys its)(hz:ys.length<=Qy):
  Inv X pins σ (upd H s.heap.objs.size (.lst ys)) {s with heap:=s.heap.push {cls:= .type "list",data:= .seq its.toArray},toks:=t'}:=
 I.laid (fun _ _ q=>Qb _ q) (Qo _) ⟨hz,its,0,hv,Ql _ rfl⟩
theorem Inv.fresh (I:Inv X pins σ H s):H s.heap.objs.size=none:=I.hok.fresh (Qo _)
theorem Inv.bVa (I:Inv X pins σ H s)(hH:H l=some (.lst xs)):xs.length<=Qy/\∃(its:List Qd) (n:Nat),Vals xs its/\xs.length=its.length/\s.heap.get? l=some {cls:= .type "list",data:= .seq its.toArray n}:=by
 obtain⟨z,its,n,r,e⟩:=I.hok l _ hH;exact⟨z,its,n,r,r.length,e⟩
theorem aXj {n:Nat}(h:n<=Qy):Builtin.List.listTooLong n=false:=by
 unfold Builtin.List.listTooLong;exact decide_eq_false (by omega)
end
section
variable {X:Cx}
def bBw:V->List V->Hp->VK->Prop:=fun x vs H Q=> ∃l xs y,x= .ref l/\vs=[y]/\H l=some (.lst xs)/\xs.length<Qy/\Q .non (upd H l (.lst (xs++ [y])))
theorem aN3:MtM X "list.append" bBw:=by
 intro pins s σ H x vs v us Q I rx rv h;obtain⟨l,xs,y,rfl,rfl,hH,hz,q⟩:=h;cases rx;obtain⟨u,rfl,ru⟩:=rv.one;obtain⟨z,its,n,r,hl,e⟩:=I.bVa hH;refine call_meets F.slot_list_append ⟨_,e,rfl⟩ F.entry_list_append (F.args_list_append_2 _ _) (PySem.list_append l its.toArray n u (by rw[Qu];omega)) ⟨e,?_⟩;refine⟨.non,_,I.bTp (its':=its++ [u]) hH e (by simp) (r.append (.cons ru .nil)) ?_,rfl,q⟩;rw[Qq,Up];omega
end
section
variable {κ:Type}[DecidableEq κ]
def aGj (kvs:List (κ×V))(k:κ):Option V:=(kvs.find? fun kv=>decide (kv.1=k)).map (·.2)
def putK (kvs:List (κ×V))(k:κ)(v:V):List (κ×V):=
 if (kvs.any fun kv=>decide (kv.1=k))=true then kvs.map (fun kv=>if kv.1=k then (kv.1,v) else kv) else kvs++ [(k,v)]
theorem aQq {p:κ×V}{r:List (κ×V)}{k:κ}(e:p.1=k):aGj (p::r) k=some p.2:=by simp[aGj,Zu,e]
theorem aQr {p:κ×V}{r:List (κ×V)}{k:κ}(e:¬p.1=k):aGj (p::r) k=aGj r k:=by simp[aGj,Zu,e]
theorem aWm (k:κ): ∀kvs:List (κ×V),(kvs.any fun kv=>decide (kv.1=k))=(aGj kvs k).isSome
 | []=>rfl
 | p::r=>by
  rw[Jm];by_cases e:p.1=k
  ·simp only[aQq e,decide_eq_true e,Bool.true_or,Eo]
  ·rw[aQr e,decide_eq_false e,Bool.false_or];exact aWm k r
theorem aGv (kvs:List (κ×V))(k:κ)(v:V):(putK kvs k v).length<=kvs.length+1:=by
 unfold putK;split
 ·rw[Qh];omega
 ·rw[Qq,Qk,Uw];omega
theorem aPn.aOi {o:Option V}{u:Option Qd}(r:aPn o u):o.isSome=u.isSome:=by
 cases o with
 | none=>cases u with
  | none=>rfl
  | some _=>exact (show False from r).elim
 | some _=>cases u with
  | none=>exact (show False from r).elim
  | some _=>rfl
theorem aPn.getD {o:Option V}{u:Option Qd}{d:V}{d':Qd}(r:aPn o u)(rd:RelV d d'):RelV (o.getD d) (u.getD d'):=by
 cases o with
 | none=>cases u with
  | none=>exact rd
  | some _=>exact (show False from r).elim
 | some _=>cases u with
  | none=>exact (show False from r).elim
  | some _=>exact r
theorem KV.val {kvs:List (κ×V)}{vs:List (κ×Qd)}(r:KV kvs vs)(k:κ):aPn (aGj kvs k) (valueAt vs k):=by
 unfold KV at r
 induction r with
 | nil=>exact True.intro
 | @cons p q ps qs h t ih=>
  obtain⟨h1,h2⟩:=h;by_cases e:p.1=k
  ·have e':q.1=k:=h1.symm.trans e
   have b:valueAt (q::qs) k=some q.2:=by simp[valueAt,Zu,e']
   rw[aQq e,b];exact h2
  ·have e':¬q.1=k:=fun z=>e (h1.trans z)
   have b:valueAt (q::qs) k=valueAt qs k:=by simp[valueAt,Zu,e']
   rw[aQr e,b];exact ih
theorem KV.any {kvs:List (κ×V)}{vs:List (κ×Qd)}(r:KV kvs vs)(k:κ):(kvs.any fun kv=>decide (kv.1=k))=vs.any fun kv=>decide (kv.1=k):=by
 unfold KV at r
 induction r with
 | nil=>rfl
 | cons h t ih=>rw[Jm,Jm,ih,h.1]
theorem KV.repl {kvs:List (κ×V)}{vs:List (κ×Qd)}(r:KV kvs vs)(k:κ){y:V}{u:Qd}(ry:RelV y u):
  KV (kvs.map fun kv=>if kv.1=k then (kv.1,y) else kv) (vs.map fun kv=>if kv.1=k then (kv.1,u) else kv):=by
 unfold KV at r⊢
 induction r with
 | nil=>exact .nil
 | @cons p q ps qs h t ih=>
  rw[Qv,Qv];refine .cons ?_ ih;obtain⟨h1,h2⟩:=h;by_cases e:p.1=k
  ·rw[if_pos e,if_pos (h1.symm.trans e)];exact⟨h1,ry⟩
  ·rw[if_neg e,if_neg (fun z=>e (h1.trans z))];exact⟨h1,h2⟩
theorem KV.put {kvs:List (κ×V)}{vs:List (κ×Qd)}(r:KV kvs vs)(k:κ){y:V}{u:Qd}(ry:RelV y u):KV (putK kvs k y) (stored vs k u):=by
 unfold putK stored;rw[r.any k];by_cases e:(vs.any fun kv=>decide (kv.1=k))=true
 ·rw[if_pos e,if_pos e];exact r.repl k ry
 ·rw[if_neg e,if_neg e];exact Paired.snoc r ⟨rfl,ry⟩
theorem KV.length {kvs:List (κ×V)}{vs:List (κ×Qd)}(r:KV kvs vs):kvs.length=vs.length:=Paired.length r
end
theorem aVs {P:Qx}{w:Zb}{k:Key}{u:Qd}(r:RelV (kV k) u):(aBb P w).is k u=true:=by
 cases k with
 | inl i=>obtain⟨t,e⟩:=(show∃t,u=Value.int i t from r);subst e;exact aVn P w i t
 | inr x=>obtain⟨t,e⟩:=(show∃t,u=Jk x t from r);subst e;exact aVm P w x t
theorem aTq {P:Qx}{w:Zb}: ∀{ks:List Key} {us:List Qd},Vals (ks.map kV) us->ItemsAre (aBb P w) ks us
 | [],_,r=>by rw[Ee] at r;cases r;exact .nil
 | k::ks,_,r=>by
  rw[Qv] at r;cases r with
  | cons h t=>exact .cons (aVs h) (aTq t)
abbrev KT (H:Hp):List (List Key×V)->List (List Key×Addr×Qd)->Prop:=Paired fun p q=>p.1=q.1/\H q.2.1=some (.tup (p.1.map kV))/\RelV p.2 q.2.2
theorem KT.val {H:Hp}{kvs:List (List Key×V)}{xs:List (List Key×Addr×Qd)}(r:KT H kvs xs)(k:List Key):aPn (aGj kvs k) ((atKey xs k).map (·.2)):=by
 induction r with
 | nil=>exact True.intro
 | @cons p q ps qs h t ih=>
  obtain⟨h1,_,h2⟩:=h;by_cases e:p.1=k
  ·have e':q.1=k:=h1.symm.trans e
   have b:atKey (q::qs) k=some q.2:=by simp[atKey,Zu,e']
   rw[aQq e,b];exact h2
  ·have e':¬q.1=k:=fun z=>e (h1.trans z)
   have b:atKey (q::qs) k=atKey qs k:=by simp[atKey,Zu,e']
   rw[aQr e,b];exact ih
theorem KT.repl {H:Hp}{kvs:List (List Key×V)}{xs:List (List Key×Addr×Qd)}(r:KT H kvs xs)(k:List Key){y:V}{u:Qd}(ry:RelV y u):
  KT H (kvs.map fun kv=>if kv.1=k then (kv.1,y) else kv) (xs.map (putAt k u)):=by
 induction r with
 | nil=>exact .nil
 | @cons p q ps qs h t ih=>
  rw[Qv,Qv];refine .cons ?_ ih;obtain⟨h1,h2,h3⟩:=h;unfold putAt;by_cases e:p.1=k
  ·rw[if_pos e,if_pos (h1.symm.trans e)];exact⟨h1,h2,ry⟩
  ·rw[if_neg e,if_neg (fun z=>e (h1.trans z))];exact⟨h1,h2,h3⟩
theorem KT.put {H:Hp}{kvs:List (List Key×V)}{xs:List (List Key×Addr×Qd)}(r:KT H kvs xs)(k:List Key){b:Addr}{y:V}{u:Qd}(hb:H b=some (.tup (k.map kV)))(ry:RelV y u):
  KT H (putK kvs k y) (storedH xs k b u):=by
 have e:(kvs.any fun kv=>decide (kv.1=k))=(atKey xs k).isSome:=by
  rw[aWm,(r.val k).aOi,W4]
 unfold putK storedH;rw[e];by_cases q:(atKey xs k).isSome=true
 ·rw[if_pos q,if_pos q];exact r.repl k ry
 ·rw[if_neg q,if_neg q];exact Paired.snoc r ⟨rfl,hb,ry⟩
theorem KT.keeps {H H':Hp}{kvs:List (List Key×V)}{xs:List (List Key×Addr×Qd)}(r:KT H kvs xs)(ht: ∀b ys,H b=some (.tup ys)->H' b=some (.tup ys)):KT H' kvs xs:=
 Paired.bP6 r fun _ _ z=>⟨z.1,ht _ _ z.2.1,z.2.2⟩
section
variable {P:Qx}{w:Zb}{H:Hp}{h:Heap}{a:Addr}
theorem bOp {u:HO}(ok:HOk P w H h)(e:Rd H a u):aBn P w H h a u:=e.ok ok
theorem aTy {kvs:List (Key×V)}(ok:HOk P w H h)(e:Rd H a (.dK kvs)):kvs.length<=Qy/\(a==Jj)=false/\∃vs,KV kvs vs/\h.DictOf (aBb P w) a vs:=
 show aBn P w H h a (.dK kvs) from bOp ok e
theorem bHw {kvs:List (Key×V)}(ok:HOk P w H h)(e:H a=some (.dK kvs)):kvs.length<=Qy/\(a==Jj)=false/\∃vs,KV kvs vs/\h.DictOf (aBb P w) a vs:=aTy ok (.inl e)
theorem aQa {ks:List Key}(ok:HOk P w H h)(e:H a=some (.tup (ks.map kV))):(tupleKind (aBb P w)).is h ks a:=by
 obtain⟨_,its,r,o,h1,h2,⟨n,h3⟩,_⟩:=(show aBn P w H h a (.tup (ks.map kV)) from ok a _ e);exact⟨o,its.toArray,n,h1,h2,h3,by simpa using aTq r⟩
theorem aZ3 {kvs:List (List Key×V)}(ok:HOk P w H h)(e:Rd H a (.dT kvs)):kvs.length<=Qy/\(a==Jj)=false/\
  ∃xs,KT H kvs xs/\h.DictOfH (tupleKind (aBb P w)) a xs:=by
 obtain⟨z,y,xs,r,o,es,ep,h1,h2,h3,h4,h5⟩:=(show aBn P w H h a (.dT kvs) from bOp ok e);refine⟨z,y,xs,r,o,es,ep,h1,h2,h3,h4,fun x hx=> ?_,h5⟩;have all: ∀{l:List (List Key×V)} {m:List (List Key×Addr×Qd)},KT H l m->∀x∈m,(tupleKind (aBb P w)).is h x.1 x.2.1:=by
  intro l m q
  induction q with
  | nil=>intro x hx;exact nomatch hx
  | @cons p q ps qs hq t ih=>
   intro x hx;rcases List.mem_cons.mp hx with e | hx
   ·subst e
    exact aQa ok (by rw[<-hq.1];exact hq.2.1)
   ·exact ih x hx
 exact all r x hx
theorem bUj {kvs:List (List Key×V)}(ok:HOk P w H h)(e:H a=some (.dT kvs)):kvs.length<=Qy/\(a==Jj)=false/\
  ∃xs,KT H kvs xs/\h.DictOfH (tupleKind (aBb P w)) a xs:=aZ3 ok (.inl e)
end
def aYm (H:Hp)(a:Addr)(y:V)(r:Option V):Prop:=
 (∃kvs k,Rd H a (.dK kvs)/\y=kV k/\r=aGj kvs k)\/∃kvs k b,Rd H a (.dT kvs)/\y= .ref b/\H b=some (.tup (k.map kV))/\r=aGj kvs k
def bJ4 (H:Hp)(a:Addr)(y v:V)(H':Hp):Prop:=
 (∃kvs k,H a=some (.dK kvs)/\y=kV k/\kvs.length<Qy/\H'=upd H a (.dK (putK kvs k v)))\/
 ∃kvs k b,H a=some (.dT kvs)/\y= .ref b/\H b=some (.tup (k.map kV))/\kvs.length<Qy/\H'=upd H a (.dT (putK kvs k v))
theorem aYm.t {H:Hp}{a b:Addr}{kvs:List (List Key×V)}{k:List Key}(e:H a=some (.dT kvs))(eb:H b=some (.tup (k.map kV))):aYm H a (.ref b) (aGj kvs k):= .inr ⟨kvs,k,b,.inl e,rfl,eb,rfl⟩
theorem bJ4.k {H:Hp}{a:Addr}{kvs:List (Key×V)}{k:Key}{v:V}(e:H a=some (.dK kvs))(hl:kvs.length<Qy):bJ4 H a (kV k) v (upd H a (.dK (putK kvs k v))):= .inl ⟨kvs,k,e,rfl,hl,rfl⟩
theorem bJ4.t {H:Hp}{a b:Addr}{kvs:List (List Key×V)}{k:List Key}{v:V}(e:H a=some (.dT kvs))(eb:H b=some (.tup (k.map kV)))(hl:kvs.length<Qy):
  bJ4 H a (.ref b) v (upd H a (.dT (putK kvs k v))):= .inr ⟨kvs,k,b,e,rfl,eb,hl,rfl⟩
section
variable {X:Cx}{pins:List (Addr×Obj)}{σ:St}{H:Hp}{s:Qf}{a:Addr}{y v:V}{u r:Qd}{o:Option V}{A:Ze}{E:Qd->Qf->Prop}
theorem Inv.big (I:Inv X pins σ H s):Jj<s.heap.objs.size:=by
 have h:Js<s.heap.objs.size:=(I.mod.glob.keeps I.bk).lt;exact Uz (by decide) h
theorem bEf {Q:Qd->Qf->Prop}(hu:A.units+1<cLine)(I:Inv X pins σ H s)(g:aYm H a y (some v))(ry:RelV y u)(h: ∀w' s',Inv X pins σ H s'->RelV v w'->Q w' s'):
  Qp (Qt X.prog X.w) A (getItem (.ref a) u) Q E s:=by
 rcases g with⟨kvs,k,e,ey,l⟩ |⟨kvs,k,b,e,ey,eb,l⟩
 ·subst ey
  obtain⟨z,hd,vs,rel,dd⟩:=aTy I.hok e;obtain⟨w',hw,rw'⟩:=aPn.some_of (v:=v) (o:=valueAt vs k) (by rw[l];exact rel.val k);exact wpAny_getItem_of (aVs ry) dd.mapOf hw (h w' _ (I.tok _) rw')
 ·subst ey
  cases (show u=Q1 b from ry);obtain⟨z,hd,xs,rel,dd⟩:=aZ3 I.hok e;obtain⟨w',hw,rw'⟩:=aPn.some_of (v:=v) (o:=(atKey xs k).map (·.2)) (by rw[l];exact rel.val k);obtain⟨p,hp,hp2⟩:=Option.map_eq_some_iff.mp hw;refine wpAny_getItem_heap (tupleKind_room_in1 hu) (aQa I.hok eb) dd hp ?_;rw[hp2];exact h w' _ (I.tok _) rw'
theorem bXl {Q:Qd->Qf->Prop}(hu:A.units+1<cLine)(I:Inv X pins σ H s)(g:aYm H a y o)(ry:RelV y u)(h: ∀s',Inv X pins σ H s'->Q (.bool o.isSome) s'):
  Qp (Qt X.prog X.w) A (Yp .In u (.ref a)) Q E s:=by
 rcases g with⟨kvs,k,e,ey,l⟩ |⟨kvs,k,b,e,ey,eb,l⟩
 ·subst ey
  obtain⟨z,hd,vs,rel,dd⟩:=aTy I.hok e;refine wpAny_in_of (aVs ry) hd dd.mapOf ?_;rw[<-(rel.val k).aOi,<-l];exact h _ (I.tok _)
 ·subst ey
  cases (show u=Q1 b from ry);obtain⟨z,hd,xs,rel,dd⟩:=aZ3 I.hok e;refine wpAny_in_heap (tupleKind_room_in1 hu) (aQa I.hok eb) hd dd ?_;have q:=(rel.val k).aOi;rw[W4] at q;rw[<-q,<-l];exact h _ (I.tok _)
theorem aR0 {h':Heap}{t':Nat}{ob:HO}(I:Inv X pins σ H s)(mu:Mut (H a))(hs:Z3 a s.heap h')(he: ∃q,h'.get? a=some q)(new:aBn X.prog X.w (upd H a ob) h' a ob):
  Inv X pins σ (upd H a ob) {s with heap:=h',toks:=t'}:=
 I.write (x:=a) (e:=a) mu (.inl rfl) (fun b q hb z=>(hs.2 b hb).trans z) he new
theorem bD5 {P:Qx}{w:Zb}{H':Hp}{h':Heap}{kvs:List (Key×V)}{vs:List (Key×Qd)}(z:kvs.length<=Qy)(hd:(a==Jj)=false)(rel:KV kvs vs)(dd:h'.DictOf (aBb P w) a vs):
  aBn P w H' h' a (.dK kvs):=⟨z,hd,vs,rel,dd⟩
theorem bEe {H':Hp}{Q:Unit->Qf->Prop}(hu:A.units+1<cLine)(I:Inv X pins σ H s)(g:bJ4 H a y v H')(ry:RelV y u)(rv:RelV v r)(h: ∀s',Inv X pins σ H' s'->Q () s'):
  Qp (Qt X.prog X.w) A (setItem (.ref a) u r) Q E s:=by
 rcases g with⟨kvs,k,e,ey,l,eH⟩ |⟨kvs,k,b,e,ey,eb,l,eH⟩
 ·subst ey eH
  obtain⟨z,hd,vs,rel,dd⟩:=bHw I.hok e;have hz:vs.length<=Qy:=by rw[<-rel.length];exact z
  have hl:(putK kvs k v).length<=Qy:=by have:=aGv kvs k v;omega
  refine wpAny_setItem_pairs (hsz:=hz) (aVs ry) dd fun h' dd' hs=>h _ ?_
  have he: ∃q,h'.get? a=some q:=let ⟨q,_,_,hq,_⟩:=dd';⟨q,hq⟩;exact aR0 I (by rw[e];exact True.intro) hs he (bD5 hl hd (rel.put k rv) dd')
 ·subst ey eH
  cases (show u=Q1 b from ry);obtain⟨z,hd,xs,rel,dd⟩:=bUj I.hok e;have hz:xs.length<=Qy:=by rw[<-Paired.length rel];exact z
  have hl:(putK kvs k v).length<=Qy:=by have:=aGv kvs k v;omega
  refine wpAny_setItem_heap (hsz:=hz) (tupleKind_room_in1 hu) (aQa I.hok eb) dd fun h' dd' hs=>h _ ?_
  obtain⟨q,es,ep,hq,h2,h3,h4,_,h5⟩:=dd';refine aR0 I (by rw[e];exact True.intro) hs ⟨q,hq⟩ ⟨hl,hd,_,(rel.put k eb rv).keeps fun c ys ec=> ?_,q,es,ep,hq,h2,h3,h4,h5⟩;rw[aAo (bTl ec e (fun z=>nomatch z))];exact ec
end
section
variable {X:Cx}{pins:List (Addr×Obj)}{σ:St}{H:Hp}{s:Qf}{a:Addr}{kvs:List (Key×V)}{k:Key}{u:Qd}{A:Ze}{E:Qd->Qf->Prop}
theorem bUl {Q:Qd->Qf->Prop}(I:Inv X pins σ H s)(e:Rd H a (.dK kvs))(h: ∀t s',Inv X pins σ H s'->Q (.int kvs.length t) s'):Qp (Qt X.prog X.w) A (call (.builtin "len") [.ref a]) Q E s:=by
 obtain⟨z,hd,vs,rel,dd⟩:=aTy I.hok e;refine call_len_dict hd dd (by rw[<-rel.length];rw[Z6] at z;omega) ?_;rw[<-rel.length];exact h _ _ (I.tok _)
end
def bUu (i:Expr):Prop:= ∀ov iv,subscripted i false ov iv=operate [ov,iv] (getItem ov iv)
theorem bKd {prog:Qx}{w:Zb}{A:Ze}{E:Qd->Qf->Prop}{s:Qf}{env:Env}{value slice:Expr}{pos:Pos}{T id:String}{Q:Qd->Qf->Prop}
  (hl:typeLookup (.type T) "__getitem__"=pure (some (.builtin id))) (hs:bUu slice)
  (h:Qp (Qt prog w) A (eval value env) (fun o s₁=>Qp (Qt prog w) A (eval slice env) (fun i s₂=>s₂.TypeIs o T/\Qp (Qt prog w) A (getItem o i) Q E s₂) E s₁) E s):
  Qp (Qt prog w) A (eval (.Subscript value slice pos) env) Q E s:=by
 refine Subscript_ (Y1 h (fun o s₁ h₁=>Y1 h₁ (fun i s₂ h₂=> ?_) fun _ _ x=>x) fun _ _ x=>x);obtain⟨hT,h₂⟩:=h₂;unfold subscriptTail;refine Qa ?_;rw[getitemInPython_of_ne hT.not_modules];refine Qa (wpAny_specialOf hT hl ?_);have fin:Qp (Qt prog w) A (subscripted slice false o i) (fun r s₃=>Qp (Qt prog w) A (letTemporaryGo value o r>>=fun _=>pure r) Q E s₃) E s₂:=by
  rw[hs o i];exact wpAny_operating (Y1 h₂ (fun r s₃ h₃=>Qa (wpAny_letTemporaryGo (Qe h₃))) fun _ _ x=>x)
 first
  | exact Qe (Qa fin)
  | exact Qa (Qe (Qa fin))
  | exact Qa fin
theorem aV5 {X:Cx}{pins:List (Addr×Obj)}{σ:St}{H:Hp}{s:Qf}{a:Addr}{y:V}{o:Option V}(I:Inv X pins σ H s)(g:aYm H a y o):s.TypeIs (.ref a) "dict":=by
 rcases g with⟨kvs,k,e,_,_⟩ |⟨kvs,k,b,e,_,_,_⟩
 ·obtain⟨_,_,vs,_,dd⟩:=aTy I.hok e
  exact dd.typeIs
 ·obtain⟨_,_,xs,_,dd⟩:=aZ3 I.hok e
  exact dd.typeIs
def bSq (td ty:TE):TE:=fun σ H Q=>td σ H fun x H1=>ty σ H1 fun y H2=> ∃a v,x= .ref a/\aYm H2 a y (some v)/\Q v H2
def bSw (td ty tv:TE):TS:=fun D σ H=>tv σ H fun v H1=>td σ H1 fun x H2=>ty σ H2 fun y H3=> ∃a H4,x= .ref a/\bJ4 H3 a y v H4/\D.nx σ H4
section
variable {X:Cx}{o i e value:Expr}{pos pos' tpos:Pos}{td ty tv:TE}
theorem bK5 (hu:X.A.units+1<cLine)(ho:PE X o td)(hi:PE X i ty)(hs:bUu i):PE X (.Subscript o i pos) (bSq td ty):=by
 intro pins s σ H Q I h;refine bKd PySem.F.slot_dict_getitem.lookup hs (thn (ho pins s σ H _ I h) fun u s1 ⟨x,H1,I1,rx,q1⟩=>thn (hi pins s1 σ H1 _ I1 q1) fun iv s2 ⟨y,H2,I2,ry,a,v,ex,g,q2⟩=> ?_);subst ex;obtain rfl:u=Q1 a:=rx;exact⟨aV5 I2 g,bEf hu I2 g ry fun w' s3 I3 rw'=>⟨v,H2,I3,rw',q2⟩⟩
theorem bB0 (hu:X.A.units+1<cLine)(ho:PE X o td)(hi:PE X i ty)(hv:PE X value tv)(hs:Y3 value (some (.Subscript o i pos')) pos.line X.env=pure false):
  PS X (.Assign [.Subscript o i pos'] value pos) (bSw td ty tv):=by
 intro pins s σ H D I h;refine wpAny_Assign_Subscript (thn (hv pins s σ H _ I h) fun r s1 ⟨v,H1,I1,rv,q1⟩=>thn (ho pins s1 σ H1 _ I1 q1) fun u s2 ⟨x,H2,I2,rx,q2⟩=>thn (hi pins s2 σ H2 _ I2 q2) fun iv s3 ⟨y,H3,I3,ry,a,H4,ex,g,q3⟩=> ?_) hs;subst ex;obtain rfl:u=Q1 a:=rx;exact bEe hu I3 g ry rv fun s4 I4=>⟨σ,H4,I4,q3⟩
end
theorem aX6 {P:Qx}{w:Zb}{H:Hp}(h:Heap)(hb:Jj<h.objs.size):aBn P w H (h.push {cls:= .type "dict",data:= .dict #[]}) h.objs.size (.dK []):=
 ⟨Zy _,beq_eq_false_iff_ne.mpr (Ne.symm (Qz hb)),[],.nil,Heap.DictOf.new h⟩
theorem bHv {P:Qx}{w:Zb}{H:Hp}(h:Heap)(hb:Jj<h.objs.size):aBn P w H (h.push {cls:= .type "dict",data:= .dict #[]}) h.objs.size (.dT []):=
 ⟨Zy _,beq_eq_false_iff_ne.mpr (Ne.symm (Qz hb)),[],.nil,_,#[],0,Ql _ rfl,⟨rfl,rfl,rfl⟩,rfl,rfl,Vu⟩
def bOg:TE:=fun _ H Q=> ∀p,H p=none->Q (.ref p) (upd H p (.dK []))
def bOf:TE:=fun _ H Q=> ∀p,H p=none->Q (.ref p) (upd H p (.dT []))
section
variable {X:Cx}{pos:Pos}
theorem aQ5:PE X (.Dict [] [] pos) bOg:=fun pins s σ H Q I h=>
 wpAny_Dict_empty ⟨.ref s.heap.objs.size,_,I.laid (a:=s.heap.objs.size) (o:= .dK []) (t':=s.toks) (fun _ _ q=>Qb _ q) (Qo _) (aX6 s.heap I.big),rfl,h _ (I.hok.fresh (Qo _))⟩
theorem bGn:PE X (.Dict [] [] pos) bOf:=fun pins s σ H Q I h=>
 wpAny_Dict_empty ⟨.ref s.heap.objs.size,_,I.laid (a:=s.heap.objs.size) (o:= .dT []) (t':=s.toks) (fun _ _ q=>Qb _ q) (Qo _) (bHv s.heap I.big),rfl,h _ (I.hok.fresh (Qo _))⟩
end
def bA2:List (TE×TE)->St->Hp->(List (V×V)->Hp->Prop)->Prop
 | [],_,H,Q=>Q [] H
 |(tk,tv)::r,σ,H,Q=>tk σ H fun x H1=>tv σ H1 fun y H2=>bA2 r σ H2 fun ps H3=>Q ((x,y)::ps) H3
abbrev VV:List (V×V)->List (Qd×Qd)->Prop:=Paired fun p q=>RelV p.1 q.1/\RelV p.2 q.2
def PPs (X:Cx)(pos:Pos)(keys:List (Option Expr))(values:List Expr)(trs:List (TE×TE)):Prop:=
 ∀(pins:List (Addr×Obj)) (s:Qf) (σ:St) (H:Hp) (Q:List (V×V)->Hp->Prop),Inv X pins σ H s->bA2 trs σ H Q->
  Qp (Qt X.prog X.w) X.A (evalPairs (pairTrees keys values X.env pos)) (fun vs s'=> ∃ps H',Inv X pins σ H' s'/\VV ps vs/\Q ps H') X.xe s
theorem bKz {X:Cx}{pos:Pos}:PPs X pos [] [] []:=fun pins s σ H Q I h=>pairTrees_nil_walk ⟨[],H,I,.nil,h⟩
theorem bGi {X:Cx}{pos:Pos}{k v:Expr}{ks:List (Option Expr)}{vs:List Expr}{tk tv:TE}{trs:List (TE×TE)}(hk:PE X k tk)(hv:PE X v tv)(hr:PPs X pos ks vs trs):
  PPs X pos (some k::ks) (v::vs) ((tk,tv)::trs):=fun pins s σ H Q I h=>
 pairTrees_cons_walk (thn (hk pins s σ H _ I h) fun u s1 ⟨x,H1,I1,rx,q1⟩=>thn (hv pins s1 σ H1 _ I1 q1) fun w2 s2 ⟨y,H2,I2,ry,q2⟩=>
  thn (hr pins s2 σ H2 _ I2 q2) fun ws s3 ⟨ps,H3,I3,rel,q3⟩=>⟨(x,y)::ps,H3,I3,.cons ⟨rx,ry⟩ rel,q3⟩)
def aP6 (kvs more:List (Key×V)):List (Key×V):=more.foldl (fun acc kv=>putK acc kv.1 kv.2) kvs
theorem KV.merge: ∀{more:List (Key×V)} {rs:List (Key×Qd)} {kvs:List (Key×V)} {vs:List (Key×Qd)},KV more rs->KV kvs vs->KV (aP6 kvs more) (merged vs rs):=by
 intro more rs kvs vs r;unfold KV at r
 induction r generalizing kvs vs with
 | nil=>intro q;exact q
 | @cons p q ps qs h t ih=>
  intro r0;have e:KV (putK kvs p.1 p.2) (stored vs q.1 q.2):=by
   have:=r0.put p.1 h.2;rw[<-h.1];exact this
  exact ih e
theorem aJp: ∀(more kvs:List (Key×V)),(aP6 kvs more).length<=kvs.length+more.length
 | [],kvs=>by show kvs.length<=kvs.length+0;omega
 | p::r,kvs=>by
  have h1:=aJp r (putK kvs p.1 p.2);have h2:=aGv kvs p.1 p.2;show (aP6 (putK kvs p.1 p.2) r).length<=_;rw[Qk];omega
theorem aQk {P:Qx}{w:Zb}: ∀{kvs:List (Key×V)} {ws:List (Qd×Qd)},VV (kvs.map fun kv=>(kV kv.1,kv.2)) ws->∃rs,Carries (aBb P w) ws rs/\KV kvs rs
 | [],_,r=>by rw[Ee] at r;cases r;exact⟨[],True.intro,.nil⟩
 | p::kvs,_,r=>by
  rw[Qv] at r;cases r with
  | @cons a b as bs h t=>
   obtain⟨rs,c,q⟩:=aQk (P:=P) (w:=w) t;obtain⟨b1,b2⟩:=b;exact⟨(p.1,b2)::rs,⟨aVs h.1,rfl,c⟩,.cons ⟨rfl,h.2⟩ q⟩
def bSp (trs:List (TE×TE)):TE:=fun σ H Q=> ∀p,H p=none->bA2 trs σ (upd H p (.dK [])) fun ps H2=>H2 p=some (.dK [])/\∃kvs:List (Key×V),ps=kvs.map (fun kv=>(kV kv.1,kv.2))/\kvs.length<=15/\Q (.ref p) (upd H2 p (.dK (aP6 [] kvs)))
theorem bK4 {X:Cx}{pos:Pos}{keys:List (Option Expr)}{values:List Expr}{trs:List (TE×TE)}(h:PPs X pos keys values trs)(hall:keys.all (·.isSome)=true)(hl:keys.length=values.length)(h0:keys≠[])
  (h15:keys.length<=15):PE X (.Dict keys values pos) (bSp trs):=by
 intro pins s σ H Q I q;have hn:=I.hok.fresh (Qo s.heap.objs.size);have I1:=I.laid (a:=s.heap.objs.size) (o:= .dK []) (h':=s.heap.push {cls:= .type "dict",data:= .dict #[]}) (t':=s.toks) (fun _ _ q=>Qb _ q) (Qo _) (aX6 s.heap I.big);refine wpAny_Dict_walk (knd:=aBb X.prog X.w) hall hl h0 h15 (thn (h pins _ σ _ _ I1 (q _ hn)) fun ws s2 ⟨ps,H2,I2,rel,e,kvs,ep,lk,q2⟩=> ?_);subst ep;obtain⟨rs,c,rk⟩:=aQk (P:=X.prog) (w:=X.w) rel;obtain⟨z,hd,vs0,r0,dd⟩:=bHw I2.hok e;cases r0;refine⟨rs,c,dd,fun h' dd' hs=>⟨.ref s.heap.objs.size,_,?_,rfl,q2⟩⟩;have hz:(aP6 [] kvs).length<=Qy:=by
  have h1:=aJp kvs [];rw[Uw] at h1;rw[Z6];omega
 have he: ∃q,h'.get? s.heap.objs.size=some q:=let ⟨q,_,_,hq,_⟩:=dd';⟨q,hq⟩;exact aR0 I2 (by rw[e];exact True.intro) hs he (bD5 hz hd (rk.merge .nil) dd')
structure M2 (X:Cx)(o:Expr)(m:Str)(apos:Pos)(e f:Expr)(cpos:Pos):Prop where
 base:Jy o m X.env (eval o X.env)=eval o X.env
 few:((backTo cpos (Zi [e,f] X.env)).all (fun x=> !x.1)&&(backToKw cpos (keywordEach [] X.env)).all (fun x=>x.1.isSome)
  &&decide (([e,f]:List Expr).length+([]:List Keyword).length+(if ([]:List Keyword).isEmpty then 0 else 1)<30))=true
 line:(apos.endLine==cpos.line)=true
 trees:backTo cpos (Zi [e,f] X.env)=[(false,eval e X.env),(false,eval f X.env)]
def IsD (H:Hp)(a:Addr):Prop:=(∃kvs,Rd H a (.dK kvs))\/∃kvs,Rd H a (.dT kvs)
theorem bJl {X:Cx}{pins:List (Addr×Obj)}{σ:St}{H:Hp}{s:Qf}{a:Addr}(I:Inv X pins σ H s)(d:IsD H a):
  s.TypeIs (.ref a) "dict"/\(∀b,Q1 a= .ref b->∃ob,s.heap.get? b=some ob/\ob.dict=none)/\(a==Jj)=false:=by
 rcases d with⟨kvs,e⟩ |⟨kvs,e⟩
 ·obtain⟨_,hd,vs,_,dd⟩:=aTy I.hok e
  refine⟨dd.typeIs,fun b q=> ?_,hd⟩;cases q;obtain⟨ob,_,_,h1,h2,_⟩:=dd;exact⟨ob,h1,h2.2.1⟩
 ·obtain⟨_,hd,xs,_,dd⟩:=aZ3 I.hok e
  refine⟨dd.typeIs,fun b q=> ?_,hd⟩;cases q;obtain⟨ob,_,_,h1,h2,_⟩:=dd;exact⟨ob,h1,h2.2.1⟩
section
variable {X:Cx}{pins:List (Addr×Obj)}{σ:St}{H:Hp}{s:Qf}{a:Addr}{y d:V}{u r:Qd}{o:Option V}{A:Ze}{E:Qd->Qf->Prop}
theorem bRt {Q:Qd->Qf->Prop}(hu:A.units+1<cLine)(I:Inv X pins σ H s)(g:aYm H a y o)(ry:RelV y u)(rd:RelV d r)(h: ∀w' s',Inv X pins σ H s'->RelV (o.getD d) w'->Q w' s'):
  Qp (Qt X.prog X.w) A (call (.builtin "dict.get") [.ref a,u,r]) Q E s:=by
 rcases g with⟨kvs,k,e,ey,l⟩ |⟨kvs,k,b,e,ey,eb,l⟩
 ·subst ey
  obtain⟨z,hd,vs,rel,dd⟩:=aTy I.hok e;refine call_meetsIn Wm dd.typeIs V0 (Vs _ _ _) (meets_dict_get_default (aBb X.prog X.w) a (aVs ry) hd r) ⟨_,dd.mapOf,h _ _ (I.tok _) ?_⟩;rw[l];exact (rel.val k).getD rd
 ·subst ey
  cases (show u=Q1 b from ry);obtain⟨z,hd,xs,rel,dd⟩:=aZ3 I.hok e;refine call_meetsIn Wm dd.typeIs V0 (Vs _ _ _) (meetsH_dict_get_default (tupleKind (aBb X.prog X.w)) a b hd r) ⟨tupleKind_room_in1 hu,k,xs,aQa I.hok eb,dd,h _ _ (I.tok _) ?_⟩;rw[l];exact (rel.val k).getD rd
end
def bOh (td ty tx:TE):TE:=fun σ H Q=>td σ H fun x H1=> ∃a,x= .ref a/\IsD H1 a/\ty σ H1 fun y H2=>tx σ H2 fun z H3=> ∃o,aYm H3 a y o/\Q (o.getD z) H3
section
variable {X:Cx}{o e f:Expr}{apos cpos:Pos}{td ty tx:TE}
theorem aW7 (hu:X.A.units+1<cLine)(ho:PE X o td)(he:PE X e ty)(hf:PE X f tx)(m:M2 X o "get" apos e f cpos):PE X (.Call (.Attribute o "get" apos) [e,f] [] cpos) (bOh td ty tx):=by
 intro pins s σ H Q I h;refine wpAny_Call_method m.base m.few m.line We Wm PySem.F.type_dict_get (thn (ho pins s σ H _ I h) fun u s1 ⟨x,H1,I1,rx,a,ex,d,q1⟩=> ?_);subst ex;obtain rfl:u=Q1 a:=rx;obtain⟨t1,t2,_⟩:=bJl I1 d;refine⟨t1,t2,?_⟩;rw[m.trees];refine J1 rfl (Calls.evalArgs_plain (J0 (thn (he pins s1 σ H1 _ I1 q1) fun iv s2 ⟨y,H2,I2,ry,q2⟩=>
  J0 (thn (hf pins s2 σ H2 _ I2 q2) fun fv s3 ⟨z,H3,I3,rz,ov,g,q3⟩=>Calls.spliced_nil ?_))))
 exact bRt hu I3 g ry rz fun w' s4 I4 rw'=>⟨_,H3,I4,rw',q3⟩
end
end L2
namespace Att
open PySem PySem.W PySem.Calls PyProof.Rows
theorem aOk {P:Params}{h:Heap}: ∀(ns:List Int) (vs:List Qd),WellAll P h vs (ns.map WData.int)->IntsAre vs ns:=by
 intro ns
 induction ns with
 | nil=>
  intro vs w;rw[Ee] at w;cases w;exact .nil
 | cons n ns ih=>
  intro vs w;rw[Qv] at w;cases w with
  | cons a b=>
   cases a;exact .cons _ _ (ih _ b)
theorem bBg {l:OpenLaw}{n:Nat}(hn:l.most=some n){P:Params}{h:Heap}{args:List WData}{vals:List Qd}
  (hpre:l.row.toRowW.claim.pre args=true) (hwl:WellAll P h vals args):
  ∃a vs ns,vals=[Q1 a]/\args=[WData.list (ns.map WData.int)]/\h.get? a=some {cls:= .type "list",data:= .seq vs.toArray}/\IntsAre vs ns/\ns.length<=n:=by
 have hsh:WShape.hasAll [] args [.list .int]=true:=(pre_splitW hpre).1;have hc:l.pre.holds [] {args:=args}=true:=(pre_splitW hpre).2;obtain⟨d,r,rfl,h1,h2⟩:=hasAllW_cons hsh;obtain rfl:=hasAllW_nil h2;obtain⟨xs,rfl,h3⟩:=hasW_list h1;obtain⟨ns,rfl⟩:=items_int h3;have hlen:ns.length<=n:=by
  unfold OpenLaw.pre at hc;have h4:(WTm.not (.lt (.lit (.int (n:Int))) (.len (.arg 0)))).holds [] {args:=[.list (ns.map .int)]}=true:=by
   have h4:=(holds_andW hc).1;rw[hn] at h4;exact h4
  have h5:=condW_of h4 (w_not (w_lt w_lit (w_len_list (w_arg rfl))));rw[Qh] at h5;refine Nat.le_of_not_lt fun q=> ?_
  have q':(n:Int)<((ns.length:Nat):Int):=by omega
  first
   |(rw[decide_eq_true q'] at h5;exact absurd h5 (by decide))
   |(simp at h5;omega)
 cases hwl with
 | cons w1 w2=>
  cases w2;cases w1 with
  | list ho hall=>exact⟨_,_,ns,rfl,rfl,ho,aOk ns _ hall,hlen⟩
theorem bB1 (l:OpenLaw)(args:List WData):l.row.toRowW.claim.post args (.bool true) args=true:=
 postW_of (r:=l.row.toRowW) (X:=(true==true))
  (show WShape.has [] (.bool true) .bool=true by first | rfl | decide | simp[WShape.has,WShape.arms,WShape.armsAll])
  (show (WTm.eq .res (.lit (.bool true))).value [] {args:=args,res:=some (.bool true),after:=args}=some (.bool (true==true)) from w_eq_bool (w_res rfl) w_lit) rfl
theorem aWd {l:OpenLaw}{n:Nat}{q:Qx}{loose:List Str}{XP:(Str->Option Qd)->Heap->Prop}{YP:Zb->Heap->Prop}{d:DefRec}
  (hn:l.most=some n) (hdf:d.params.defaults=[])
  (call: ∀(w:Zb) (s₀ s₁:Qf) (mg mb:Str->Option Qd) (fa:Addr) (o:Obj) (pm cd doc:Qd) (a:Addr) (vs:List Qd) (ns:List Int),
   Ground q loose [] XP w s₀ mg mb s₁.heap->YP w s₁.heap->
   s₁.heap.get? fa=some o->o.data= .func (docDef d.name d.params d.body d.scope pm cd doc)->s₁.heap.CodeRec cd d.name->mg d.name=some (.ref fa)->
   s₁.heap.get? a=some {cls:= .type "list",data:= .seq vs.toArray}->IntsAre vs ns->ns.length<=n->s₁.gens= #[]->
   codeAny (Qt l.prog w) callerA (.call (.ref fa) ⟨[.ref a],[]⟩) (fun r s'=>r= .ok (.ret (.bool true))/\OldK s₁.heap s'.heap/\s'.os=s₁.os/\AllBare s'.gens) s₁):
  WalkO q loose XP YP l.row.toRowW d [] (fun f vs=>Vn f vs):=by
 intro w s₀ s₁ mg mb G Y fa o pm cd doc dV kV ho hd hcd hD hmg hg args vals as hpre hlay hrd hwl hlo;obtain rfl:dV= .none:=Dflts.none hD hdf;obtain rfl:kV= .none:=Dflts.noKw hD;obtain⟨a,vs,ns,rfl,rfl,hobj,hints,hlen⟩:=bBg hn hpre hwl;refine enter_call (codeAny_mono (call w s₀ s₁ mg mb fa o pm cd doc a vs ns G Y ho (fd_plain hd) hcd hmg hobj hints hlen hg) fun r s' hq=> ?_);obtain⟨rfl,h2,h3,h4⟩:=hq;exact⟨.inl ⟨.bool true,.bool true,[],rfl,fun _=>rfl,.bool true,bB1 l _,fun _=>⟨List.Pairwise.nil,fun _ hm=>(nomatch hm)⟩⟩,h2,h3,h4⟩
section
variable {prog:Qx}{w:Zb}{A:Ze}{E:Qd->Qf->Prop}{s:Qf}{K:Frag}
def ledger (h:Heap)(L d:Addr):List (Addr×Obj):=(Zj h.objs.size).filterMap fun a=>if a=L\/a=d then none else (h.get? a).map fun o=>(a,o)
end
end Att
namespace L2
open PySem PySem.Spec PyProof.Rows
theorem aSg: ∀{vs:List Qd} {ns:List Int},IntsAre vs ns->Vals (ns.map V.int) vs
 | _,_,.nil=> .nil
 | _,_,.cons n t h=> .cons ⟨t,rfl⟩ (aSg h)
def Only (H:Hp):Prop:= ∀b,H b=none\/∃o xs,H b=some (.frz o (.lst xs))
theorem bHb {P:Qx}{w:Zb}{K:Qc}{mg mb:Str->Option Qd}{CX:CXT}{k:Nat}{fa a:Addr}{fd:FuncData}{x:Str}{sp:Sp}{s₁:Qf}{vs:List Qd}{ns:List Int}
  (KX:K.In s₁.heap) (hns:s₁.heap.Ns Js mg) (hb:s₁.heap.Ns builtinsNs mb) (hbb: ∀x:Str,x≠"__name__"->mb x=Jn x) (hlim:s₁.heap.NoLimit) (hg:s₁.gens= #[])
  (ha:s₁.heap.get? a=some {cls:= .type "list",data:= .seq vs.toArray}) (hi:IntsAre vs ns) (hl:ns.length<=Qy) (hr:aFk k callerA)
  (F: ∀base:Heap,K.In base->base.Ns Js mg->bFj P w K mg base CX k fa fd [x] sp) (hbind: ∀(s:Qf) (u:Qd),BindsTo s fd ⟨[u],[]⟩ [(x,u)])
  (hsp: ∀H:Hp,Only H->SqL K H a (ns.map V.int)->sp [.ref a] H (fun v _=>v= .bl true) fun _ _ _=>False)
  (hCX: ∀H e s',CX [] H s₁ (fun _ _ _=>False) e s'->False):
  codeAny (Qt P w) callerA (.call (.ref fa) ⟨[.ref a],[]⟩) (fun r s'=>r= .ok (.ret (.bool true))/\OldK s₁.heap s'.heap/\s'.os=s₁.os/\AllBare s'.gens) s₁:=by
 have rv:=aSg hi;have lenV:=hi.length;have core: ∀H:Hp,Only H->SqL K H a (ns.map V.int)->HOk P w H s₁.heap->(∀b,H b≠none->b=a)->(H a≠none->K.lookup a=none)->
   codeAny (Qt P w) callerA (.call (.ref fa) ⟨[.ref a],[]⟩) (fun r s'=>r= .ok (.ret (.bool true))/\OldK s₁.heap s'.heap/\s'.os=s₁.os/\AllBare s'.gens) s₁:=by
  intro H hO hS hok hA hK;have bEw: ∀{b:Addr} {o:Obj},s₁.heap.get? b=some o->H b=none->(bHh s₁.heap H).get? b=some o:=fun e n=>bHg e n
  have noA: ∀{b:Addr} {o:Obj} {es:Array Jc} {ep:Nat},s₁.heap.get? b=some o->o.data= .dict es ep->H b=none:=fun {b o es ep} e d=>by
   cases q:H b with
   | none=>rfl
   | some u=>
    have e':b=a:=hA b (by rw[q];simp);subst e';rw[ha] at e;cases e;have d':Data.seq vs.toArray _=Data.dict es ep:=d;cases d'
  have nsK: ∀{b:Addr} {m:Str->Option Qd},s₁.heap.Ns b m->(bHh s₁.heap H).Ns b m:=fun {b m} ⟨o,es,ep,e,d,r⟩=>⟨o,es,ep,bEw e (noA e d),d,r⟩
  have hKb:K.In (bHh s₁.heap H):=fun b o e=>bEw (KX b o e) (by
   cases q:H b with
   | none=>rfl
   | some u=>
    have e':b=a:=hA b (by rw[q];simp);subst e';rw[hK (by rw[q];simp)] at e;cases e)
  have hM:Mod K mg (bHh s₁.heap H):=⟨hKb,nsK hns,⟨mb,nsK hb,hbb⟩,let ⟨mc,h1,h2⟩:=hlim;⟨mc,nsK h1,h2⟩⟩;have e0:bNt P w K mg (bHh s₁.heap H) callerA [] s₁ H:=⟨rfl,hM,fun b o e=>bLv e,Nat.le_of_eq (bDl _ _),trivial,fun b hb=>absurd (show b∈([]:List Addr) from hb) (by simp),hok,.of_eq hg⟩;refine codeAny_mono ((F _ hKb (nsK hns)).run callerA [] s₁ H ⟨[.ref a],[]⟩ [.ref a] [.ref a] _ _ hr e0 (hbind s₁ (.ref a)) (.cons rfl .nil) (hsp H hO hS)) fun r s' h=> ?_
  cases r with
  | error e=>exact (hCX H e s' h).elim
  | ok fl=>
   cases fl with
   | next=>exact Qg h
   | brk=>exact Qg h
   | cont=>exact Qg h
   | ret u=>
    obtain⟨v,H',os,bare,un,hok',r',q⟩:=h;have q':v= .bl true:=q;subst q';obtain rfl:u=Value.bool true:=r';refine⟨rfl,OldK.of_keep fun b o e=> ?_,os,bare⟩;cases q:H b with
    | none=>exact un.keep b o e q (by intro z;exact absurd (show b∈([]:List Addr) from z) (by simp)) (by simp)
    | some u=>
     rcases hO b with z |⟨ob,xs,z⟩
     ·rw[q] at z;cases z
     ·have z2:=un.aZ0 b ob _ z
      obtain⟨e1,_⟩:=hok b _ z;obtain⟨e2,_⟩:=hok' b _ z2;rw[e] at e1;cases e1;exact e2
 cases hk:K.lookup a with
 | some o=>
  have e:=KX a o hk;rw[ha] at e;cases e;refine core (fun _=>none) (fun _=> .inl rfl) (.inr ⟨_,vs.toArray,_,hk,rfl,rfl,rfl,by rw[Qu,lenV];exact hl,by simpa using rv⟩) (fun b u z=>by have z':(none:Option HO)=some u:=z;cases z') (fun b z=>absurd rfl z) fun z=>absurd rfl z
 | none=>
  refine core (fun b=>if b=a then some (.frz {cls:= .type "list",data:= .seq vs.toArray} (.lst (ns.map V.int))) else none) (fun b=> ?_) (.inl (.inr ⟨{cls:= .type "list",data:= .seq vs.toArray},if_pos rfl⟩)) (fun b u z=> ?_) (fun b z=> ?_) fun _=>hk
  ·by_cases hb:b=a
   ·exact .inr ⟨_,_,if_pos hb⟩
   ·exact .inl (if_neg hb)
  ·by_cases hb:b=a
   ·have z':=(if_pos hb).symm.trans z
    cases z';subst hb;exact⟨ha,by rw[Qh];exact hl,vs,_,rv,ha⟩
   ·have z':=(if_neg hb).symm.trans z
    cases z'
  ·by_cases hb:b=a
   ·exact hb
   ·exact absurd (if_neg hb) z
abbrev KOf {K:Qc}{h:Heap}(_:K.In h):Qc:=K
theorem bJ5 {l:E0}{n k:Nat}{q:Qx}{loose:List Str}{XP:(Str->Option Qd)->Heap->Prop}{YP:Zb->Heap->Prop}{d:DefRec}{K:Params->Qc}{CX:Zb->CXT}{sp:Zb->Sp}{x:Str}
  (hn:l.most=some n) (hn2:n<=Qy) (hdf:d.params.defaults=[]) (hr:aFk k callerA)
  (hY: ∀(w:Zb) (h:Heap),YP w h->(K w.params).In h)
  (F: ∀(w:Zb) (mg:Str->Option Qd) (fa:Addr) (h:Heap),(K w.params).In h->h.Ns Js mg->mg d.name=some (.ref fa)->
   ∃fd:FuncData,(∀(s:Qf) (u:Qd),BindsTo s fd ⟨[u],[]⟩ [(x,u)])/\
    ∀base:Heap,(K w.params).In base->base.Ns Js mg->bFj l.prog w (K w.params) mg base (CX w) k fa fd [x] (sp w))
  (hsp: ∀(w:Zb) (H:Hp) (a:Addr) (ns:List Int),ns.length<=n->Only H->SqL (K w.params) H a (ns.map V.int)->sp w [.ref a] H (fun v _=>v= .bl true) fun _ _ _=>False)
  (hCX: ∀(w:Zb) (H:Hp) (s:Qf) (e:Qd) (s':Qf),CX w [] H s (fun _ _ _=>False) e s'->False):
  PySem.W.WalkO q loose XP YP l.row.toRowW d [] (fun f vs=>Vn f vs):=by
 refine Att.aWd hn hdf fun w s₀ s₁ mg mb fa o pm cd doc a vs ns G Y ho hd hcd hmg hobj hints hlen hg=> ?_
 have KX:=hY w _ Y;obtain⟨fd,hb,hF⟩:=F w mg fa _ KX G.T.g hmg;exact bHb KX G.T.g G.T.b G.T.builtins G.T.nolimit hg hobj hints (Zs hlen hn2) hr hF hb (fun H hO hS=>hsp w H a ns hlen hO hS) fun H e s'=>hCX w H s₁ e s'
def inClass (s:Stmt)(j:Nat):Stmt:=match s with
 | .ClassDef _ _ _ body _ _ _ _ _ _ _=>body.getD j (.Pass ⟨0,0,0,0⟩)
 | _=> .Pass ⟨0,0,0,0⟩
def aE7 (s:Stmt):Arguments:=match s with
 | .FunctionDef _ a _ _ _ _ _ _ _ _=>a
 | _=>{posonlyargs:=[],args:=[],vararg:=none,kwonlyargs:=[],kw_defaults:=[],kwarg:=none,defaults:=[]}
def aCo (s:Stmt):List Stmt:=match s with
 | .FunctionDef _ _ b _ _ _ _ _ _ _=>b
 | _=> []
def aAk (s:Stmt):Scope:=match s with
 | .FunctionDef _ _ _ _ _ _ sc _ _ _=>sc
 | _=>{kind:= .function,names:=[],isGenerator:=false,isCoroutine:=false}
structure Fun (K:Qc)(x qual:Str)(st:Stmt)(f:Addr)(fd:FuncData):Prop where
 ex: ∃(oc:Qd) (od:Option Addr) (kV doc pm:Qd) (an:Option Addr) (cdv ct:Qd) (osl:Array (Option Qd)),
  fd=Uv x qual (aE7 st) (aCo st) (aAk st) .none kV doc pm an cdv ct/\K.lookup f=some ⟨oc,od,.func fd,osl⟩/\Vi K cdv qual=true
 kp:Ux K (.ref f)=true
section
variable {P:Qx}{w:Zb}{K:Qc}{mg:Str->Option Qd}{base:Heap}
theorem Fun.binds {x qual:Str}{st:Stmt}{f:Addr}{fd:FuncData}{ps:List Str}(F:Fun K x qual st f fd)
  (h: ∀(kV doc pm:Qd) (an:Option Addr) (cdv ct:Qd) (us:List Qd),us.length=ps.length->bindArgs (Uv x qual (aE7 st) (aCo st) (aAk st) .none kV doc pm an cdv ct) ⟨us,[]⟩=pure (ps.zip us)):Binds K fd ps []:=by
 obtain⟨oc,od,kV,doc,pm,an,cdv,ct,osl,rfl,lk,hcd⟩:=F.ex;exact .all (h kV doc pm an cdv ct)
theorem bJp {x qual:Str}{st:Stmt}{f:Addr}{oc:Qd}{od an:Option Addr}{osl:Array (Option Qd)}{kV doc pm cdv ct:Qd}(l:K.lookup f=some ⟨oc,od,.func (Uv x qual (aE7 st) (aCo st) (aAk st) .none kV doc pm an cdv ct),osl⟩)
  (c:Vi K cdv qual=true) (k:Ux K (.ref f)=true):Fun K x qual st f (Uv x qual (aE7 st) (aCo st) (aAk st) .none kV doc pm an cdv ct):=⟨⟨oc,od,kV,doc,pm,an,cdv,ct,osl,rfl,l,c⟩,k⟩
end
theorem aZq {A:Ze}{k:Nat}(hr:aFk k A):A.units+1<cLine:=Nat.lt_of_le_of_lt (Nat.add_le_add_left (by decide:1<=64) _) hr.units
theorem bBc {n:Nat}(h:n<=1000):n<Qy:=Nat.lt_of_le_of_lt h (by decide)
section
variable {X:Cx}
theorem pv (i:Nat){x:Str}{pos:Pos}(hN:X.N[i]? =some x:=by rfl)(hv:Vis X.env.scope x:=by first | exact Qw rfl | exact Yt (Qw rfl) | exact Yt (Yt rfl))(hd:(x==("__debug__":Str))=false:=by decide)
  (hcd:(x==("__classdict__":Str))=false:=by decide):PE X (.Name x pos) (bUy i):=aD5 hN hv hd hcd
end
def Same (H H':Hp):Prop:= ∀b o,H b=some o->H' b=some o
theorem Same.refl (H:Hp):Same H H:=fun _ _ h=>h
theorem Same.trans {H H1 H2:Hp}(a:Same H H1)(b:Same H1 H2):Same H H2:=fun c o h=>b c o (a c o h)
theorem Same.seq {K:Qc}{H H':Hp}{a:Addr}{xs:List V}(e:Same H H')(h:SqL K H a xs):SqL K H' a xs:=by
 rcases h with (h |⟨o,h⟩) | h
 ·exact .inl (.inl (e _ _ h))
 ·exact .inl (.inr ⟨o,e _ _ h⟩)
 ·exact .inr h
end L2
set_option maxHeartbeats 4000000
namespace L2.HD
open PySem PySem.W
def goU (thr okS:Thread->Bool)(f:SharedT->Thread->Option (SharedT×Thread)):Nat->SharedT->Thread->Option SharedT
 | 0,_,_=>none
 | n+1,s,t=>match thr t with
  | true=>some s
  | false=>match okS t with
   | false=>none
   | true=>match f s t with
    | some (s',t')=>goU thr okS f n s' t'
    | none=>none
theorem bDq {tb:String->Option Builtin}{p:Qx}{w:Zb}{n₀:Nat}{ann:Option Qd}: ∀{n:Nat} {s s':SharedT} {t:Thread},
  goU through (stepOk n₀ ann) (stepT (denote tb) p w) n s t=some s'->topRun tb p w n₀ ann n s.abs t=some s'.abs
 | 0,_,_,_,h=>by cases h
 | n+1,s,s',t,h=>by
  unfold goU at h;unfold topRun;cases ht:through t with
  | true=>rw[ht] at h;cases h;rfl
  | false=>
   rw[ht] at h;cases hk:stepOk n₀ ann t with
   | false=>rw[hk] at h;cases h
   | true=>
    rw[hk] at h;cases hs:stepT (denote tb) p w s t with
    | none=>rw[hs] at h;cases h
    | some r=>obtain⟨s₂,t₂⟩:=r;rw[hs] at h;rw[stepT_spec hs];exact bDq h
def T0 (P:Params):BT:=(((((((((((BT.nil.ins 0 (boot_o_0 P)).ins 1 (boot_o_1 P)).ins 2 (boot_o_2 P)).ins 3 (boot_o_3 P)).ins 4 (boot_o_4 P)).ins 5 (boot_o_5 P)).ins 6 (boot_o_6 P)).ins 7 (boot_o_7 P)).ins 8 (boot_o_8 P)).ins 9 (boot_o_9 P)).ins 10 (boot_o_10 P))
def S0 (w:Zb)(os:OsState):SharedT:=⟨T0 w.params,11,(boot_heap w.params).life,#[],boot_drawn,boot_toks,os⟩
theorem bR3 (w:Zb)(os:OsState):(S0 w os).abs=⟨boot_heap w.params,#[],boot_drawn,boot_toks,os⟩:=by kernel_rfl
theorem bSu (w:Zb):((boot_heap w.params).isNs Js&&(#[]:Array GenState).size==0,(boot_heap w.params).objs.size,(boot_heap w.params).nsMap Js "__annotations__")=(true,11,some (.ref 6)):=by kernel_rfl
theorem bMg {p q:Qx}{loose:List Str}{Xt:Qf->Bool}{α:Type}{Yf:Qf->α}{Ya:Zb->α}{N:Nat}{g0:Bool}
  (open_: ∀w:Zb,(fencedOpening treeTable p w N).map (fun s=>(s.heap,s.gens,s.drawn,s.toks))=some (boot_heap w.params,#[],boot_drawn,boot_toks))
  (run: ∀w:Zb,(fun os=>(goU through (stepOk 11 (some (.ref 6))) (stepT (denote treeTable) p w) N (S0 w os) (topStub p)).map (fun s=>
   ((staticsOk (importedModules p.main.body) (boot_heap w.params) s.abs.heap&&namesBound p s.abs.heap&&gensDone s.abs&&laidKept (boot_heap w.params) s.abs.heap),
    openSeen q loose (importedModules p.main.body) Xt g0 s.abs,Yf s.abs)))=fun _=>some (true,openGood q loose,Ya w)):LeftO p q loose Xt Yf Ya N g0:=fun w=>by
 obtain⟨⟨h,gs,d,k,os⟩,e,e'⟩:=Option.map_eq_some_iff.mp (open_ w);obtain⟨rfl,rfl,rfl,rfl⟩:h=boot_heap w.params/\gs= #[]/\d=boot_drawn/\k=boot_toks:=by simpa using e'
 obtain⟨s,r,z⟩:=Option.map_eq_some_iff.mp (congrFun (run w) os);have r:=bDq r;rw[bR3] at r;obtain⟨z1,z2,z3⟩:_/\_/\_:=by simpa only[Prod.mk.injEq] using bSu w
 obtain⟨l1,l2,l3⟩:_/\_/\_:=by simpa only[Prod.mk.injEq] using z
 have t:topFrom treeTable p w N ⟨boot_heap w.params,#[],boot_drawn,boot_toks,os⟩=some s.abs:=by
  unfold topFrom
  dsimp only
  rw[z1,z2,z3,r];show (match staticsOk (importedModules p.main.body) (boot_heap w.params) s.abs.heap&&namesBound p s.abs.heap&&gensDone s.abs&&laidKept (boot_heap w.params) s.abs.heap with | true=>_ | false=>_)=_;rw[l1]
 unfold openEnds;rw[e];show (topFrom treeTable p w N _).map _=_;rw[t];exact congrArg some (Prod.ext l2 l3)
def vs (x:Str)(t:Nat):Qd:= .str x t
def vi (i:Int):Qd:= .int i 0
def de (P:Params)(x:Str)(t:Nat)(v:Qd):Jc:=⟨PyData.keyHash P x,.str x t,v⟩
def ob (c:String)(d:Data):Obj:={cls:= .type c,data:=d}
def od (n:Nat)(es:List Jc):Obj:={cls:= .type "dict",data:= .dict es.toArray n}
def ot (xs:List Qd):Obj:={cls:= .type "tuple",data:= .seq xs.toArray}
def ofd (c:String)(xs:List Qd):Obj:={cls:= .type c,data:= .fields xs.toArray}
def oc (x:Str)(xt:Nat)(q:Str)(a b c d e:Nat)(xs:List Qd)(f g h:Nat):Obj:=
 ofd "code" ([.str x xt,.str q a,.str "/claim/cut.py" b,vi c,vi d,vi 0,vi 0,vi e]++xs++ [vi f,vi g,.str "/claim/cut.py" h])
def of (x q:Str)(st:Stmt)(m:Str)(mt c:Nat):Obj:={cls:= .type "function",data:= .func (fnOf x q (aE7 st) (aCo st) (aAk st) .none .none .none (.str m mt) none (.ref c) .none)}
theorem holds_of {l:OpenLaw}{q:Qx}{d:DefRec}{K:Params->Frag}{as:List Addr}{e: ∀P,as=(K P).map (·.1)}{N:Nat}
  (left:LeftO l.prog q [] (fun s=>xlAt q [] s&&recOk (RowW.records l.row.toRowW) s) (Hook.obs (kHook K as e)) (Hook.val (kHook K as e)) N)
  (said:l.row.wellSaid=true) (hdef:defOf q l.row.name=some (d,[])) (hp:l.row.prog.theDef l.row.name=some (d.params,d.body,d.scope)) (hk:kwWritten? d.params.kwonlyargs d.params.kw_defaults=some [])
  (hwr:(!l.row.writes || l.row.records.isEmpty)=true) (ok:(chainsOk q&&opensWell l.row.prog&&(frees l.row.toRowW&&l.row.within.isEmpty))=true) (hb:l.row.prog.bare) (hw:l.row.toRowW.promised)
  (call:WalkO q [] (XL q []) (Hook.says (kHook K as e)) l.row.toRowW d [] fun f vs=>Vn f vs):l.row.Holds:=
 holds_open (r:=l.row) (q:=q) (loose:=[]) (Xt:=fun s=>xlAt q [] s&&recOk (RowW.records l.row.toRowW) s) (XP:=XL q []) (Yf:=Hook.obs (kHook K as e)) (Ya:=Hook.val (kHook K as e)) (YP:=Hook.says (kHook K as e)) (N:=N)
  left (Hook.of (kHook K as e)) (Hook.keeps (kHook K as e)) (fun s e=>xl_of s (Bool.and_eq_true_iff.mp e).1) XL.keeps hdef hp hk (fun s e=>recFacts_of (Bool.and_eq_true_iff.mp e).2) hwr said ok hb hw call
theorem fo {K:Frag}{x q:Str}{st:Stmt}{f:Addr}{m:Str}{mt c:Nat}(ps:List Str)(l:K.lookup f=some (of x q st m mt c))(hc:codeIn K (.ref c) q=true)(hk:keepIn K (.ref f)=true)
  (b: ∀(kV doc pm:Qd) (an:Option Addr) (cdv ct:Qd) (us:List Qd),us.length=ps.length->bindArgs (fnOf x q (aE7 st) (aCo st) (aAk st) .none kV doc pm an cdv ct) ⟨us,[]⟩=pure (ps.zip us)): ∃fd,Fun K x q st f fd/\Binds K fd ps []:=
 ⟨_,bJp (show K.lookup f=some ⟨_,_,.func (fnOf x q (aE7 st) (aCo st) (aAk st) .none .none .none (.str m mt) none (.ref c) .none),_⟩ from l) hc hk,(bJp (show K.lookup f=some ⟨_,_,.func (fnOf x q (aE7 st) (aCo st) (aAk st) .none .none .none (.str m mt) none (.ref c) .none),_⟩ from l) hc hk).binds b⟩
end L2.HD
namespace L2.PU
open PySem PySem.Spec PyProof.Rows
theorem aZl (t:Yq)(es:Array (Int×Qd))(h:Int)(x:Qd):(layNew t es h x).2.1.led=t.led:=by
 unfold layNew;split
 ·unfold SetTable.orStandIn
  dsimp only
  split
  ·rfl
  ·rfl
 ·rfl
theorem aTp (t:Yq)(es:Array (Int×Qd))(h:Int)(x:Qd):t.plain=false->(layNew t es h x).2.1.plain=false:=by
 intro hp;unfold layNew;split
 ·unfold SetTable.orStandIn
  dsimp only
  split
  ·exact hp
  ·rfl
 ·rfl
theorem aS4 {t t':Yq}{hs:Array Int}{n:Nat}{o:Array Nat}(h:t.relaid hs n=some (t',o)):t'.led=t.led/\t'.plain=t.plain:=by
 unfold SetTable.relaid SetTable.laid at h;simp only[Option.bind_eq_bind,Option.bind_eq_some_iff] at h;obtain⟨a,_,e⟩:=h;cases e;exact⟨rfl,rfl⟩
theorem bBq (t:Yq)(es:Array (Int×Qd))(n:Nat):(relayAll t es n).2.1.led=t.led/\(t.plain=false->(relayAll t es n).2.1.plain=false):=by
 unfold relayAll;split
 ·rename_i t' order hr
  obtain⟨h1,h2⟩:=aS4 hr
  dsimp only
  split
  ·exact⟨h1,fun q=>h2.trans q⟩
  ·exact⟨rfl,fun _=>rfl⟩
 ·exact⟨rfl,fun _=>rfl⟩
theorem aM5 {w:Zb}{h h':Heap}{a:Addr}(x:aJ3 w h a)(e: ∀o,h.get? a=some o->h'.get? a=some o):aJ3 w h' a:=let ⟨o,g,r⟩:=x;⟨o,e o g,r⟩
section
variable {prog:Qx}{w:Zb}{A:Ze}{E:Qd->Qf->Prop}{s:Qf}
theorem aYh {g:Bool->Sem Unit}(hg: ∀(b:Bool) (s₁:Qf) (Q':Unit->Qf->Prop),Q' () s₁->Qp (Qt prog w) A (g b) Q' E s₁)
  {a:Addr} {o:Obj} {es:Array (Int×Qd)} {ep:Nat} {t:Yq} (ho:s.heap.get? a=some o) (hex:o.ExactSet) (hd:o.data= .set es ep t)
  {es1:Array (Int×Qd)} {t2:Yq} {S':Str->Bool} (hel1:ElemsOf (Qi prog w) es1.toList) (hmem1: ∀k',S' k'=true↔∃e∈es1.toList,(Qi prog w).is k' e.2=true)
  (hb1:es1.size<scanBound) (hf2:t2.fits es1.size=true) (hl2:w.params.followText "set-order"=true\/t2.led=true) (hp2:t2.plain=false) {wasDummy:Bool} {R:Option Bool->Qf->Prop}
  (h: ∀h',Z3 a s.heap h'->h'.SetOf (Qi prog w) a S' es1.size->aJ3 w h' a->R (some true) {s with heap:=h'}):
  Qp (Qt prog w) A (do
    storeSet a es1 t2
    if (!wasDummy&&t2.tooFull)=true then do
      g (relayAll t2 es1 (SetTable.grown es1.size)).2.2
      storeSet a (relayAll t2 es1 (SetTable.grown es1.size)).1 (relayAll t2 es1 (SetTable.grown es1.size)).2.1
      pure (some true)
     else pure (some true)) R E s:=by
 refine Qa (wpAny_storeSet_of ho hd ?_ (fits_of_scanBound hb1));obtain⟨ho1,z1⟩:=SetOf_store (knd:=Qi prog w) ho hex hd hel1 hmem1 hb1 hf2;have sb1:=Zw s.heap a (Obj.putSet es1 t2);split
 ·have hp:=relayAll_perm t2 es1 (SetTable.grown es1.size)
  have hfr:=relayAll_fits t2 es1 (SetTable.grown es1.size);obtain⟨r1,r2⟩:=bBq t2 es1 (SetTable.grown es1.size);generalize hRl:relayAll t2 es1 (SetTable.grown es1.size)=Rl at hp hfr r1 r2⊢;obtain⟨es2,t3,gave2⟩:=Rl
  dsimp only at hp hfr r1 r2⊢
  have hel2:=hel1.perm hp;have hmem2: ∀k',S' k'=true↔∃e∈es2.toList,(Qi prog w).is k' e.2=true:=fun k'=>(hmem1 k').trans ⟨fun⟨e,he,q⟩=>⟨e,hp.mem_iff.mpr he,q⟩,fun⟨e,he,q⟩=>⟨e,hp.mem_iff.mp he,q⟩⟩
  have hsz:es2.size=es1.size:=by rw[<-Q6,hp.length_eq,Q6]
  have hb2:es2.size<scanBound:=by rw[hsz];exact hb1
  refine Qa (hg _ _ _ (Qa (wpAny_storeSet_of ho1 rfl ?_ (fits_of_scanBound hb2))));obtain⟨o2,z2⟩:=SetOf_store (knd:=Qi prog w) ho1 hex rfl hel2 hmem2 hb2 hfr;rw[hsz] at z2;exact Qe (h _ (sb1.trans (Zw _ a _)) z2 ⟨_,o2,_,_,_,rfl,by rw[r1];exact hl2,.inr (r2 hp2)⟩)
 ·exact Qe (h _ sb1 z1 ⟨_,ho1,_,_,_,rfl,hl2,.inr hp2⟩)
theorem aYg {a:Addr}{S:Str->Bool}{n:Nat}{k:Str}{u:Tok}{Q:Bool->Qf->Prop}(zS:s.heap.SetOf (Qi prog w) a S n)(zT:aJ3 w s.heap a)(hroom:n+1<scanBound)
  (h: ∀h',Z3 a s.heap h'->h'.SetOf (Qi prog w) a (fun k'=>S k' || decide (k'=k)) (if S k then n else n+1)->aJ3 w h' a->Q (!S k) {s with heap:=h'}):
  Qp (Qt prog w) A (setAddHashed a (.str k u) ((Qi prog w).hash k)) Q E s:=by
 have hkey:(Qi prog w).is k (.str k u)=true:=by simp[Qi,Value.isStrOf]
 have hsc:(Jk k u).scannable=true:=rfl;obtain⟨o,es,ep,t,ho,hex,hd,hel,hmem,hb,hf,hn⟩:=id zS;obtain⟨o',ho',es',ep',t',hd',bNu,hpl⟩:=id zT;rw[ho] at ho';cases ho';rw[hd] at hd';cases hd';have hb1:es.size+1<scanBound:=by rw[hn];exact hroom
 unfold setAddHashed setAddHashedIn;refine Yh (Qa (Yk ho hd hf ?_))
 dsimp only
 rw[byScan_of hsc hb hel];simp only[↓reduceIte];unfold setAddByScan;refine Qa (Qa (wpAny_rule (Qa (wpAny_setScan_of hkey ho hd hf hel ?_))));cases hr:List.findIdx? (fun e=>(Qi prog w).is k e.2) es.toList with
 | some j=>
  dsimp only
  obtain⟨hj,hpj,_⟩:=List.findIdx?_eq_some_iff_getElem.mp hr;have hSk:S k=true:=(hmem k).mpr ⟨es.toList[j],Y7 hj,hpj⟩;refine Qe (Qe ?_);have e:s={s with heap:=s.heap}:=by cases s;rfl
  have:=h s.heap (Heap.SameBut.refl a s.heap) ⟨o,es,ep,t,ho,hex,hd,hel,fun k'=>by
   rw[Yu,decide_eq_true_eq,<-hmem k'];exact⟨fun hk=>hk.elim id (fun e=>e▸hSk),.inl⟩,hb,hf,by rw[hSk];exact hn⟩ zT
  rw[hSk] at this;rw[e];exact this
 | none=>
  dsimp only
  have hSk:S k=false:=by
   cases hk:S k with
   | false=>rfl
   | true=>obtain⟨e,he,hp⟩:=(hmem k).mp hk;have:=List.findIdx?_eq_none_iff.mp hr e he;rw[hp] at this;exact Jv this
  have hgw: ∀(b:Bool) {s₁:Qf} {Q':Unit->Qf->Prop},Q' () s₁->Qp (Qt prog w) A (match b with | true=>rule "set.scan.the-table-gave-way" | false=>pure ()) Q' E s₁:=
   fun b s₁ Q' hq=>by cases b<;>first | exact Qe hq | exact wpAny_rule hq
  have hperm:=layNew_perm t es ((Qi prog w).hash k) (.str k u);have hfits:=layNew_fits t es ((Qi prog w).hash k) (.str k u);have bHf:=aZl t es ((Qi prog w).hash k) (.str k u);have bVd:=aTp t es ((Qi prog w).hash k) (.str k u);generalize hL:layNew t es ((Qi prog w).hash k) (.str k u)=L at hperm hfits bHf bVd⊢;obtain⟨es1,t1,wasDummy,gave⟩:=L
  dsimp only at hperm hfits bHf bVd⊢
  rw[W5] at hperm;have hel1:=(hel.push hkey hsc).perm hperm;have hmem1: ∀k',(S k' || decide (k'=k))=true↔∃e∈es1.toList,(Qi prog w).is k' e.2=true:=mem_push_iff hkey hmem hperm;have hb1':es1.size<scanBound:=by rw[<-Q6,hperm.length_eq,Qq,Q6];simpa using hb1
  refine Qa (hgw _ ?_);have hsz1:es1.size=n+1:=by rw[<-Q6,hperm.length_eq,Qq,Q6,hn];rfl
  have hend: ∀h',Z3 a s.heap h'->h'.SetOf (Qi prog w) a (fun k'=>S k' || decide (k'=k)) es1.size->aJ3 w h' a->Q true {s with heap:=h'}:=by
   intro h' hsb z' zt;have:=h h' hsb;rw[hSk] at this;rw[hsz1] at z';exact this z' zt
  split
  ·refine Qa ?_
   rw[hashByValue_scannable 8 hsc];refine Qe ?_;refine aYh ?_ ho hex hd hel1 hmem1 hb1' ?_ ?_ ?_ ?_
   ·intro b s₁ Q' hq;cases b<;>first | exact Qe hq | exact wpAny_rule hq
   ·exact SetTable.fits_plain_off hfits
   ·show _\/t1.led=true
    rw[bHf];exact bNu
   ·rfl
   ·intro h' hsb z' zt;dsimp only;exact Qe (hend h' hsb z' zt)
  ·rename_i hnp
   refine Qa (Qe ?_);simp only[↓reduceIte];refine aYh ?_ ho hex hd hel1 hmem1 hb1' hfits ?_ ?_ ?_
   ·intro b s₁ Q' hq;cases b<;>first | exact Qe hq | exact wpAny_rule hq
   ·rw[bHf];exact bNu
   ·exact Bool.eq_false_iff.mpr hnp
   ·intro h' hsb z' zt;dsimp only;exact Qe (hend h' hsb z' zt)
end
def aG0 (σ:List Str)(v:Str):List Str:=if σ.contains v then σ else σ++ [v]
def aDh (vs:List Str):List Str:=vs.foldl aG0 []
theorem bCt (vs:List Str)(v:Str):aDh (vs++ [v])=aG0 (aDh vs) v:=by unfold aDh;rw[W7];rfl
theorem aM3 (σ:List Str)(v k:Str):(aG0 σ v).contains k=(σ.contains k || decide (k=v)):=by
 unfold aG0;by_cases h:σ.contains v=true
 ·rw[if_pos h]
  by_cases e:k=v
  ·subst e;rw[h];simp
  ·simp[e]
 ·rw[if_neg h]
  by_cases e:k=v
  ·subst e;simp
  ·simp[e,Q5]
theorem aH6 (σ:List Str)(v:Str):(aG0 σ v).length=if σ.contains v then σ.length else σ.length+1:=by unfold aG0;split<;>simp
theorem aRq (vs:List Str):(aDh vs).length<=vs.length:=by
 have g: ∀(vs σ:List Str),(vs.foldl aG0 σ).length<=σ.length+vs.length:=by
  intro vs
  induction vs with
  | nil=>intro σ;exact Qo _
  | cons v vs ih=>
   intro σ;rw[J5];have h1:=ih (aG0 σ v);have h2:(aG0 σ v).length<=σ.length+1:=by rw[aH6];split<;>omega
   rw[Qk];omega
 have:=g vs [];unfold aDh
 simpa using this
theorem aGt (vs:List Str)(k:Str):(aDh vs).contains k=vs.contains k:=by
 have g: ∀(vs σ:List Str),(vs.foldl aG0 σ).contains k=(σ.contains k || vs.contains k):=by
  intro vs
  induction vs with
  | nil=>intro σ;simp
  | cons v vs ih=>
   intro σ;rw[J5,ih,aM3,E7];by_cases e:k=v
   ·subst e;simp
   ·have e':(k==v)=false:=by simpa using e
    simp[e,e']
 have:=g vs [];unfold aDh
 simpa using this
section
variable {prog:Qx}{w:Zb}{A:Ze}{R:Result->Qf->Prop}{I:Addr}{fp wr:List Addr}{G:Array GenState->Array GenState->Prop}{n:Nat}{P:Nat->Qd->Prop}{St:Nat->Qf->Prop}
theorem aFz {h:Heap}{a:Addr}{σ τ:List Str}{m:Nat}{S:Str->Bool}(z:h.SetOf (Qi prog w) a S m)(e: ∀k,S k=τ.contains k)(en:m=τ.length):h.SetOf (Qi prog w) a (fun k=>τ.contains k) τ.length:=by
 have e':S=fun k=>τ.contains k:=funext e
 subst e' en;exact z
theorem aF0 {h h':Heap}{a:Addr}{m:Nat}{S:Str->Bool}(z:h.SetOf (Qi prog w) a S m)(e: ∀o,h.get? a=some o->h'.get? a=some o):h'.SetOf (Qi prog w) a S m:=by
 obtain⟨o,es,ep,t,ho,rest⟩:=z;exact⟨o,es,ep,t,e o ho,rest⟩
theorem bFz (W:WalksS prog w A.in1 I fp wr G n P St)(S:Addr)(hSf:S∉fp)(vs:List Str)(hn:vs.length=n)(hval: ∀i v,P i v->∃t,v= .str (vs.getD i Jz) t)(hb:n+1<scanBound):
  ∀(k i:Nat) (s:Qf),n-i=k->i<=n->St i s->s.heap.SetOf (Qi prog w) S (fun k=>(aDh (vs.take i)).contains k) (aDh (vs.take i)).length->aJ3 w s.heap S->
   (∀s',Moved (S::wr) G s s'->s'.heap.SetOf (Qi prog w) S (fun k=>(aDh vs).contains k) (aDh vs).length->aJ3 w s'.heap S->R (.ok (.ret .none)) s')->
   codeAny (Qt prog w) A (.builtin "set.update.loop" ⟨[.ref S,.ref I],[]⟩) R s:=by
 have nw:S∉wr:=fun z=>hSf (W.sub _ z)
 have up: ∀b∈wr,b∈S::wr:=fun b q=>Qr _ q
 intro k
 induction k with
 | zero=>
  intro i s hk hi st zS zT q;have ei:i=n:=by omega
  subst ei;rw[<-hn,List.take_length] at zS;refine Ym Wi ?_;rw[Yj J4 _];show Qp _ A.in1 (Jx (.ref I)>>=_) _ _ s;refine Qa (W.done s _ _ st fun s' m=> ?_);exact Qe (q s' (m.mono up) (aF0 zS fun o e=>m.heap S o nw e) (aM5 zT fun o e=>m.heap S o nw e))
 | succ k ih=>
  intro i s hk hi st zS zT q;have lt:i<n:=by omega
  refine Ym Wi ?_;rw[Yj J4 _];show Qp _ A.in1 (Jx (.ref I)>>=_) _ _ s;refine Qa (W.item i s _ _ lt st fun v s' hP st' m=> ?_);obtain⟨t,rfl⟩:=hval i v hP;have zS':=aF0 zS fun o e=>m.heap S o nw e
  have zT':=aM5 zT fun o e=>m.heap S o nw e
  show Qp _ A.in1 (holding [Jk (vs.getD i Jz) t] (setAdd S (.str (vs.getD i Jz) t))>>=_) _ _ s';refine Qa (Yh ?_);unfold setAdd;have key:(Qi prog w).is (vs.getD i Jz) (.str (vs.getD i Jz) t)=true:=by simp[Qi,Value.isStrOf]
  refine Yh (Qa ((Qi prog w).pyHash key ?_));have room:(aDh (vs.take i)).length+1<scanBound:=by
   have:=aRq (vs.take i);rw[Yv] at this;omega
  refine aYg (s:={s' with toks:=s'.toks+1}) zS' zT' room fun h' sb z2 zt2=> ?_
  have es:aDh (vs.take (i+1))=aG0 (aDh (vs.take i)) (vs.getD i Jz):=by
   have hlt:i<vs.length:=by omega
   rw[<-bCt,List.take_succ,Qj hlt,Q0,Qj hlt];rfl
  have z3:h'.SetOf (Qi prog w) S (fun k=>(aDh (vs.take (i+1))).contains k) (aDh (vs.take (i+1))).length:=
   aFz (σ:=[]) z2 (fun k'=>by rw[es,aM3]) (by rw[es,aH6])
  refine Qe ⟨plainId_quiet J4 _,ih (i+1) _ (by omega) lt (W.frame _ s' _ _ st' (J2 _) fun b hb' o e=> ?_) z3 zt2 fun s'' m'' z'' bVm=> ?_⟩
  ·rw[sb.2 b (fun z:b=S=>hSf (by rw[<-z];exact hb'))];exact e
  ·refine q s'' (Moved.trans W.gtrans ((m.mono up).then_heap (J2 _) fun b o hb' e=> ?_) m'') z'' bVm
   rw[sb.2 b (fun z:b=S=>hb' (by rw[z];exact Qm))];exact e
end
def aZj (w:Zb):Bool:= !w.params.followText "set-order"
abbrev aSw (led:Bool):Obj:={cls:= .type "set",dict:=none,data:= .set #[] 0 (.fresh 0 0 led)}
theorem sub_tuple_set:isSubtype (.type "tuple") (.type "set")=pure false:=by rw[isSubtype_type];kernel_rfl
theorem sub_tuple_frozenset:isSubtype (.type "tuple") (.type "frozenset")=pure false:=by rw[isSubtype_type];kernel_rfl
theorem aWn {w:Zb}{h:Heap}{a:Addr}(e:h.get? a=some (aSw (aZj w))):aJ3 w h a:=by
 refine⟨_,e,#[],0,_,rfl,?_,.inl rfl⟩;show _\/aZj w=true;unfold aZj;cases w.params.followText "set-order"<;>simp
section
variable {prog:Qx}{w:Zb}{A:Ze}{E:Qd->Qf->Prop}{s:Qf}
theorem aT1 (a:Qd){Q₁:Qd->Qf->Prop}(h:Q₁ (.ref s.heap.objs.size) {s with heap:=s.heap.push (aSw (aZj w))}):
  codeAny (Qt prog w) A (.call (.builtin "set.__new__") ⟨[.type "set",a],[]⟩) (wants Q₁ E) s:=by
 refine codeAny_of_tree (show Qp _ A.in1 (do checkBuiltinCall "set.__new__" ⟨[.type "set",a],[]⟩;again (.builtin "set.__new__" ⟨[.type "set",a],[]⟩)) _ _ s from ?_);refine Qa (wpAny_of_eq (F.newCall_set_1 a) (Qe ⟨plainId_quiet F.plain_set_new _,Ym F.entry_set_new ?_⟩));rw[Yj F.plain_set_new _];unfold Builtin.«set.__new__» Builtin.Frozenset.newClass;have hsub:=sub_set_self;obtain⟨hp,g,d,tk,os⟩:=s
 dsimp only
 wp_walk
 refine Yw (Qe ?_)
 dsimp only
 simp only[newObj];exact Qa (wpAny_alloc (Qe (Qe h)))
theorem bF2 {l:Addr}{items:Array Qd}{T:String}{o:Obj}{nn:Nat}{Q:Qd->Qf->Prop}(hT:T="list"\/T="tuple")(hh:A.handled=none)(ho:s.heap.get? l=some o)(hc:o.cls= .type T)(hd:o.data= .seq items nn)
  (h: ∀(ob:Obj) (St:Nat->Heap->Prop),(∀A',A'.handled=none->Walks prog w A' s.heap.objs.size [s.heap.objs.size,l] [s.heap.objs.size] items.size (fun i v=>items[i]? =some v) St)->St 0 (s.heap.push ob)->Q (.ref s.heap.objs.size) {s with heap:=s.heap.push ob}):
  Qp (Qt prog w) A (pyIter (.ref l)) Q E s:=by
 have lt:l<s.heap.objs.size:=Qn ho;rcases hT with rfl | rfl
 ·have hl:s.heap.IsList l items:=⟨o,ho,hc,nn,hd⟩
  exact wpAny_pyIter_list hl (h _ _ (fun A' hA=>Walks.list hA _ l (Qz lt) items) ⟨⟨_,Ql _ rfl,rfl,rfl⟩,hl.push _⟩)
 ·have hl:s.heap.IsTuple l items:=⟨o,ho,hc,nn,hd⟩
  exact wpAny_pyIter_tuple hl (h _ _ (fun A' hA=>Walks.tuple hA _ l (Qz lt) items) ⟨⟨_,Ql _ rfl,rfl,rfl⟩,hl.push _⟩)
theorem aT6 {l:Addr}{items:Array Qd}{T:String}{o:Obj}{nn:Nat}{vs:List Str}{Q:Qd->Qf->Prop}(hT:T="list"\/T="tuple")(hh:A.handled=none)(ho:s.heap.get? l=some o)(hc:o.cls= .type T)(hd:o.data= .seq items nn)
  (hv: ∀(i:Nat) (v:Qd),items[i]? =some v->∃t,v=Jk (vs.getD i Jz) t) (hn:vs.length=items.size) (hb:items.size+1<scanBound)
  (h: ∀(h':Heap) (tk:Nat),h'.SetOf (Qi prog w) s.heap.objs.size (fun k=>(aDh vs).contains k) (aDh vs).length->aJ3 w h' s.heap.objs.size->(∀b u,s.heap.get? b=some u->h'.get? b=some u)->Q (.ref s.heap.objs.size) {s with heap:=h',toks:=tk}):
  Qp (Qt prog w) A (call (.type "set") [.ref l]) Q E s:=by
 obtain⟨c,tl,hmro⟩:=F.called_set.mro;have hmade:=F.called_set.made;have hsub:=F.called_set.sub;have lt:l<s.heap.objs.size:=Qn ho;refine wpAny_call (codeAny_of_tree ?_);show Qp _ _ (callAny (.type "set") _) _ _ _;refine Qe ⟨Code.quiet_builtin _ (by decide+kernel),Ym F.entry_type_call ?_⟩;rw[Around.under_plain (weight_type_call_type "set" [.ref l] []) rfl];have h1:=F.called_set.notType;have h2:=F.called_set.canCreate;have hct:=F.typeCall_set_1 (.ref l)
 repeat (any_goals (first | assumption | wp_step))
 refine codeAny_mono (aT1 (.ref l) (E:=E) (Q₁:=fun obj s₁=> ∃led:Bool,led=aZj w/\obj= .ref s.heap.objs.size/\s₁={s with heap:=s.heap.push (aSw led)}) ⟨_,rfl,rfl,rfl⟩) fun r s₁ hr=> ?_
 cases r with
 | error e=>exact hr
 | ok fl=>
  cases fl with
  | ret obj=>
   obtain⟨led,bNu,rfl,rfl⟩:=hr;have zS:(s.heap.push (aSw led)).get? s.heap.objs.size=some (aSw led):=Ql _ rfl;have tS:Shared.TypeIs {s with heap:=s.heap.push (aSw led)} (.ref s.heap.objs.size) "set":=⟨_,zS,rfl⟩;have hli:=F.called_set.init.lookup;have hbi:=F.called_set.init.bind (.ref s.heap.objs.size)
   repeat (any_goals (first | assumption | wp_step))
   refine codeAny_mono (codeAny_call_builtin (R:=wants (fun r s₂=>r= .none/\∃h' tk,s₂={s with heap:=h',toks:=tk}/\h'.SetOf (Qi prog w) s.heap.objs.size (fun k=>(aDh vs).contains k) (aDh vs).length/\aJ3 w h' s.heap.objs.size/\
     (∀b u,s.heap.get? b=some u->h'.get? b=some u)) E) F.called_set.init.plain F.entry_set_init (check_set_init_1 tS ?_)) fun r₂ s₂ hr₂=> ?_
   ·have ho':(s.heap.push (aSw led)).get? l=some o:=Qb _ ho
    have tL:Shared.TypeIs {s with heap:=s.heap.push (aSw led)} (.ref l) T:=⟨o,ho',hc⟩;have ns:isSubtype (.type T) (.type "set")=pure false:=by rcases hT with rfl | rfl<;>first | exact F.sub_list_set | exact sub_tuple_set
    have nf:isSubtype (.type T) (.type "frozenset")=pure false:=by rcases hT with rfl | rfl<;>first | exact F.sub_list_frozenset | exact sub_tuple_frozenset
    have nd:(Jd T==Jd "dict")=false:=by rcases hT with rfl | rfl<;>decide
    unfold Builtin.«set.__init__» noKeywords Builtin.Frozenset.updateFrom;generalize hPI:pyIter=PI
    wp_walk
    subst hPI;refine bF2 (A:=A.in1.in1) hT (by simp[hh]) ho' hc hd fun ob St W st0=> ?_
    refine Qa (wpAny_runValue ?_);have sz:(s.heap.push (aSw led)).objs.size=s.heap.objs.size+1:=Z2 _ _;have apart:s.heap.objs.size∉[(s.heap.push (aSw led)).objs.size,l]:=by
     rw[sz];simp only[Zt,Zf,or_false,not_or];exact⟨by omega,Yc lt⟩
    refine bFz ((W _ (by simp[hh])).toS) s.heap.objs.size apart vs hn (fun i v q=>hv i v q) hb (items.size-0) 0 _ (by omega) (Zy _) st0 ?_ ?_ fun s' m z' zt'=> ?_
    ·exact aFz (σ:=[]) (τ:=[]) ((W3 (knd:=Qi prog w) led).setOf (Qb _ zS) (by decide)) (fun _=>rfl) rfl
    ·exact aWn (by rw[<-bNu];exact Qb _ zS)
    ·obtain⟨h',g',d',tk',os'⟩:=s'
     have eg:g'=s.gens:=m.gens;have ed:d'=s.drawn:=m.drawn;have eo:os'=s.os:=m.os;subst eg ed eo;refine Qe (show Qp _ _ (ret Zn) _ _ _ from Qe ⟨rfl,h',tk',rfl,z',zt',fun b u q=> ?_⟩);have lb:=Qn q;refine m.heap b u ?_ (Qb _ (Qb _ q));rw[sz];simp only[Zt,Zf,or_false,not_or];have lb':b<s.heap.objs.size:=lb;exact⟨Qz lb',Qz (Ul lb')⟩
   ·cases r₂ with
    | error e=>exact hr₂
    | ok fl₂=>
     cases fl₂ with
     | ret r=>
      obtain⟨rfl,h',tk,rfl,z',zt',k'⟩:=hr₂
      repeat (any_goals (first | assumption | wp_step))
      exact h _ _ z' zt' k'
     | _=>exact hr₂.elim
  | _=>exact hr.elim
end
theorem aBj:Vp "set_iterator" "__next__" "set_iterator.__next__":= .of (owner:="set_iterator") (n:="__next__") (by rw[typeLookup_type,builtinLookup_eq_fast];kernel_rfl) (by decide+kernel) (by decide+kernel) (by decide+kernel) (by first | exact .inl (by decide+kernel) | exact .inr (by decide+kernel)) (by rw[isSubtype_type];kernel_rfl)
theorem aLk:Vp "set_iterator" "__iter__" "set_iterator.__iter__":= .of (owner:="set_iterator") (n:="__iter__") (by rw[typeLookup_type,builtinLookup_eq_fast];kernel_rfl) (by decide+kernel) (by decide+kernel) (by decide+kernel) (by first | exact .inl (by decide+kernel) | exact .inr (by decide+kernel)) (by rw[isSubtype_type];kernel_rfl)
theorem aEv:entryFor table "set_iterator.__next__"=some Builtin.«set_iterator.__next__»:=entryFor_of_tree (by kernel_rfl)
theorem aRx:entryFor table "set_iterator.__iter__"=some Builtin.«dict_keyiterator.__iter__»:=entryFor_alias (id':="dict_keyiterator.__iter__") (by kernel_rfl) rfl (by decide+kernel) (by kernel_rfl)
theorem aFj (a:Qd):argsOk "set_iterator.__next__" ⟨[a],[]⟩:=by unfold argsOk;kernel_rfl
theorem aUd (a:Qd):argsOk "set_iterator.__iter__" ⟨[a],[]⟩:=by unfold argsOk;kernel_rfl
theorem aPk:entryFor table "set.__iter__"=some Builtin.«frozenset.__iter__»:=entryFor_alias (id':="frozenset.__iter__") (by kernel_rfl) rfl (by decide+kernel) (by kernel_rfl)
theorem aR8 (a:Qd):argsOk "set.__iter__" ⟨[a],[]⟩:=by unfold argsOk;kernel_rfl
section
variable {prog:Qx}{w:Zb}{A:Ze}{E:Qd->Qf->Prop}{s:Qf}
theorem aQj {α:Type}{l:List α}{i:Nat}(h:i<l.length):(l[i]::l.eraseIdx i).Perm l:=by
 rw[List.eraseIdx_eq_take_drop_succ];have e:l.take i++l[i]::l.drop (i+1)=l:=by rw[<-Wa h,Ws]
 have p:= @Ve α l[i] (l.take i) (l.drop (i+1));rw[e] at p;exact p.symm
theorem aSf {src:Source}{n:Nat}{Q:Nat->Qf->Prop}(h0:n≠0)(h: ∀i,i<n->∀d,Q i {s with drawn:=d}):Qp (Qt prog w) A (choose src n) Q E s:=by
 intro Γ p hΓ;unfold choose;rw[Sem.wp_choose];refine⟨h0,?_⟩;exact h _ (Nat.mod_lt _ (Nat.pos_of_ne_zero h0)) _
theorem aZ4 {α:Type}(n:Nat): ∀(xs:List α) (s:Qf) (Q:List α->Qf->Prop),xs.length=n->(∀ys d,ys.Perm xs->Q ys {s with drawn:=d})->Qp (Qt prog w) A (drawOrder n xs) Q E s:=by
 induction n with
 | zero=>
  intro xs s Q hn h;cases xs with
  | cons _ _=>rw[Qk] at hn;exact absurd hn (Nat.succ_ne_zero _)
  | nil=>
   unfold drawOrder;exact Qe (h [] s.drawn (List.Perm.refl _))
 | succ n ih=>
  intro xs s Q hn h;cases xs with
  | nil=>exact absurd hn.symm (Nat.succ_ne_zero _)
  | cons x xs=>
   unfold drawOrder;refine Qa (aSf (by simp) fun i hi d=> ?_);rw[Qj hi]
   dsimp only
   refine Qa (ih ((x::xs).eraseIdx i) _ _ ?_ fun ys d' hp=>Qe ?_)
   ·rw[Vv hi];omega
   ·refine h _ d' ?_
    exact (List.Perm.cons _ hp).trans (aQj hi)
theorem aS6 {α:Type}(next:Nat->Nat): ∀(n k:Nat) (left:List α) (out:Array α),left.length=n->(pickOrder.go next n k left out).toList.Perm (out.toList++left)
 | 0,k,[],out,_=>by unfold pickOrder.go;simp
 | n+1,k,x::left,out,hn=>by
  unfold pickOrder.go;have hl:next k%(x::left).length<(x::left).length:=Nat.mod_lt _ (by simp);rw[Qj hl]
  dsimp only
  refine (aS6 next n (k+1) _ _ ?_).trans ?_
  ·rw[Vv hl];omega
  ·rw[W5,Z1]
   exact List.Perm.append_left _ (aQj hl)
theorem aH4 {α:Type}(next:Nat->Nat)(es:Array α):(pickOrder next es).toList.Perm es.toList:=by
 have:=aS6 next es.size 0 es.toList #[] (by simp)
 simpa[pickOrder] using this
def bAg (h:Heap)(it:Addr)(first:Qd)(i:Int)(a:Addr)(n ep:Int):Prop:= ∃o,h.get? it=some o/\o.cls= .type "set_iterator"/\o.data= .fields #[first,Z7 i,.ref a,Z7 n,Z7 ep]
def aOt (h:Heap)(a:Addr)(es:Array (Int×Qd))(ep:Nat)(t:Yq):Prop:= ∃o,h.get? a=some o/\o.data= .set es ep t
theorem aUv {it a:Addr}{first:Qd}{i n ep:Int}{Q:Qd->Qf->Prop}(hi:bAg s.heap it first i a n ep)(q:Q (.ref it) s):Qp (Qt prog w) A (pyIter (.ref it)) Q E s:=by
 obtain⟨o,ho,hc,hd⟩:=hi;have hT:s.TypeIs (.ref it) "set_iterator":=⟨o,ho,hc⟩;refine wpAny_pyIter_slot hT aLk (Za aLk hT aRx ?_ (aUd _));exact Qe ⟨_,rfl,"set_iterator",_,hT,aBj.lookup,q⟩
theorem aQ0 {it a tp:Addr}{π:List Nat}{i:Nat}{es:Array (Int×Qd)}{ep:Nat}{t:Yq}{k:Nat}{hv:Int}{x:Qd}{Q:Option Qd->Qf->Prop}(hi:bAg s.heap it (.ref tp) i a es.size ep)(hs:aOt s.heap a es ep t)(hf:t.fits es.size=true)
  (htp:IsTup s.heap tp (π.map fun (j:Nat)=>Z7 j).toArray) (hk:π[i]? =some k) (hx:es[k]? =some (hv,x))
  (q: ∀h',bAg h' it (.ref tp) ((i:Int)+1) a es.size ep->Z3 it s.heap h'->Q (some x) {s with heap:=h'}):Qp (Qt prog w) A (Jx (.ref it)) Q E s:=by
 obtain⟨o,ho,hc,hd⟩:=id hi;obtain⟨oa,hoa,hda⟩:=id hs;obtain⟨ot,hot,hct,nt,hdt⟩:=id htp;have hT:s.TypeIs (.ref it) "set_iterator":=⟨o,ho,hc⟩;have hpl:(π.map fun (j:Nat)=>Z7 j).toArray[i]? =some (Z7 k):=by simp[hk]
 unfold Jx;refine Qa (wpAny_attempt (Zm (name:=Yz "__next__") hT aBj (Za aBj hT aEv ?_ (aFj _))));unfold Builtin.«set_iterator.__next__»;obtain⟨c1,d1,x1,l1⟩:=o
 dsimp only at hc hd
 subst hc hd
 wp_walk using Zq ho,Y2 hoa hda hf,Yk hoa hda hf,Jg hot hdt
 rw[Zc,hpl];show Qp _ _ (setNextDrawn a (k:Int).toNat (ep:Int).toNat>>=_) _ _ _;rw[Zc,Zc];unfold setNextDrawn;refine Qa (Qa (Yk hoa hda hf ?_))
 dsimp only
 rw[if_neg (by simp),hx];refine Qe ?_;refine Qa (wpAny_setField ho rfl (by simp) (Qe ⟨x,rfl,Qe (q _ ?_ (Zw ..))⟩));exact⟨_,Yg _ ho (Obj.isFreed_of_fields (Y8 rfl _)),Obj.cls_mapFields ..,by rw[Y8 rfl];simp[Z7]⟩
theorem aSt {it a tp:Addr}{π:List Nat}{es:Array (Int×Qd)}{ep:Nat}{t:Yq}{Q:Option Qd->Qf->Prop}(hh:A.handled=none)(hi:bAg s.heap it (.ref tp) π.length a es.size ep)(hs:aOt s.heap a es ep t)(hf:t.fits es.size=true)
  (htp:IsTup s.heap tp (π.map fun (j:Nat)=>Z7 j).toArray) (q: ∀h' tk,Heap.ExtBut it s.heap h'->Q none {s with heap:=h',toks:=tk}):Qp (Qt prog w) A (Jx (.ref it)) Q E s:=by
 obtain⟨o,ho,hc,hd⟩:=id hi;obtain⟨oa,hoa,hda⟩:=id hs;obtain⟨ot,hot,hct,nt,hdt⟩:=id htp;have hT:s.TypeIs (.ref it) "set_iterator":=⟨o,ho,hc⟩;have hpl:(π.map fun (j:Nat)=>Z7 j).toArray[π.length]? =none:=by simp
 unfold Jx;refine Qa (wpAny_attempt (Zm (name:=Yz "__next__") hT aBj (Za aBj hT aEv ?_ (aFj _))));unfold Builtin.«set_iterator.__next__»;obtain⟨c1,d1,x1,l1⟩:=o
 dsimp only at hc hd
 subst hc hd
 wp_walk using Zq ho,Y2 hoa hda hf,Yk hoa hda hf,Jg hot hdt
 rw[Zc,hpl]
 wp_walk using Zq ho
 simp only[raiseNew];refine Qa (wpAny_handled ?_);rw[show A.in1.handled=none by simp[hh]];refine Qa (Qe (wpAny_throw ?_));refine Qa (wpAny_isInstance (T:="StopIteration") (b:=true) ⟨_,Ql _ rfl,rfl⟩ isSubtype_stop (Qe (q _ _ ?_)));exact (((Zw ..).trans (Zw ..)).extBut.push _).push _
theorem bBd {it a:Addr}{slot i nx:Nat}{es:Array (Int×Qd)}{ep:Nat}{t:Yq}{x:Qd}{Q:Option Qd->Qf->Prop}(hi:bAg s.heap it (Z7 slot) i a es.size ep)(hs:aOt s.heap a es ep t)(hf:t.fits es.size=true)
  (hn: ∀(A:Ze) (E:Qd->Qf->Prop) (Q:Option (Qd×Nat)->Qf->Prop),Q (some (x,nx)) s->Qp (Qt prog w) A (setNext a slot i ep) Q E s)
  (q: ∀h',bAg h' it (Z7 nx) ((i:Int)+1) a es.size ep->Z3 it s.heap h'->Q (some x) {s with heap:=h'}):Qp (Qt prog w) A (Jx (.ref it)) Q E s:=by
 obtain⟨o,ho,hc,hd⟩:=id hi;obtain⟨oa,hoa,hda⟩:=id hs;have hT:s.TypeIs (.ref it) "set_iterator":=⟨o,ho,hc⟩;unfold Jx;refine Qa (wpAny_attempt (Zm (name:=Yz "__next__") hT aBj (Za aBj hT aEv ?_ (aFj _))));unfold Builtin.«set_iterator.__next__»;obtain⟨c1,d1,x1,l1⟩:=o
 dsimp only at hc hd
 subst hc hd;generalize hSN:setNext=SN
 wp_walk using Zq ho,Y2 hoa hda hf
 subst hSN;rw[Zc,Zc,Zc];refine hn _ _ _ ?_
 dsimp only
 refine Qa (wpAny_setField ho rfl (by simp) ?_);have ho2:=Yg (Obj.mapFields fun z=>z.setIfInBounds 0 (Z7 nx)) ho (Obj.isFreed_of_fields (Y8 rfl _));have hd2:(Obj.mapFields (fun z=>z.setIfInBounds 0 (Z7 nx)) {cls:=Jd "set_iterator",dict:=d1,data:=Data.fields #[Z7 slot,Z7 i,Q1 a,Z7 es.size,Z7 ep],slots:=l1}).data= .fields #[Z7 nx,Z7 i,Q1 a,Z7 es.size,Z7 ep]:=by
  rw[Y8 rfl];simp
 refine Qa (wpAny_setField ho2 hd2 (by simp) (Qe ⟨x,rfl,Qe (q _ ?_ ((Zw ..).trans (Zw ..)))⟩));exact⟨_,Yg _ ho2 (Obj.isFreed_of_fields (Y8 hd2 _)),(Obj.cls_mapFields ..).trans (Obj.cls_mapFields ..),by rw[Y8 hd2];simp[Z7]⟩
theorem bIu {it a:Addr}{slot i:Nat}{es:Array (Int×Qd)}{ep:Nat}{t:Yq}{Q:Option Qd->Qf->Prop}(hh:A.handled=none)(hi:bAg s.heap it (Z7 slot) i a es.size ep)(hs:aOt s.heap a es ep t)(hf:t.fits es.size=true)
  (hn: ∀(A:Ze) (E:Qd->Qf->Prop) (Q:Option (Qd×Nat)->Qf->Prop),Q none s->Qp (Qt prog w) A (setNext a slot i ep) Q E s)
  (q: ∀h' tk,Heap.ExtBut it s.heap h'->Q none {s with heap:=h',toks:=tk}):Qp (Qt prog w) A (Jx (.ref it)) Q E s:=by
 obtain⟨o,ho,hc,hd⟩:=id hi;obtain⟨oa,hoa,hda⟩:=id hs;have hT:s.TypeIs (.ref it) "set_iterator":=⟨o,ho,hc⟩;unfold Jx;refine Qa (wpAny_attempt (Zm (name:=Yz "__next__") hT aBj (Za aBj hT aEv ?_ (aFj _))));unfold Builtin.«set_iterator.__next__»;obtain⟨c1,d1,x1,l1⟩:=o
 dsimp only at hc hd
 subst hc hd;generalize hSN:setNext=SN
 wp_walk using Zq ho,Y2 hoa hda hf
 subst hSN;rw[Zc,Zc,Zc];refine hn _ _ _ ?_
 dsimp only
 wp_walk using Zq ho
 simp only[raiseNew];refine Qa (wpAny_handled ?_);rw[show A.in1.handled=none by simp[hh]];refine Qa (Qe (wpAny_throw ?_));refine Qa (wpAny_isInstance (T:="StopIteration") (b:=true) ⟨_,Ql _ rfl,rfl⟩ isSubtype_stop (Qe (q _ _ ?_)));exact ((Zw ..).extBut.push _).push _
theorem aTi {a:Addr}{slot i:Nat}{es:Array (Int×Qd)}{ep:Nat}{t:Yq}{Q:Option (Qd×Nat)->Qf->Prop}(hb:w.params.followText "set-order"=true)(hs:aOt s.heap a es ep t)(hf:t.fits es.size=true)
  (q:Q (((pickOrder (w.params.setOrder a ep) es)[i]?).map fun e=>(e.2,slot)) s):Qp (Qt prog w) A (setNext a slot i ep) Q E s:=by
 obtain⟨oa,hoa,hda⟩:=hs;unfold setNext setsByText;refine Qa (Yk hoa hda hf (Qa (Qa (Yw (Qe ?_)))))
 dsimp only
 rw[if_pos (show (Qt prog w).w.params.followText "set-order"=true from hb),if_neg (by simp)];unfold setWalk setsByText;refine Qa (Qa (Yk hoa hda hf (Qa (Qa (Yw (Qe ?_))))))
 dsimp only
 rw[if_pos (show (Qt prog w).w.params.followText "set-order"=true from hb)];refine Qa (Yw (Qe (Qe q)))
theorem aXn {a:Addr}{slot i:Nat}{es:Array (Int×Qd)}{ep:Nat}{t:Yq}{Q:Option (Qd×Nat)->Qf->Prop}(hb:w.params.followText "set-order"=false)(hl:t.led=true)(h1:es.size<=1)(hs:aOt s.heap a es ep t)(hf:t.fits es.size=true)
  (q:Q (match es[SetTable.below t.place slot]?,t.place[SetTable.below t.place slot]? with | some (_,x),some j=>some (x,j+1) | _,_=>none) s):Qp (Qt prog w) A (setNext a slot i ep) Q E s:=by
 obtain⟨oa,hoa,hda⟩:=hs;unfold setNext setsByText;refine Qa (Yk hoa hda hf (Qa (Qa (Yw (Qe ?_)))))
 dsimp only
 rw[if_neg (show ¬(Qt prog w).w.params.followText "set-order"=true by rw[show (Qt prog w).w.params.followText "set-order"=false from hb];decide)];have hd: ∀b:Bool,(b=true->False)->∀(x y:Sem (Option (Qd×Nat))),Qp (Qt prog w) A y Q E s->Qp (Qt prog w) A (if b=true then x else y) Q E s:=fun b hb x y hy=>by rw[if_neg hb];exact hy
 refine hd _ ?_ _ _ ?_
 ·intro h
  have h2:(!t.plain&&decide (es.size>1))=true:=h;simp at h2;omega
 ·refine Qa ?_
  show Qp _ _ (if (!t.led&& !es.isEmpty)=true then unsupported _ else pure ()) _ _ _;rw[if_neg (by simp[hl])];exact Qe (Qe q)
end
section
variable {prog:Qx}{w:Zb}{A:Ze}{E:Qd->Qf->Prop}{s:Qf}
theorem bC5 {h h':Heap}{it a:Addr}{f:Qd}{i n ep:Int}(hi:bAg h it f i a n ep)(e: ∀o,h.get? it=some o->h'.get? it=some o):bAg h' it f i a n ep:=let ⟨o,g,r⟩:=hi;⟨o,e o g,r⟩
theorem aQb {h h':Heap}{a:Addr}{es:Array (Int×Qd)}{ep:Nat}{t:Yq}(hi:aOt h a es ep t)(e: ∀o,h.get? a=some o->h'.get? a=some o):aOt h' a es ep t:=let ⟨o,g,r⟩:=hi;⟨o,e o g,r⟩
theorem bJi {h h':Heap}{a:Addr}{xs:Array Qd}(hi:IsTup h a xs)(e: ∀o,h.get? a=some o->h'.get? a=some o):IsTup h' a xs:=let ⟨o,g,r⟩:=hi;⟨o,e o g,r⟩
theorem Walks.bBf (hh:A.handled=none){it a tp:Addr}(na:a≠it)(nt:tp≠it){π:List Nat}{es:Array (Int×Qd)}{ep:Nat}{t:Yq}(hf:t.fits es.size=true)(hl:π.length=es.size)(hp: ∀k∈π,k<es.size):
  Walks prog w A it [it,a,tp] [it] es.size (fun i v=>(π.map fun k=>((es[k]?).map (·.2)).getD .none)[i]? =some v) (fun i h=>bAg h it (.ref tp) (i:Nat) a es.size ep/\aOt h a es ep t/\IsTup h tp (π.map fun (j:Nat)=>Z7 j).toArray) where
 sub:=fun b hb=>by simp at hb;simp[hb]
 frame:=fun i h h' st hk=>⟨bC5 st.1 (hk it (by simp)),aQb st.2.1 (hk a (by simp)),bJi st.2.2 (hk tp (by simp))⟩
 item:=fun i s Q E hi st hQ=>by
  have hi':i<π.length:=by omega
  have hk:π[i]? =some π[i]:=Qj hi';have hj:π[i]<es.size:=hp _ (Y7 hi');have hx:es[π[i]]? =some (es[π[i]].1,es[π[i]].2):=by rw[Jp hj]
  refine aQ0 st.1 st.2.1 hf st.2.2 hk hx fun h' r sb=>hQ _ h' s.toks ?_ ⟨?_,aQb st.2.1 (fun o=>sb.extBut a o na),bJi st.2.2 (fun o=>sb.extBut tp o nt)⟩ fun b o hb e=>sb.extBut b o (fun z=>hb (by simp[z])) e
  ·simp[hk,hx]
  ·simpa using r
 done:=fun s Q E st hQ=>by
  refine aSt hh (π:=π) (by rw[hl];exact st.1) st.2.1 hf st.2.2 fun h' tk x=>hQ h' tk fun b o hb q=>x b o (fun z=>hb (by simp[z])) q
 self:=fun _ _ _ _ st hQ=>aUv st.1 hQ
theorem Walks.bFy (hh:A.handled=none){it a:Addr}(na:a≠it){es:Array (Int×Qd)}{ep:Nat}{t:Yq}(hf:t.fits es.size=true)(hb:w.params.followText "set-order"=true):
  Walks prog w A it [it,a] [it] es.size (fun i v=>((pickOrder (w.params.setOrder a ep) es).toList.map (·.2))[i]? =some v) (fun i h=>bAg h it (Z7 (0:Nat)) (i:Nat) a es.size ep/\aOt h a es ep t) where
 sub:=fun b hb=>by simp at hb;simp[hb]
 frame:=fun i h h' st hk=>⟨bC5 st.1 (hk it (by simp)),aQb st.2 (hk a (by simp))⟩
 item:=fun i s Q E hi st hQ=>by
  have hsz:(pickOrder (w.params.setOrder a ep) es).size=es.size:=by
   have:=(aH4 (w.params.setOrder a ep) es).length_eq
   simpa using this
  have hx:(pickOrder (w.params.setOrder a ep) es)[i]? =some ((pickOrder (w.params.setOrder a ep) es)[i]'(by omega)):=Jp (by omega);refine bBd (nx:=0) st.1 st.2 hf (fun A E Q q=>aTi hb st.2 hf (by rw[hx];exact q)) fun h' r sb=>hQ _ h' s.toks ?_ ⟨?_,aQb st.2 (fun o=>sb.extBut a o na)⟩ fun b o hb e=>sb.extBut b o (fun z=>hb (by simp[z])) e
  ·simp[hx]
  ·simpa using r
 done:=fun s Q E st hQ=>by
  have hsz:(pickOrder (w.params.setOrder a ep) es).size=es.size:=by
   have:=(aH4 (w.params.setOrder a ep) es).length_eq
   simpa using this
  have hx:(pickOrder (w.params.setOrder a ep) es)[es.size]? =none:=Wn (by omega);refine bIu hh st.1 st.2 hf (fun A E Q q=>aTi hb st.2 hf (by rw[hx];exact q)) fun h' tk x=>hQ h' tk fun b o hb q=>x b o (fun z=>hb (by simp[z])) q
 self:=fun _ _ _ _ st hQ=>aUv st.1 hQ
theorem aTw {t:Yq}{n:Nat}(h:t.fits n=true):t.place.size=n:=by
 simp only[SetTable.fits,Zg,beq_iff_eq,decide_eq_true_eq] at h;exact h.1
theorem bNj {xs:Array Nat}(h:xs.size<=1):SetTable.below xs 0=0:=by
 obtain⟨l⟩:=xs
 match l,h with
 | [],_=>rfl
 | [x],_=>simp[SetTable.below,SetTable.below.go]
theorem bNi {xs:Array Nat}{x:Nat}(h:xs= #[x]):SetTable.below xs (x+1)=1:=by subst h;simp[SetTable.below,SetTable.below.go]
theorem Walks.bKn (hh:A.handled=none){it a:Addr}(na:a≠it){es:Array (Int×Qd)}{ep:Nat}{t:Yq}(hf:t.fits es.size=true)(hb:w.params.followText "set-order"=false)(hl:t.led=true)(h1:es.size<=1):
  Walks prog w A it [it,a] [it] es.size (fun i v=>(es.toList.map (·.2))[i]? =some v) (fun i h=>(∃slot:Nat,bAg h it (Z7 slot) (i:Nat) a es.size ep/\SetTable.below t.place slot=i)/\aOt h a es ep t) where
 sub:=fun b hb=>by simp at hb;simp[hb]
 frame:=fun i h h' st hk=>⟨let ⟨c,x,y⟩:=st.1;⟨c,bC5 x (hk it (by simp)),y⟩,aQb st.2 (hk a (by simp))⟩
 item:=fun i s Q E hi st hQ=>by
  obtain⟨⟨c,x,y⟩,z⟩:=st;have hps:=aTw hf;have e1:es.size=1:=by omega
  have i0:i=0:=by omega
  subst i0;have hx:es[0]? =some (es[0].1,es[0].2):=by rw[Jp hi]
  have hj:t.place[0]? =some t.place[0]:=Jp (by omega);refine bBd (nx:=t.place[0]+1) x z hf (fun A E Q q=>aXn hb hl h1 z hf (by rw[y,hx,hj];exact q)) fun h' r sb=>hQ _ h' s.toks ?_ ⟨⟨t.place[0]+1,by simpa using r,?_⟩,aQb z (fun o=>sb.extBut a o na)⟩ fun b o hb e=>sb.extBut b o (fun z=>hb (by simp[z])) e
  ·simp[hx]
  ·have ep1:t.place= #[t.place[0]]:=by
    apply Array.ext
    ·simp;omega
    ·intro k k1 k2
     have:k=0:=by omega
     subst this;rfl
   exact bNi ep1
 done:=fun s Q E st hQ=>by
  obtain⟨⟨c,x,y⟩,z⟩:=st;have hx:es[es.size]? =none:=Wn (by omega);refine bIu hh x z hf (fun A E Q q=>aXn hb hl h1 z hf (by rw[y,hx];exact q)) fun h' tk x=>hQ h' tk fun b o hb q=>x b o (fun z=>hb (by simp[z])) q
 self:=fun _ _ _ _ st hQ=>let ⟨_,x,_⟩:=st.1;aUv x hQ
theorem aY2 (es:Array (Int×Qd)):(Zj es.size).map (fun k=>((es[k]?).map (·.2)).getD .none)=es.toList.map (·.2):=by
 apply Uq
 ·simp
 ·intro i h1 h2
  simp at h1;simp[h1]
theorem aVy {α:Type}{b c:Bool}(e:b=c){x y:Sem α}{Q:α->Qf->Prop}(h:Qp (Qt prog w) A (if c=true then x else y) Q E s):Qp (Qt prog w) A (if b=true then x else y) Q E s:=by subst e;exact h
theorem bF0 {a:Addr}{o:Obj}{es:Array (Int×Qd)}{ep:Nat}{t:Yq}{Q:Qd->Qf->Prop}(ho:s.heap.get? a=some o)(hx:o.ExactSet)(hd:o.data= .set es ep t)(hf:t.fits es.size=true)(hz:es.size<=Qy)
  (hw:w.params.followText "set-order"=true\/t.led=true) (hp:es.size=0\/t.plain=false)
  (q: ∀it fp St (vals:List Qd) h' d,(∀B:Ze,B.handled=none->Walks prog w B it fp [it] es.size (fun i v=>vals[i]? =some v) St)->St 0 h'->(∀b∈fp,b=a\/s.heap.objs.size<=b)->vals.Perm (es.toList.map (·.2))->s.heap.objs.size<=it->
   (∀b o,s.heap.get? b=some o->h'.get? b=some o)->Q (.ref it) {s with heap:=h',drawn:=d}):Qp (Qt prog w) A (pyIter (.ref a)) Q E s:=by
 have hT:s.TypeIs (.ref a) "set":=⟨o,ho,hx.1⟩;have lta:=Qn ho;refine wpAny_pyIter_slot hT F.slot_set_iter (Za F.slot_set_iter hT aPk ?_ (aR8 _));unfold Builtin.«frozenset.__iter__»;refine Qa (m:=Builtin.Frozenset.slot0 "__iter__" ⟨[.ref a],[]⟩) (Qe ?_);unfold Builtin.Frozenset.sizeOf;refine Qa (Qa (Y2 ho hd hf (Qe ?_)));unfold setDrawn setsByText;refine Qa (Qa (Yk ho hd hf (Qa (Qa (Yw (Qe (Qe ?_)))))));refine aVy (c:= !w.params.followText "set-order"&&(!t.plain&&decide (es.size>1))) rfl ?_;have tail: ∀(h1:Heap) (d:Drawn) (first:Qd),(∀b o,s.heap.get? b=some o->h1.get? b=some o)->Q (.ref h1.objs.size) {s with heap:=h1.push {cls:= .type "set_iterator",data:= .fields #[first,Z7 (0:Nat),.ref a,Z7 es.size,Z7 ep]},drawn:=d}->
   Qp (Qt prog w) A.in1 (do let e<-setEpoch a;let v<-newFields "set_iterator" [first,Z7 0,.ref a,Z7 es.size,Z7 e];ret v) (fun fin s'=> ∃v,fin=Fin.done (Flow.ret v)/\∃T' r,s'.TypeIs v T'/\typeLookup (Jd T') (Yz "__next__")=pure (some r)/\Q v s') E {s with heap:=h1,drawn:=d}:=by
  intro h1 d first hk q1;refine Qa (wpAny_setEpoch_of (hk _ _ ho) hd hf (Qa (Zx (Qe ⟨_,rfl,"set_iterator",_,⟨_,Ql _ rfl,rfl⟩,aBj.lookup,q1⟩))))
 have isi: ∀(h1:Heap) (first:Qd),bAg (h1.push {cls:= .type "set_iterator",data:= .fields #[first,Z7 (0:Nat),.ref a,Z7 es.size,Z7 ep]}) h1.objs.size first (0:Nat) a es.size ep:=fun h1 first=>⟨_,Ql _ rfl,rfl,rfl⟩
 by_cases hb:w.params.followText "set-order"=true
 ·rw[if_neg (by simp[hb])]
  refine Qa (Qe (tail s.heap s.drawn _ (fun _ _ e=>e) ?_));refine q _ _ _ _ _ s.drawn (fun B hB=>Walks.bFy hB (Qz lta) hf hb) ⟨isi _ _,_,Qb _ ho,hd⟩ ?_ ?_ (Qo _) fun b o e=>Qb _ e
  ·intro b hb2;simp only[Zt,Zf,or_false] at hb2;exact hb2.elim (fun e=> .inr (e▸Qo _)) .inl
  ·exact (aH4 _ es).map _
 ·have hb0:w.params.followText "set-order"=false:=by simpa using hb
  have hl:t.led=true:=hw.resolve_left hb;by_cases h1:es.size<=1
  ·rw[if_neg (by simp;omega)]
   refine Qa (Qe (tail s.heap s.drawn _ (fun _ _ e=>e) ?_));refine q _ _ _ _ _ s.drawn (fun B hB=>Walks.bKn hB (Qz lta) hf hb0 hl h1) ⟨⟨0,isi _ _,bNj (by rw[aTw hf];exact h1)⟩,_,Qb _ ho,hd⟩ ?_ (List.Perm.refl _) (Qo _) fun b o e=>Qb _ e
   intro b hb2;simp only[Zt,Zf,or_false] at hb2;exact hb2.elim (fun e=> .inr (e▸Qo _)) .inl
  ·have hpl:t.plain=false:=hp.resolve_left (by omega)
   rw[if_pos (by simp[hb0,hpl];omega)];refine Qa (aZ4 es.size (Zj es.size) _ _ (by simp) fun π d hπ=> ?_);have hlen:π.length=es.size:=by simpa using hπ.length_eq
   refine Qa (Zx ?_ (by show (π.map _).toArray.size<=Qy;simp;omega));refine tail (s.heap.push _) d _ (fun _ _ e=>Qb _ e) ?_;have lt1:a<(s.heap.push {cls:= .type "tuple",data:= .seq (π.map fun (i:Nat)=>Z7 i).toArray}).objs.size:=by rw[size_push'];exact Ul lta
   refine q _ _ _ _ _ d (fun B hB=>Walks.bBf (tp:=s.heap.objs.size) hB (Qz lt1) (by rw[size_push'];exact Qz (Ur _)) hf hlen (fun k hk=>by simpa using hπ.subset hk)) ⟨isi _ _,⟨_,Qb _ (Qb _ ho),hd⟩,⟨_,Qb _ (Ql _ rfl),rfl,0,rfl⟩⟩ ?_ ?_ (by rw[size_push'];exact J2 _) fun b o e=>Qb _ (Qb _ e)
   ·intro b hb2;simp only[Zt,Zf,or_false] at hb2;rw[size_push'] at hb2;exact hb2.elim (fun e=> .inr (e▸J2 _)) (fun h=>h.elim .inl (fun e=> .inr (e▸Qo _)))
   ·rw[<-aY2];exact hπ.map _
end
section
variable {prog:Qx}{w:Zb}{A:Ze}{E:Qd->Qf->Prop}{s:Qf}
theorem sub_set_self:isSubtype (.type "set") (.type "set")=pure true:=by rw[isSubtype_type];kernel_rfl
theorem aV9 {a:Addr}{o:Obj}{es:Array (Int×Qd)}{ep:Nat}{t:Yq}{Q:List Qd->Qf->Prop}(hh:A.handled=none)(ho:s.heap.get? a=some o)(hx:o.ExactSet)(hd:o.data= .set es ep t)(hf:t.fits es.size=true)(hz:es.size<=Qy)
  (hw:w.params.followText "set-order"=true\/t.led=true) (hp:es.size=0\/t.plain=false)
  (hQ: ∀vals h' tk d,vals.Perm (es.toList.map (·.2))->s.heap.objs.size<=h'.objs.size->(∀b o,s.heap.get? b=some o->h'.get? b=some o)->Q vals {s with heap:=h',toks:=tk,drawn:=d}):Qp (Qt prog w) A (collect (.ref a)) Q E s:=by
 have lta:=Qn ho;have nea:s.heap.objs.size≠a:=Yc lta;have hT: ∀h' d,(h':Heap).get? a=some o->Shared.TypeIs {s with heap:=h',drawn:=d} (.ref a) "set":=fun h' d e=>⟨o,e,hx.1⟩
 generalize hL:({cls:= .type "list",data:= .seq ([]:List Qd).toArray}:Obj)=L;have ho1:(s.heap.push L).get? a=some o:=Qb _ ho;have l1:(s.heap.push L).get? s.heap.objs.size=some L:=Ql _ (by rw[<-hL];rfl);have h1:Builtin.List.listSameRef (.ref s.heap.objs.size) (.ref a)=false:=by simp[Builtin.List.listSameRef,nea]
 unfold collect;refine Qa (wpAny_runValue (Ym F.entry_proto_collect ?_));rw[Yj F.plain_proto_collect _];show Qp _ A.in1 (newList []>>=fun l=>again (.builtin "list.__iadd__" ⟨[l,.ref a],[]⟩)) _ _ s;refine Qa (Zx (Qe ⟨plainId_quiet F.plain_list_iadd _,Ym F.entry_list_iadd ?_⟩));rw[Yj F.plain_list_iadd _];show Qp _ A.in1 (Z0 (.ref s.heap.objs.size) (.ref a) (.ref s.heap.objs.size)) _ _ _;rw[hL];unfold Z0;refine Qa (wpAny_typeOf (hT _ s.drawn ho1) ?_);rw[if_neg (by rw[h1];decide)];refine Qa (bF0 (s:={s with heap:=s.heap.push L}) ho1 hx hd hf hz hw hp fun it fp St vals h2 d W0 st0 hfp hperm hit hk=>Qa (Yh ?_));have ho2:=hk a o ho1;have l2:=hk _ _ l1;unfold Builtin.List.listLengthHint;refine Qa (wpAny_specialOf (hT _ d ho2) F.slot_set_len.lookup ?_);generalize hid:("set.__len__":String)=id0;(fail_if_success (clear hid id0));wp_delta;rw[show splitId id0=some ("set","__len__") from by subst hid;decide+kernel];subst hid;refine Qa (wpAny_isInstance (b:=true) (hT _ d ho2) sub_set_self ?_);rw[if_neg (by decide)];refine aVy (c:=true) ?_ ?_
 ·decide+kernel
 rw[if_pos rfl];refine Qa (wpAny_typeOf (hT _ d ho2) (Qe ?_));refine aVy (c:=true) ?_ ?_
 ·decide+kernel
 rw[if_pos rfl];subst hL;refine Qa (wpAny_rule (Qa ?_));show Qp _ A.in1 (updateSeq s.heap.objs.size (·.push .none)>>=fun _=>updateSeq s.heap.objs.size (·.pop)) _ _ _;refine Qa (wpAny_updateSeq l2 rfl ?_);have l3:=Yg (Zz (·.push Zn)) l2 rfl;refine wpAny_updateSeq l3 rfl ?_;have l4:=Yg (Zz (·.pop)) l3 rfl;refine Qe ⟨plainId_quiet F.plain_extend_loop _,?_⟩;have W:=(W0 A.in1 (by simp[hh])).toS;have hit':s.heap.objs.size+1<=it:=by have h:=hit;dsimp only at h;rw[size_push'] at h;exact h
 have nei:s.heap.objs.size≠it:=Qz hit';have off:s.heap.objs.size∉fp:=by
  intro h;rcases hfp _ h with e | e
  ·exact nea e
  ·dsimp only at e;rw[size_push'] at e;exact absurd e (Nat.not_succ_le_self _)
 have hk2: ∀b u,b≠s.heap.objs.size->h2.get? b=some u->((h2.update s.heap.objs.size (Zz fun x=>x.push Zn)).update s.heap.objs.size (Zz fun x=>x.pop)).get? b=some u:=fun b u hb e=>(Q8 _ _ (Ne.symm hb)).trans ((Q8 _ _ (Ne.symm hb)).trans e)
 refine codeAny_extend_loopS W hz _ off _ es.size 0 _ _ _ rfl (Zy _) ((W0 A.in1 (by simp[hh])).frame _ _ _ st0 fun b hb u e=>hk2 b u (fun z=>off (z▸hb)) e) l4 (ItemsOf.nil _) fun s' acc c' hm hS' hacc=> ?_
 show Qp _ A (load s.heap.objs.size>>=_) _ _ s';refine Qa (wpAny_load hS' (Qe ?_));obtain⟨h',g',d',tk',os'⟩:=s';have eg:g'=s.gens:=hm.gens;have ed:d'=d:=hm.drawn;have eo:os'=s.os:=hm.os;subst eg ed eo;have hlen:vals.length=es.size:=by simpa using hperm.length_eq
 have ea:acc.toList=vals:=by
  have hsz:=hacc.1
  apply List.ext_getElem?
  intro i;by_cases hi:i<es.size
  ·have hv:=hacc.2 i acc[i] (by simp[hsz,hi])
   rw[hv];simp[hsz,hi]
  ·rw[Y4 (by simp[hsz];omega),Y4 (by omega)]
 rw[ea];refine hQ vals h' tk' _ hperm (Um (Qn hS')) fun b u e=> ?_
 have lb:=Qn e;refine hm.heap b u ?_ (hk2 b u (Qz lb) (hk b u (Qb _ e)));simp only[Zt,Zf,or_false,not_or];exact⟨Qz lb,Qz (Uz lb hit')⟩
end
def leS (a b:Str):Bool:= !ltCps b.cps.toList a.cps.toList
def aGk (xs:List Str):List Str:=xs.mergeSort leS
theorem aOd (a b:Str):leS a b=true↔a.cps.toList<=b.cps.toList:=by
 unfold leS;rw[ltCps_eq];simp
theorem aOc (a b c:Str)(h1:leS a b=true)(h2:leS b c=true):leS a c=true:=by
 rw[aOd] at*;exact List.le_trans h1 h2
theorem aTo (a b:Str):(leS a b || leS b a)=true:=by
 rw[Yu,aOd,aOd];exact List.le_total _ _
theorem aRr (a b:Str)(h1:leS a b=true)(h2:leS b a=true):a=b:=by
 rw[aOd] at*;exact Str.ext' (Array.toList_inj.mp (List.le_antisymm h1 h2))
theorem aD3 (xs:List Str):(aGk xs).Perm xs:=Ew xs leS
theorem aI6 (xs:List Str):(aGk xs).Pairwise (fun a b=>leS a b=true):=Eb aOc aTo xs
theorem aNh: ∀(l:List Str) (p:Str),risingS p l=true->(p::l).Pairwise (fun a b=>leS a b=true)
 | [],p,_=>by simp
 | x::r,p,h=>by
  have h':(!ltCps x.cps.toList p.cps.toList&&risingS x r)=true:=h;rw[Zg] at h';have ih:=aNh r x h'.2;refine List.pairwise_cons.mpr ⟨fun y hy=> ?_,ih⟩;rcases List.mem_cons.mp hy with e | e
  ·rw[e];exact h'.1
  ·exact aOc _ _ _ h'.1 (Ug ih e)
theorem aSr: ∀(l:List Str),sortedS l=true->l.Pairwise (fun a b=>leS a b=true)
 | [],_=> .nil
 | x::r,h=>aNh r x h
theorem bKg {xs ys:List Str}(hs:sortedS ys=true)(hp:ys.Perm xs):ys=aGk xs:=
 List.Perm.eq_of_pairwise (fun a b _ _=>aRr a b) (aSr ys hs) (aI6 xs) (hp.trans (aD3 xs).symm)
theorem aNj {α:Type}[DecidableEq α]: ∀(xs ys:List α),xs.Nodup->(∀k,k∈xs->k∈ys)->ys.length=xs.length->ys.Perm xs
 | [],ys,_,_,h=>by cases ys with | nil=>exact .refl _ | cons _ _=>simp at h
 | x::xs,ys,hn,hm,h=>by
  have hx:=hm x (by simp);have hp:=List.perm_cons_erase hx;refine hp.trans (List.Perm.cons x (aNj xs (ys.erase x) (List.nodup_cons.mp hn).2 (fun k hk=> ?_) ?_))
  ·have ne:k≠x:=fun e=>(List.nodup_cons.mp hn).1 (e▸hk)
   exact (Ep ne).mpr (hm k (by simp[hk]))
  ·rw[V6 hx,h];simp
theorem bAf {σ:List Str}{v:Str}(h:σ.Nodup):(aG0 σ v).Nodup:=by
 unfold aG0;split
 ·exact h
 ·rename_i hc
  have hn:v∉σ:=fun hm=>hc (by simpa using hm)
  first
  | exact List.nodup_cons.mpr ⟨hn,h⟩
  |(rw[W6];exact⟨h,by simp,by intro a ha b hb;simp at hb;subst hb;intro e;subst e;exact hn ha⟩)
theorem aHp (vs:List Str): ∀(σ:List Str),σ.Nodup->(vs.foldl aG0 σ).Nodup:=by
 induction vs with
 | nil=>intro σ h;exact h
 | cons v r ih=>intro σ h;exact ih _ (bAf h)
theorem aF8 (vs:List Str):(aDh vs).Nodup:=aHp vs [] .nil
section
variable {prog:Qx}{w:Zb}{A:Ze}{E:Qd->Qf->Prop}{s:Qf}
theorem aSo {x:Qd}{xs:List Str}{Q:Qd->Qf->Prop}(hh:A.handled=none)(h64:xs.length<64)
  (hc: ∀(B:Ze) (Q':List Qd->Qf->Prop),B.handled=none->(∀vals ts h' tk d,StrsAre vals ts->ts.Perm xs->s.heap.objs.size<=h'.objs.size->(∀b o,s.heap.get? b=some o->h'.get? b=some o)->Q' vals {s with heap:=h',toks:=tk,drawn:=d})->Qp (Qt prog w) B (collect x) Q' E s)
  (h: ∀out l h' tk d m,StrsAre out (aGk xs)->s.heap.objs.size<=l->h'.get? l=some {cls:= .type "list",data:= .seq out.toArray m}->(∀b o,s.heap.get? b=some o->h'.get? b=some o)->Q (.ref l) {s with heap:=h',toks:=tk,drawn:=d}):
  Qp (Qt prog w) A (call (.builtin "sorted") [x]) Q E s:=by
 refine Ud kind_sorted plain_sorted entry_sorted (args_sorted1 _) ?_;unfold Builtin.«sorted»;refine Qa (m:=checkCount "sorted" 1 1 _) (Qe ?_);refine Qa (hc A.in1 _ (by simp[hh]) fun vals ts h1 tk d hS hp le hk=> ?_);have hvl:vals.length<64:=by rw[hS.len_eq,hp.length_eq];exact h64
 refine Qa (wpAny_newList ?_);have hoL:(h1.push (Yb "list" vals.toArray 0)).get? h1.objs.size=some (Yb "list" vals.toArray 0):=Ql _ rfl;show Qp _ _ _ _ _ {s with heap:=h1.push (Yb "list" vals.toArray 0),toks:=tk,drawn:=d};refine Qa (Yh (Za slot_list_sort ⟨_,hoL,rfl⟩ entry_list_sort (list_sort_treeK strKind_oneLt hoL hS.keysOf (fun v₁ v₂ rest e=>keyKind_strs (by rw[<-e];exact hS)) hvl fun st' a1 a2=>⟨_,rfl,?_⟩) (args_list_sort _)));refine Qe ⟨_,rfl,?_⟩;obtain⟨ss',b1,b2,b3⟩:=sorted_out_str hS a1 a2;have e:=bKg b3 (b2.trans hp);subst e;generalize (Array.map (fun x=>x.snd) (arrOf st'))=out at b1⊢;obtain⟨ol⟩:=out;have k1:=Y5 hoL (fun _=> #[]);have k2:=Y5 (Qb (Yb "list" #[] 0) (Qb (Yb "tuple" vals.toArray 0) k1)) (fun _=>ol.toArray);refine h ol h1.objs.size _ tk d _ b1 le k2 fun b o e=> ?_
 have lt:=Qn (hk b o e);have ne:h1.objs.size≠b:=Yc lt;show (sortedHeap _ _ _ _).get? b=some o;unfold sortedHeap;rw[Q8 _ _ ne];refine Qb _ (Qb _ ?_);rw[Q8 _ _ ne];exact Qb _ (hk b o e)
theorem bA3: ∀(vals:List Qd),(∀v∈vals,∃k t,v=Jk k t)->∃ts,StrsAre vals ts
 | [],_=>⟨[],.nil⟩
 | v::vs,h=>by
  obtain⟨k,t,e⟩:=h v (by simp);obtain⟨ts,h2⟩:=bA3 vs fun v hv=>h v (by simp[hv])
  subst e;exact⟨k::ts,.cons k t h2⟩
theorem aWs: ∀{vals:List Qd} {ts:List Str},StrsAre vals ts->∀{k:Str} {t:Tok},Jk k t∈vals->k∈ts
 | _,_,.cons y u r,k,t,h=>by
  rcases List.mem_cons.mp h with e | e
  ·injection e with e1;subst e1;simp
  ·exact Qr _ (aWs r e)
theorem aYr {a:Addr}{ss:List Str}{Q:Qd->Qf->Prop}(hh:A.handled=none)(h64:ss.length<64)(hn:ss.Nodup)(z:s.heap.SetOf (Qi prog w) a (fun k=>ss.contains k) ss.length)(zt:aJ3 w s.heap a)
  (h: ∀out l h' tk d m,StrsAre out (aGk ss)->s.heap.objs.size<=l->h'.get? l=some {cls:= .type "list",data:= .seq out.toArray m}->(∀b o,s.heap.get? b=some o->h'.get? b=some o)->Q (.ref l) {s with heap:=h',toks:=tk,drawn:=d}):
  Qp (Qt prog w) A (call (.builtin "sorted") [.ref a]) Q E s:=by
 obtain⟨o,es,ep,t,ho,hx,hd,hel,hm,hb,hf,hsz⟩:=z;obtain⟨o2,ho2,es2,ep2,t2,hd2,hw,hp⟩:=zt;rw[ho] at ho2;cases ho2;rw[hd] at hd2;cases hd2;have hs:Qy=16777216:=Z6;refine aSo hh h64 (fun B Q' hB q=>aV9 hB ho hx hd hf (by unfold scanBound at hb;omega) hw hp fun vals h' tk d pv le kp=> ?_) h;have hstr: ∀v∈vals,∃k t,v=Jk k t:=by
  intro v hv;obtain⟨e,he,rfl⟩:=List.mem_map.mp (pv.subset hv);obtain⟨⟨k,hk,_⟩,_⟩:=hel e he;obtain⟨t,et⟩:=Ye hk;exact⟨k,t,et⟩
 obtain⟨ts,hS⟩:=bA3 vals hstr;refine q vals ts h' tk d hS (aNj ss ts hn (fun k hk=> ?_) ?_) le kp
 ·obtain⟨e,he,hi⟩:=(hm k).mp (by simpa using hk)
  obtain⟨t,et⟩:=Ye hi;refine aWs hS (t:=t) (pv.symm.subset ?_);rw[<-et];exact List.mem_map.mpr ⟨e,he,rfl⟩
 ·rw[<-hS.len_eq,pv.length_eq,Qh,Q6,hsz]
end
inductive D where
 | non | bl (b:Bool) | int (i:Int) | str (x:Str) | tup (ds:List D) | lst (ds:List D) | obj (C:Addr) (fs:List (Str×D))
 | dk (kvs:List (Key×D)) | dt (kvs:List (List Key×D)) | exc (C:Addr) | set (ss:List Str)
def excAt (a C:Addr)(h:Heap):Prop:= ∃o,h.get? a=some o/\o.cls= .ref C
def TQ (K:Qc)(H:Hp)(a:Addr)(vs:List V):Prop:=H a=some (.tup vs)
theorem TQ.of {K:Qc}{H:Hp}{a:Addr}{vs:List V}(h:H a=some (.tup vs)):TQ K H a vs:=h
theorem TQ.sq {K:Qc}{H:Hp}{a:Addr}{vs:List V}(h:TQ K H a vs):SqT K H a vs:=SqT.of h
instance {K:Qc} {H:Hp} {a:Addr} {vs:List V}:Coe (TQ K H a vs) (SqT K H a vs):=⟨TQ.sq⟩
theorem bBs {H H':Hp}(e:Same H H'){a:Addr}{u:HO}(h:Rd H a u):Rd H' a u:=h.imp (e _ _) fun⟨o,q⟩=>⟨o,e _ _ q⟩
mutual
inductive Is (K:Qc)(H:Hp):D->V->Prop where
 | non:Is K H .non .non
 | bl (b:Bool):Is K H (.bl b) (.bl b)
 | int (i:Int):Is K H (.int i) (.int i)
 | str (x:Str):Is K H (.str x) (.str x)
 | tup {a:Addr} {ds:List D} {vs:List V} (h:TQ K H a vs) (r:IsL K H ds vs):Is K H (.tup ds) (.ref a)
 | lst {a:Addr} {ds:List D} {vs:List V} (h:SqL K H a vs) (r:IsL K H ds vs):Is K H (.lst ds) (.ref a)
 | obj {a C dx:Addr} {fs:List (Str×D)} {vs:List (Str×V)} (h:H a=some (.ins C dx vs)) (r:IsF K H fs vs):Is K H (.obj C fs) (.ref a)
 | dk {a:Addr} {kvs:List (Key×D)} {vs:List (Key×V)} (h:Rd H a (.dK vs)) (r:IsK K H kvs vs):Is K H (.dk kvs) (.ref a)
 | dt {a:Addr} {kvs:List (List Key×D)} {vs:List (List Key×V)} (h:H a=some (.dT vs)) (r:IsT K H kvs vs):Is K H (.dt kvs) (.ref a)
 | exc {a C:Addr} (h:H a=some (.ext (excAt a C))):Is K H (.exc C) (.ref a)
 | set {a:Addr} {ss:List Str} (h:H a=some (.set (fun k=>ss.contains k) ss.length)):Is K H (.set ss) (.ref a)
inductive IsK (K:Qc)(H:Hp):List (Key×D)->List (Key×V)->Prop where
 | nil:IsK K H [] []
 | cons {x:Key} {d:D} {v:V} {ds:List (Key×D)} {vs:List (Key×V)} (h:Is K H d v) (r:IsK K H ds vs):IsK K H ((x,d)::ds) ((x,v)::vs)
inductive IsT (K:Qc)(H:Hp):List (List Key×D)->List (List Key×V)->Prop where
 | nil:IsT K H [] []
 | cons {x:List Key} {d:D} {v:V} {ds:List (List Key×D)} {vs:List (List Key×V)} (h:Is K H d v) (r:IsT K H ds vs):IsT K H ((x,d)::ds) ((x,v)::vs)
inductive IsL (K:Qc)(H:Hp):List D->List V->Prop where
 | nil:IsL K H [] []
 | cons {d:D} {v:V} {ds:List D} {vs:List V} (h:Is K H d v) (r:IsL K H ds vs):IsL K H (d::ds) (v::vs)
inductive IsF (K:Qc)(H:Hp):List (Str×D)->List (Str×V)->Prop where
 | nil:IsF K H [] []
 | cons {x:Str} {d:D} {v:V} {ds:List (Str×D)} {vs:List (Str×V)} (h:Is K H d v) (r:IsF K H ds vs):IsF K H ((x,d)::ds) ((x,v)::vs)
end
section
variable {K:Qc}{H H':Hp}
theorem SqT.mono {a:Addr}{xs:List V}(e:Same H H')(h:SqT K H a xs):SqT K H' a xs:=by
 rcases h with (h |⟨o,h⟩) | h
 ·exact .inl (.inl (e _ _ h))
 ·exact .inl (.inr ⟨o,e _ _ h⟩)
 ·exact .inr h
theorem Is.mono (e:Same H H'){d:D}{v:V}(h:Is K H d v):Is K H' d v:=
 Is.rec (motive_1:=fun d v _=>Is K H' d v) (motive_2:=fun ds vs _=>IsK K H' ds vs) (motive_3:=fun ds vs _=>IsT K H' ds vs) (motive_4:=fun ds vs _=>IsL K H' ds vs) (motive_5:=fun ds vs _=>IsF K H' ds vs)
  .non .bl .int .str (fun h _ r=> .tup (e _ _ h) r) (fun h _ r=> .lst (e.seq h) r) (fun h _ r=> .obj (e _ _ h) r) (fun h _ r=> .dk (bBs e h) r) (fun h _ r=> .dt (e _ _ h) r) (fun h=> .exc (e _ _ h)) (fun h=> .set (e _ _ h))
  .nil (fun _ _ i r=> .cons i r) .nil (fun _ _ i r=> .cons i r) .nil (fun _ _ i r=> .cons i r) .nil (fun _ _ i r=> .cons i r) h
theorem IsK.mono (e:Same H H'): ∀{ds:List (Key×D)} {vs:List (Key×V)},IsK K H ds vs->IsK K H' ds vs:=by
 intro ds
 induction ds with
 | nil=>intro vs h;cases h;exact .nil
 | cons d ds ih=>intro vs h;cases h with | cons i r=>exact .cons (i.mono e) (ih r)
theorem IsT.mono (e:Same H H'): ∀{ds:List (List Key×D)} {vs:List (List Key×V)},IsT K H ds vs->IsT K H' ds vs:=by
 intro ds
 induction ds with
 | nil=>intro vs h;cases h;exact .nil
 | cons d ds ih=>intro vs h;cases h with | cons i r=>exact .cons (i.mono e) (ih r)
theorem IsL.mono (e:Same H H'): ∀{ds:List (D)} {vs:List (V)},IsL K H ds vs->IsL K H' ds vs:=by
 intro ds
 induction ds with
 | nil=>intro vs h;cases h;exact .nil
 | cons d ds ih=>intro vs h;cases h with | cons i r=>exact .cons (i.mono e) (ih r)
theorem IsF.mono (e:Same H H'): ∀{ds:List (Str×D)} {vs:List (Str×V)},IsF K H ds vs->IsF K H' ds vs:=by
 intro ds
 induction ds with
 | nil=>intro vs h;cases h;exact .nil
 | cons d ds ih=>intro vs h;cases h with | cons i r=>exact .cons (i.mono e) (ih r)
theorem IsL.length: ∀{ds:List D} {vs:List V},IsL K H ds vs->ds.length=vs.length:=by
 intro ds
 induction ds with
 | nil=>intro vs h;cases h;rfl
 | cons d ds ih=>intro vs h;cases h with | cons _ r=>exact congrArg (· +1) (ih r)
theorem IsL.get: ∀{ds:List D} {vs:List V} {i:Nat} {d:D},IsL K H ds vs->ds[i]? =some d->∃v,vs[i]? =some v/\Is K H d v
 | _,_,_,_,.nil,e=>by simp at e
 | _,_,0,_,.cons h _,e=>by simp at e;subst e;exact⟨_,rfl,h⟩
 | _,_,i+1,d,.cons _ r,e=>by
  obtain⟨v,h1,h2⟩:=IsL.get (i:=i) (d:=d) r (by simpa using e);exact⟨v,by simpa using h1,h2⟩
theorem IsL.bQ7: ∀{ds:List D} {vs:List V} {i:Nat} {v:V},IsL K H ds vs->vs[i]? =some v->∃d,ds[i]? =some d/\Is K H d v
 | _,_,_,_,.nil,e=>by simp at e
 | _,_,0,_,.cons h _,e=>by simp at e;subst e;exact⟨_,rfl,h⟩
 | _,_,i+1,v,.cons _ r,e=>by
  obtain⟨d,h1,h2⟩:=IsL.bQ7 (i:=i) (v:=v) r (by simpa using e);exact⟨d,by simpa using h1,h2⟩
theorem IsL.append: ∀{ds es:List D} {vs ws:List V},IsL K H ds vs->IsL K H es ws->IsL K H (ds++es) (vs++ws):=by
 intro ds
 induction ds with
 | nil=>intro es vs ws h s;cases h;exact s
 | cons d ds ih=>intro es vs ws h s;cases h with | cons i r=>exact .cons i (ih r s)
theorem IsL.take: ∀{ds:List D} {vs:List V} (n:Nat),IsL K H ds vs->IsL K H (ds.take n) (vs.take n)
 | _,_,0,_=> .nil
 | _,_,_+1,.nil=> .nil
 | _,_,n+1,.cons h r=> .cons h (IsL.take n r)
theorem IsL.drop: ∀{ds:List D} {vs:List V} (n:Nat),IsL K H ds vs->IsL K H (ds.drop n) (vs.drop n)
 | _,_,0,r=>r
 | _,_,_+1,.nil=> .nil
 | _,_,n+1,.cons _ r=>IsL.drop n r
theorem IsF.lookup: ∀{fs:List (Str×D)} {vs:List (Str×V)} {x:Str} {d:D},IsF K H fs vs->fs.lookup x=some d->∃v,vs.lookup x=some v/\Is K H d v
 | _,_,_,_,.nil,e=>by simp at e
 | _,_,x,d,.cons (x:=y) (d:=d') (v:=v') (ds:=fs) (vs:=vs) h r,e=>by
  rw[Vf] at e⊢;cases q:(x==y) with
  | true=>rw[q] at e;simp at e;subst e;exact⟨_,rfl,h⟩
  | false=>rw[q] at e;exact IsF.lookup r e
theorem IsF.aZh: ∀{fs:List (Str×D)} {vs:List (Str×V)} {x:Str},IsF K H fs vs->fs.lookup x=none->vs.lookup x=none:=by
 intro fs
 induction fs with
 | nil=>intro vs x h e;cases h;rfl
 | cons f fs ih=>
  intro vs x h e;cases h with
  | cons i r=>
   rename_i y d' v' vs;rw[Vf] at e⊢;cases q:(x==y) with
   | true=>rw[q] at e;simp at e
   | false=>rw[q] at e;exact ih r e
theorem IsF.length: ∀{ds:List (Str×D)} {vs:List (Str×V)},IsF K H ds vs->ds.length=vs.length:=by
 intro ds
 induction ds with
 | nil=>intro vs h;cases h;rfl
 | cons d ds ih=>intro vs h;cases h with | cons _ r=>exact congrArg (· +1) (ih r)
theorem aX0: ∀(ns:List Int),IsL K H (ns.map D.int) (ns.map V.int)
 | []=> .nil
 | n::r=> .cons (.int n) (aX0 r)
end
inductive DO where
 | k (kvs:List (Key×D)) | t (kvs:List (List Key×D))
def DO.d:DO->D
 | .k kvs=> .dk kvs
 | .t kvs=> .dt kvs
def kD:Key->D
 | .inl i=> .int i
 | .inr x=> .str x
inductive NK where
 | l | k (ks:List Key) | t (ks:List (List Key))
def NK.d:NK->List (List D)->D
 | .l,ls=> .lst (ls.map D.lst)
 | .k ks,ls=> .dk (ks.zip (ls.map D.lst))
 | .t ks,ls=> .dt (ks.zip (ls.map D.lst))
inductive SV where
 | sh (d:D) | own (ds:List D) | oin (a C dx:Addr) (fs:List (Str×D)) | ow (o:DO) | tk (ks:List Key) | nl (kd:NK) (ls:List (List D))
abbrev Rho:=List (Option SV)
def SV.cur:SV->D
 | .sh d=>d
 | .own ds=> .lst ds
 | .oin _ C _ fs=> .obj C fs
 | .ow o=>o.d
 | .tk ks=> .tup (ks.map kD)
 | .nl kd ls=>kd.d ls
open Classical in
def Off (H:Hp)(O:Nat->Option Addr):Hp:=fun b=>if∃i,O i=some b then none else H b
theorem Off.same (H:Hp)(O:Nat->Option Addr):Same (Off H O) H:=fun b o h=>by
 unfold Off at h;split at h
 ·cases h
 ·exact h
theorem Off.of {H:Hp}{O:Nat->Option Addr}{b:Addr}{o:HO}(h:H b=some o)(n: ∀i,O i≠some b):Off H O b=some o:=by
 unfold Off;rw[if_neg (fun⟨i,e⟩=>n i e)];exact h
theorem Off.not {H:Hp}{O:Nat->Option Addr}{b:Addr}{o:HO}(h:Off H O b=some o): ∀i,O i≠some b:=fun i e=>by
 unfold Off at h;rw[if_pos ⟨i,e⟩] at h;cases h
theorem Off.mono {H H':Hp}{O:Nat->Option Addr}(e:Same H H'):Same (Off H O) (Off H' O):=fun b o h=>Off.of (e _ _ (Off.same H O b o h)) (Off.not h)
theorem Off.less {H:Hp}{O O':Nat->Option Addr}(e: ∀i a,O' i=some a->∃j,O j=some a):Same (Off H O) (Off H O'):=fun b o h=>Off.of (Off.same H O b o h) fun i q=>by
 obtain⟨j,z⟩:=e i b q;exact Off.not h j z
theorem Off.upd {H:Hp}{O:Nat->Option Addr}{a:Addr}{o:HO}{i:Nat}(h:O i=some a):Off (upd H a o) O=Off H O:=by
 funext b
 unfold Off;by_cases q: ∃j,O j=some b
 ·rw[if_pos q,if_pos q]
 ·rw[if_neg q,if_neg q,aAo]
  intro z;subst z;exact q ⟨i,h⟩
def bTm:HO->Bool
 | .lst _=>true
 | .ins _ _ _=>true
 | .dK _=>true
 | .dT _=>true
 | _=>false
def aSe (H:Hp)(O:Nat->Option Addr):Prop:= ∀i a,O i=some a->∃w,H a=some w/\bTm w=true
def IsO (K:Qc)(H:Hp):DO->HO->Prop
 | .k kvs,.dK vs=>IsK K H kvs vs
 | .t kvs,.dT vs=>IsT K H kvs vs
 | _,_=>False
theorem IsO.mono {K:Qc}{H H':Hp}(e:Same H H'){o:DO}{w:HO}(h:IsO K H o w):IsO K H' o w:=by
 cases o<;>cases w<;>first | exact Qg h | skip
 ·exact IsK.mono e h
 ·exact IsT.mono e h
theorem IsO.mut {K:Qc}{H:Hp}{o:DO}{w:HO}(h:IsO K H o w):bTm w=true:=by
 cases o<;>cases w<;>first | exact Qg h | rfl
theorem IsO.is {K:Qc}{H:Hp}{o:DO}{w:HO}{a:Addr}(ha:H a=some w)(h:IsO K H o w):Is K H o.d (.ref a):=by
 cases o<;>cases w<;>first | exact Qg h | skip
 ·exact .dk (.inl ha) h
 ·exact .dt ha h
theorem bMq {K:Qc}{H:Hp}(k:Key):Is K H (kD k) (kV k):=by
 cases k
 ·exact .int _
 ·exact .str _
theorem bJk {K:Qc}{H:Hp}: ∀(ks:List Key),IsL K H (ks.map kD) (ks.map kV)
 | []=> .nil
 | k::ks=> .cons (bMq k) (bJk ks)
theorem aSe.mono {H H':Hp}{O:Nat->Option Addr}(e:Same H H')(h:aSe H O):aSe H' O:=fun i a q=>by
 obtain⟨w,h1,h2⟩:=h i a q;exact⟨w,e _ _ h1,h2⟩
def nx (n i j:Nat):Nat:=n*(j+1)+i
def PV:NK->List Addr->HO->Prop
 | .l,bs,.lst vs=>vs=bs.map V.ref
 | .k ks,bs,.dK kvs=>ks.length=bs.length/\kvs=ks.zip (bs.map V.ref)
 | .t ks,bs,.dT kvs=>ks.length=bs.length/\kvs=ks.zip (bs.map V.ref)
 | _,_,_=>False
def InL (K:Qc)(H:Hp)(O:Nat->Option Addr)(n i:Nat):Nat->List Addr->List (List D)->Prop
 | _,[],[]=>True
 | j,b::bs,ds::ls=>(O (nx n i j)=some b/\∃vs,H b=some (.lst vs)/\IsL K (Off H O) ds vs)/\InL K H O n i (j+1) bs ls
 | _,_,_=>False
theorem aO8 {n i:Nat}(j:Nat):n<=nx n i j:=by
 unfold nx;rw[Nat.mul_add,Nat.mul_one];omega
theorem InL.move {K:Qc}{H H':Hp}{O O':Nat->Option Addr}{n i:Nat}(hO: ∀m b w,n<=m->O m=some b->H b=some w->O' m=some b/\H' b=some w)(sm:Same (Off H O) (Off H' O')): ∀{bs:List Addr} {ls:List (List D)} {j:Nat},InL K H O n i j bs ls->InL K H' O' n i j bs ls
 | [],[],_,_=>True.intro
 | b::bs,ds::ls,j,⟨⟨h1,vs,h2,h3⟩,h4⟩=>by
  obtain⟨e1,e2⟩:=hO _ b _ (aO8 j) h1 h2;exact⟨⟨e1,vs,e2,h3.mono sm⟩,InL.move hO sm h4⟩
 | [],_::_,_,h=>Qg h
 | _::_,[],_,h=>Qg h
def NL (K:Qc)(H:Hp)(O:Nat->Option Addr)(σ:St)(i:Nat)(kd:NK)(ls:List (List D)):Prop:=
 ∃a w bs,O i=some a/\σ[i]? =some (some (.ref a))/\H a=some w/\PV kd bs w/\InL K H O σ.length i 0 bs ls
theorem NL.move {K:Qc}{H H':Hp}{O O':Nat->Option Addr}{σ σ':St}{i:Nat}{kd:NK}{ls:List (List D)}(hl:σ'.length=σ.length)(hs:σ'[i]? =σ[i]?)(hO: ∀m b w,(m=i\/σ.length<=m)->O m=some b->H b=some w->O' m=some b/\H' b=some w)(sm:Same (Off H O) (Off H' O'))
  (h:NL K H O σ i kd ls):NL K H' O' σ' i kd ls:=by
 obtain⟨a,w,bs,h1,h2,h3,h4,h5⟩:=h;obtain⟨e1,e2⟩:=hO i a w (.inl rfl) h1 h3;refine⟨a,w,bs,e1,hs.trans h2,e2,h4,?_⟩;rw[hl];exact InL.move (fun m b w hm=>hO m b w (.inr hm)) sm h5
def Slot (K:Qc)(H:Hp)(O:Nat->Option Addr)(σ:St)(i:Nat):SV->Prop
 | .sh d=> ∃v,σ[i]? =some (some v)/\Is K (Off H O) d v
 | .own ds=> ∃a vs,O i=some a/\σ[i]? =some (some (.ref a))/\H a=some (.lst vs)/\IsL K (Off H O) ds vs
 | .oin a C dx fs=>O i=some a/\σ[i]? =some (some (.ref a))/\dx≠a/\(∃vs,H a=some (.ins C dx vs)/\IsF K (Off H O) fs vs)
 | .ow o=> ∃a w,O i=some a/\σ[i]? =some (some (.ref a))/\H a=some w/\IsO K (Off H O) o w
 | .tk ks=> ∃a,σ[i]? =some (some (.ref a))/\Off H O a=some (.tup (ks.map kV))
 | .nl kd ls=>NL K H O σ i kd ls
theorem bJn {K:Qc}{H:Hp}{O:Nat->Option Addr}{n i:Nat}: ∀{bs:List Addr} {ls:List (List D)} {j:Nat},InL K H O n i j bs ls->IsL K H (ls.map D.lst) (bs.map V.ref)
 | [],[],_,_=> .nil
 | b::bs,ds::ls,j,⟨⟨_,vs,h2,h3⟩,h4⟩=> .cons (.lst (SqL.of h2) (h3.mono (Off.same _ _))) (bJn h4)
 | [],_::_,_,h=>Qg h
 | _::_,[],_,h=>Qg h
theorem aVv {K:Qc}{H:Hp}: ∀{ks:List Key} {ds:List D} {vs:List V},IsL K H ds vs->IsK K H (ks.zip ds) (ks.zip vs)
 | [],_,_,_=> .nil
 | _::_,_,_,.nil=> .nil
 | _::_,_,_,.cons i r=> .cons i (aVv r)
theorem bDa {K:Qc}{H:Hp}: ∀{ks:List (List Key)} {ds:List D} {vs:List V},IsL K H ds vs->IsT K H (ks.zip ds) (ks.zip vs)
 | [],_,_,_=> .nil
 | _::_,_,_,.nil=> .nil
 | _::_,_,_,.cons i r=> .cons i (bDa r)
theorem NL.is {K:Qc}{H:Hp}{O:Nat->Option Addr}{σ:St}{i:Nat}{kd:NK}{ls:List (List D)}(h:NL K H O σ i kd ls): ∃v,σ[i]? =some (some v)/\Is K H (kd.d ls) v:=by
 obtain⟨a,w,bs,h1,h2,h3,h4,h5⟩:=h;refine⟨.ref a,h2,?_⟩;have z:=bJn h5;cases kd<;>cases w<;>first | exact Qg h4 | skip
 ·cases h4;exact .lst (SqL.of h3) z
 ·cases h4.2;exact .dk (.inl h3) (aVv z)
 ·cases h4.2;exact .dt h3 (bDa z)
def Rel (K:Qc)(H₀:Hp)(ρ:Rho)(σ:St)(H:Hp):Prop:=
 ∃O:Nat->Option Addr,(∀i j a,O i=some a->O j=some a->i=j)/\aSe H O/\Same H₀ (Off H O)/\ρ.length=σ.length/\∀i sv,ρ[i]? =some (some sv)->Slot K H O σ i sv
section
variable {K:Qc}{H₀ H H':Hp}{ρ:Rho}{σ:St}
theorem Slot.mono {O:Nat->Option Addr}{i:Nat}{sv:SV}(e:Same H H')(h:Slot K H O σ i sv):Slot K H' O σ i sv:=by
 cases sv with
 | sh d=>obtain⟨v,h1,h2⟩:=h;exact⟨v,h1,h2.mono (Off.mono e)⟩
 | own ds=>obtain⟨a,vs,h1,h2,h3,h4⟩:=h;exact⟨a,vs,h1,h2,e _ _ h3,h4.mono (Off.mono e)⟩
 | oin a C dx fs=>obtain⟨h1,h2,h3,vs,h4,h5⟩:=h;exact⟨h1,h2,h3,vs,e _ _ h4,h5.mono (Off.mono e)⟩
 | ow o=>obtain⟨a,w,h1,h2,h3,h4⟩:=h;exact⟨a,w,h1,h2,e _ _ h3,h4.mono (Off.mono e)⟩
 | tk ks=>obtain⟨a,h1,h2⟩:=h;exact⟨a,h1,Off.mono e _ _ h2⟩
 | nl kd ls=>exact NL.move rfl rfl (fun m b w _ e1 e2=>⟨e1,e _ _ e2⟩) (Off.mono e) h
theorem Rel.mono (e:Same H H')(r:Rel K H₀ ρ σ H):Rel K H₀ ρ σ H':=by
 obtain⟨O,h1,ho,h2,hl,h3⟩:=r;exact⟨O,h1,ho.mono e,h2.trans (Off.mono e),hl,fun i sv q=>(h3 i sv q).mono e⟩
theorem Rel.get (r:Rel K H₀ ρ σ H){i:Nat}{sv:SV}(q:ρ[i]? =some (some sv)): ∃v,σ[i]? =some (some v)/\Is K H sv.cur v:=by
 obtain⟨O,h1,ho,h2,hl,h3⟩:=r;have z:=h3 i sv q;cases sv with
 | sh d=>obtain⟨v,e1,e2⟩:=z;exact⟨v,e1,e2.mono (Off.same _ _)⟩
 | own ds=>obtain⟨a,vs,e1,e2,e3,e4⟩:=z;exact⟨.ref a,e2,.lst (SqL.of e3) (e4.mono (Off.same _ _))⟩
 | oin a C dx fs=>obtain⟨e1,e2,e3,vs,e4,e5⟩:=z;exact⟨.ref a,e2,.obj e4 (e5.mono (Off.same _ _))⟩
 | ow o=>obtain⟨a,w,e1,e2,e3,e4⟩:=z;exact⟨.ref a,e2,(e4.mono (Off.same _ _)).is e3⟩
 | tk ks=>obtain⟨a,e1,e2⟩:=z;exact⟨.ref a,e1,.tup (TQ.of (Off.same _ _ _ _ e2)) (bJk ks)⟩
 | nl kd ls=>exact NL.is z
theorem Rel.kept (r:Rel K H₀ ρ σ H):Same H₀ H:=by
 obtain⟨O,h1,ho,h2,_⟩:=r;exact h2.trans (Off.same _ _)
end
mutual
def D.imm:D->Bool
 | .non=>true | .bl _=>true | .int _=>true | .str _=>true
 | .tup ds=>aIq ds
 | .lst _=>false
 | .obj _ _=>false
 | .dk _=>false
 | .dt _=>false
 | .exc _=>false
 | .set _=>false
def aIq:List D->Bool
 | []=>true
 | d::ds=>d.imm&&aIq ds
end
section
variable {K:Qc}{H H':Hp}
theorem Is.alike (ht: ∀b xs,H b=some (.tup xs)->H' b=some (.tup xs))(hf: ∀b o u,H b=some (.frz o u)->H' b=some (.frz o u)){d:D}{v:V}(q:d.imm=true)(h:Is K H d v):Is K H' d v:=
 Is.rec (motive_1:=fun d v _=>d.imm=true->Is K H' d v) (motive_2:=fun _ _ _=>True) (motive_3:=fun _ _ _=>True) (motive_4:=fun ds vs _=>aIq ds=true->IsL K H' ds vs) (motive_5:=fun _ _ _=>True)
  (fun _=> .non) (fun b _=> .bl b) (fun i _=> .int i) (fun x _=> .str x) (fun h _ r q=> .tup (ht _ _ h) (r q)) (fun _ _ _ q=>Jv (show false=true from q)) (fun _ _ _ q=>Jv (show false=true from q)) (fun _ _ _ q=>Jv (show false=true from q)) (fun _ _ _ q=>Jv (show false=true from q)) (fun _ q=>Jv (show false=true from q)) (fun _ q=>Jv (show false=true from q))
  trivial (fun _ _ _ _=>trivial) trivial (fun _ _ _ _=>trivial) (fun _=> .nil) (fun _ _ i r q=> .cons (i (Bool.and_eq_true_iff.mp q).1) (r (Bool.and_eq_true_iff.mp q).2)) trivial (fun _ _ _ _=>trivial) h q
theorem IsL.alike (ht: ∀b xs,H b=some (.tup xs)->H' b=some (.tup xs))(hf: ∀b o u,H b=some (.frz o u)->H' b=some (.frz o u)): ∀{ds:List D} {vs:List V},aIq ds=true->IsL K H ds vs->IsL K H' ds vs:=by
 intro ds
 induction ds with
 | nil=>intro vs q h;cases h;exact .nil
 | cons d ds ih=>
  intro vs q h;rw[aIq,Zg] at q;cases h with | cons i r=>exact .cons (Is.alike ht hf q.1 i) (ih q.2 r)
theorem aHn {O:Nat->Option Addr}(ho:aSe H O){d:D}{v:V}(q:d.imm=true)(h:Is K H d v):Is K (Off H O) d v:=by
 refine Is.alike (fun b xs e=>Off.of e fun i z=> ?_) (fun b o u e=>Off.of e fun i z=> ?_) q h
 ·obtain⟨u,w,m⟩:=ho i b z;rw[w] at e;cases e;cases m
 ·obtain⟨u,w,m⟩:=ho i b z;rw[w] at e;cases e;cases m
theorem aMw {O:Nat->Option Addr}(ho:aSe H O){ds:List D}{vs:List V}(q:aIq ds=true)(h:IsL K H ds vs):IsL K (Off H O) ds vs:=by
 refine IsL.alike (fun b xs e=>Off.of e fun i z=> ?_) (fun b o u e=>Off.of e fun i z=> ?_) q h
 ·obtain⟨u,w,m⟩:=ho i b z;rw[w] at e;cases e;cases m
 ·obtain⟨u,w,m⟩:=ho i b z;rw[w] at e;cases e;cases m
end
abbrev M (α:Type):=Option (Except Addr α)
def ok {α:Type}(a:α):M α:=some (.ok a)
def err {α:Type}(c:Addr):M α:=some (.error c)
def bnd {α β:Type}(m:M α)(k:α->M β):M β:=match m with
 | none=>none
 | some (.error c)=>some (.error c)
 | some (.ok a)=>k a
@[simp] theorem aB0 {α β:Type} (a:α) (k:α->M β):bnd (ok a) k=k a:=rfl
@[simp] theorem bUn {α β:Type} (c:Addr) (k:α->M β):bnd (err c:M α) k=err c:=rfl
@[simp] theorem bSh {α β:Type} (k:α->M β):bnd (none:M α) k=none:=rfl
theorem aBq {α:Type}{a b:α}(h:ok a=ok b):a=b:=by cases h;rfl
theorem bEs {α β:Type}{m:M α}{k:α->M β}{b:β}(h:bnd m k=ok b): ∃a,m=ok a/\k a=ok b:=by
 unfold bnd at h;split at h
 ·cases h
 ·cases h
 ·exact⟨_,rfl,h⟩
def Fly (P:Qx)(w:Zb)(outer:List Env)(s:Qf)(ea c:Addr)(H':Hp)(s':Qf):Prop:=
 ∃Bs a0,Heap.FlyingW Bs outer ea (.ref c) a0 s'.heap/\(∀b o o',s.heap.get? b=some o'->b∉frs outer->s'.heap.get? b=some o->Bs.get? b=some o)/\HOk P w H' Bs
def Exc (X:Cx)(pins:List (Addr×Obj))(σ:St)(H:Hp)(c:Addr)(e:Qd)(s:Qf):Prop:= ∃ea,e= .ref ea/\
 ((∃h args,Heap.MadeExcOf h s.heap ea (.ref c) args/\Inv X pins σ H {s with heap:=h})\/
  (∃s1 H1,Inv X pins σ H1 s1/\s.os=s1.os/\AllBare s.gens/\Un (frs X.stack) [] H1 H s1.heap s.heap/\Fly X.prog X.w X.stack s1 ea c H s))
def Thr (X:Cx)(σ:St)(H:Hp)(c:Addr):Prop:= ∀(pins:List (Addr×Obj)) (s:Qf) (H':Hp) (e:Qd),Same H H'->Exc X pins σ H' c e s->X.xe e s
theorem Thr.mono {X:Cx}{σ:St}{H H':Hp}{c:Addr}(e:Same H H')(t:Thr X σ H c):Thr X σ H' c:=fun pins s H2 ev q x=>t pins s H2 ev (e.trans q) x
def Res {α:Type}(X:Cx)(σ:St)(H:Hp)(Q:α->Prop)(m:M α):Prop:=match m with
 | none=>False
 | some (.error c)=>Thr X σ H c
 | some (.ok a)=>Q a
theorem Res.bind {α β:Type}{X:Cx}{σ:St}{H:Hp}{Q:β->Prop}{m:M α}{k:α->M β}(h:Res X σ H Q (bnd m k)):Res X σ H (fun a=>Res X σ H Q (k a)) m:=by
 unfold bnd at h;split at h
 ·exact h
 ·exact h
 ·exact h
theorem Res.mono {α:Type}{X:Cx}{σ:St}{H H':Hp}{Q Q':α->Prop}{m:M α}(e:Same H H')(h:Res X σ H Q m)(i: ∀a,Q a->Q' a):Res X σ H' Q' m:=by
 unfold Res at*;split at h
 ·exact h
 ·exact Thr.mono e h
 ·exact i _ h
theorem Res.imp {α:Type}{X:Cx}{σ:St}{H:Hp}{Q Q':α->Prop}{m:M α}(h:Res X σ H Q m)(i: ∀a,Q a->Q' a):Res X σ H Q' m:=h.mono (Same.refl H) i
def tD (X:Cx)(B:Hp)(f:Rho->M D):TE:=fun σ H Q=> ∃ρ,Rel X.K B ρ σ H/\Res X σ H (fun d=> ∀v H',Same H H'->Is X.K H' d v->Q v H') (f ρ)
def tDT (X:Cx)(B:Hp)(f:Rho->M Bool):TT:=fun σ H Q=> ∃ρ,Rel X.K B ρ σ H/\Res X σ H (fun b=> ∀H',Same H H'->Q b H') (f ρ)
def tDA (X:Cx)(B:Hp)(f:Rho->M (List D)):TA:=fun σ H Q=> ∃ρ,Rel X.K B ρ σ H/\Res X σ H (fun ds=> ∀vs H',Same H H'->IsL X.K H' ds vs->Q vs H') (f ρ)
abbrev PD (X:Cx)(B:Hp)(e:Expr)(f:Rho->M D):Prop:=PE X e (tD X B f)
abbrev PDT (X:Cx)(B:Hp)(e:Expr)(f:Rho->M Bool):Prop:=PT X e (tDT X B f)
abbrev PDW (X:Cx)(B:Hp)(e:Expr)(f:Rho->M Bool):Prop:=PW X e (tDT X B f)
abbrev PDA (X:Cx)(B:Hp)(es:List Expr)(f:Rho->M (List D)):Prop:=PA X es (tDA X B f)
section
variable {X:Cx}{B:Hp}{e a b c:Expr}{es:List Expr}{pos:Pos}
theorem PE.of {t t':TE}(h:PE X e t)(i: ∀σ H Q,t' σ H Q->t σ H Q):PE X e t':=fun pins s σ H Q I q=>h pins s σ H Q I (i σ H Q q)
theorem PT.of {t t':TT}(h:PT X e t)(i: ∀σ H Q,t' σ H Q->t σ H Q):PT X e t':=fun pins s σ H Q I q=>h pins s σ H Q I (i σ H Q q)
theorem PW.of {t t':TT}(h:PW X e t)(i: ∀σ H Q,t' σ H Q->t σ H Q):PW X e t':=fun wh pins s σ H Q I q=>h wh pins s σ H Q I (i σ H Q q)
theorem PA.of {t t':TA}(h:PA X es t)(i: ∀σ H Q,t' σ H Q->t σ H Q):PA X es t':=fun pos pins s σ H Q I q=>h pos pins s σ H Q I (i σ H Q q)
def look (i:Nat):Rho->M D:=fun ρ=>match ρ[i]? with
 | some (some sv)=>ok sv.cur
 | _=>none
theorem aAd (i:Nat){x:Str}{pos:Pos}(hN:X.N[i]? =some x:=by rfl)(hv:Vis X.env.scope x:=by first | exact Qw rfl | exact Yt (Qw rfl) | exact Yt (Yt rfl))(hd:(x==("__debug__":Str))=false:=by decide)
  (hcd:(x==("__classdict__":Str))=false:=by decide):PD X B (.Name x pos) (look i):=by
 refine PE.of (aD5 hN hv hd hcd) fun σ H Q h=> ?_
 obtain⟨ρ,r,h⟩:=h;unfold look at h;split at h
 ·rename_i sv q
  obtain⟨v,e1,e2⟩:=r.get q;exact⟨v,e1,h v H (Same.refl H) e2⟩
 ·exact Qg h
def con (d:D):Rho->M D:=fun _=>ok d
theorem aAl {i j pos}:PD X B (.Constant (.int i) j pos) (con (.int i)):=PE.of bPb fun σ H Q ⟨ρ,r,h⟩=>h _ H (Same.refl H) (.int i)
theorem aIg {i j pos}:PD X B (.Constant (.bool i) j pos) (con (.bl i)):=PE.of bS8 fun σ H Q ⟨ρ,r,h⟩=>h _ H (Same.refl H) (.bl i)
theorem aTd {j pos}:PD X B (.Constant .none j pos) (con .non):=PE.of bPa fun σ H Q ⟨ρ,r,h⟩=>h _ H (Same.refl H) .non
theorem aCq {x j pos}:PD X B (.Constant (.str x) j pos) (con (.str x)):=PE.of bO7 fun σ H Q ⟨ρ,r,h⟩=>h _ H (Same.refl H) (.str x)
def b2 (g:D->D->M D)(fa fb:Rho->M D):Rho->M D:=fun ρ=>bnd (fa ρ) fun x=>bnd (fb ρ) fun y=>g x y
def aSa (X:Cx)(r:R2)(g:D->D->M D):Prop:= ∀(H:Hp) (x y:V) (dx dy d:D) (Q:VK),Is X.K H dx x->Is X.K H dy y->g dx dy=ok d->(∀v H',Same H H'->Is X.K H' d v->Q v H')->r x y H Q
def aIi {α β:Type}(g:α->β->M D):Prop:= ∀x y c,g x y≠err c
variable {fa fb fc:Rho->M D}
theorem aYc {r:R2}{g:D->D->M D}(hg:aSa X r g)(hn:aIi g){σ:St}{H:Hp}{Q:VK}(h:tD X B (b2 g fa fb) σ H Q):tOp r (tD X B fa) (tD X B fb) σ H Q:=by
 obtain⟨ρ,r1,h⟩:=h;refine⟨ρ,r1,(Res.bind h).imp fun dx h1 v H1 e1 i1=>⟨ρ,r1.mono e1,(Res.bind h1).mono e1 fun dy h2 u H2 e2 i2=> ?_⟩⟩;cases q:g dx dy with
 | none=>rw[q] at h2;exact Qg h2
 | some z=>
  cases z with
  | error c=>exact absurd q (hn dx dy c)
  | ok d=>
   rw[q] at h2;exact hg H2 v u dx dy d Q (i1.mono e2) i2 q fun w H3 e3 i3=>h2 w H3 ((e1.trans e2).trans e3) i3
theorem aO6 {op:Operator}{r:R2}{g:D->D->M D}(ho:OpR X (Jh op) r)(hg:aSa X r g)(hn:aIi g)(ha:PD X B a fa)(hb:PD X B b fb):PD X B (.BinOp a op b pos) (b2 g fa fb):=
 PE.of (bS6 ho ha hb) fun _ _ _ h=>aYc hg hn h
theorem aNl {op:CmpOp}{r:R2}{g:D->D->M D}(ho:OpR X (Yp op) r)(hg:aSa X r g)(hn:aIi g)(ha:PD X B a fa)(hb:PD X B b fb)(hm:behindInMarks op b=false):PD X B (.Compare a [op] [b] pos) (b2 g fa fb):=
 PE.of (bK6 ho ha hb hm) fun _ _ _ h=>aYc hg hn h
def tru:D->M Bool
 | .non=>ok false
 | .bl b=>ok b
 | .int i=>ok (i !=0)
 | .tup ds=>ok (!ds.isEmpty)
 | .lst ds=>ok (!ds.isEmpty)
 | _=>none
def bNg:D->M Bool
 | .bl b=>ok b
 | _=>none
def test (f:Rho->M D):Rho->M Bool:=fun ρ=>bnd (f ρ) tru
def aA9 (f:Rho->M D):Rho->M Bool:=fun ρ=>bnd (f ρ) bNg
theorem aKb {op:CmpOp}{r:R2}{g:D->D->M D}(ho:OpR X (Yp op) r)(hg:aSa X r g)(hn:aIi g)(ha:PD X B a fa)(hb:PD X B b fb)(hm:behindInMarks op b=false):PDT X B (.Compare a [op] [b] pos) (aA9 (b2 g fa fb)):=by
 refine PT.of (bKx ho ha hb hm) fun σ H Q h=> ?_
 obtain⟨ρ,r1,h⟩:=h;refine aYc hg hn ⟨ρ,r1,(Res.bind h).imp fun d h1 v H1 e1 i1=> ?_⟩;unfold bNg at h1;split at h1
 ·rename_i k
  cases i1;exact⟨k,rfl,h1 H1 e1⟩
 ·exact Qg h1
theorem aIz {K:Qc}{H:Hp}{ds:List D}{vs:List V}(r:IsL K H ds vs):vs.isEmpty=ds.isEmpty:=by cases r<;>rfl
theorem bSj {K:Qc}{H:Hp}{d:D}{v:V}{k:Bool}(i:Is K H d v)(h:tru d=ok k):bUt K v H k:=by
 cases i with
 | non=>exact (aBq h).symm
 | bl b=>exact (aBq h).symm
 | int i=>exact (aBq h).symm
 | str x=>exact absurd h (by simp[tru,ok])
 | tup h1 r=>exact .inr (.inl ⟨_,h1,by rw[aIz r];exact (aBq h).symm⟩)
 | lst h1 r=>exact .inl ⟨_,h1,by rw[aIz r];exact (aBq h).symm⟩
 | obj h1 r=>exact absurd h (by simp[tru,ok])
 | dk h1 r=>exact absurd h (by simp[tru,ok])
 | dt h1 r=>exact absurd h (by simp[tru,ok])
 | exc h1=>exact absurd h (by simp[tru,ok])
 | set h1=>exact absurd h (by simp[tru,ok])
theorem bAy (d:D)(c:Addr):tru d≠err c:=by cases d<;>simp[tru,ok,err]
theorem aEd (ha:PD X B a fa)(he: ∀whole,isTrue a X.env whole=(do let v<-whole;standAt a.pos;holding [v] (truthy v)):=by intro _;rfl):PDT X B a (test fa):=by
 refine PT.of (bGf ha he) fun σ H Q h=> ?_
 obtain⟨ρ,r1,h⟩:=h;refine⟨ρ,r1,(Res.bind h).imp fun d h1 v H1 e1 i1=> ?_⟩;cases q:tru d with
 | none=>rw[q] at h1;exact Qg h1
 | some z=>
  cases z with
  | error c=>exact absurd q (bAy d c)
  | ok k=>rw[q] at h1;exact⟨k,bSj i1 q,h1 H1 e1⟩
variable {ta tb tc:Rho->M Bool}{rest:List Expr}
def bR2 (f g:Rho->M Bool):Rho->M Bool:=fun ρ=>bnd (f ρ) fun x=>if x=true then g ρ else ok false
def orB (f g:Rho->M Bool):Rho->M Bool:=fun ρ=>bnd (f ρ) fun x=>if x=true then ok true else g ρ
def aKi (f:Rho->M Bool):Rho->M Bool:=fun ρ=>bnd (f ρ) fun x=>ok (!x)
theorem bGo (ha:PDT X B a ta):PDW X B (.BoolOp .And [a] pos) ta:=bKt ha
theorem aNk (ha:PDT X B a ta):PDW X B (.BoolOp .Or [a] pos) ta:=bOx ha
theorem bK9 (ha:PDT X B a ta)(hb:PDW X B (.BoolOp .And (b::rest) pos) tb):PDW X B (.BoolOp .And (a::b::rest) pos) (bR2 ta tb):=by
 refine PW.of (bOy ha hb) fun σ H Q h=> ?_
 obtain⟨ρ,r1,h⟩:=h;refine⟨ρ,r1,(Res.bind h).imp fun x h1 H1 e1=> ?_⟩;cases x with
 | true=>exact⟨ρ,r1.mono e1,Res.mono e1 h1 fun y q H2 e2=>q H2 (e1.trans e2)⟩
 | false=>exact h1 H1 e1
theorem aS8 (ha:PDT X B a ta)(hb:PDW X B (.BoolOp .Or (b::rest) pos) tb):PDW X B (.BoolOp .Or (a::b::rest) pos) (orB ta tb):=by
 refine PW.of (bS1 ha hb) fun σ H Q h=> ?_
 obtain⟨ρ,r1,h⟩:=h;refine⟨ρ,r1,(Res.bind h).imp fun x h1 H1 e1=> ?_⟩;cases x with
 | false=>exact⟨ρ,r1.mono e1,Res.mono e1 h1 fun y q H2 e2=>q H2 (e1.trans e2)⟩
 | true=>exact h1 H1 e1
theorem PDW.pdt {f:Rho->M Bool}(h:PDW X B e f):PDT X B e f:=h.pt
theorem aE0 (ha:PDT X B a ta):PDT X B (.UnaryOp .Not a pos) (aKi ta):=by
 refine PT.of (bO1 ha) fun σ H Q h=> ?_
 obtain⟨ρ,r1,h⟩:=h;exact⟨ρ,r1,(Res.bind h).imp fun x h1 H1 e1=>h1 H1 e1⟩
def aO3 (f g:Rho->M D):Rho->M D:=fun ρ=>bnd (f ρ) fun x=>bnd (bNg x) fun k=>if k=true then g ρ else ok (.bl false)
def orV (f g:Rho->M D):Rho->M D:=fun ρ=>bnd (f ρ) fun x=>bnd (bNg x) fun k=>if k=true then ok (.bl true) else g ρ
def bU8 (f:Rho->M D):Rho->M D:=fun ρ=>bnd (f ρ) fun x=>bnd (bNg x) fun k=>ok (.bl (!k))
theorem aR6 {σ:St}{H:Hp}{Q:Bool->Prop}{d:D}(h:Res X σ H Q (bNg d)): ∃k,d= .bl k/\Q k:=by
 unfold bNg at h;split at h
 ·exact⟨_,rfl,h⟩
 ·exact Qg h
theorem aLq {op}(h:PD X B a fa):PD X B (.BoolOp op [a] pos) fa:=bO8 h
theorem aIp (ha:PD X B a fa)(hb:PD X B (.BoolOp .And (b::rest) pos) fb):PD X B (.BoolOp .And (a::b::rest) pos) (aO3 fa fb):=by
 refine PE.of (bPe ha hb) fun σ H Q h=> ?_
 obtain⟨ρ,r1,h⟩:=h;refine⟨ρ,r1,(Res.bind h).imp fun d h1 v H1 e1 i1=> ?_⟩;obtain⟨k,rfl,h2⟩:=aR6 (Res.bind h1);cases i1;refine⟨k,rfl,?_⟩;cases k with
 | true=>exact⟨ρ,r1.mono e1,Res.mono e1 h2 fun y q u H2 e2 i2=>q u H2 (e1.trans e2) i2⟩
 | false=>exact h2 _ H1 e1 (.bl false)
theorem bTa (ha:PD X B a fa)(hb:PD X B (.BoolOp .Or (b::rest) pos) fb):PD X B (.BoolOp .Or (a::b::rest) pos) (orV fa fb):=by
 refine PE.of (bS5 ha hb) fun σ H Q h=> ?_
 obtain⟨ρ,r1,h⟩:=h;refine⟨ρ,r1,(Res.bind h).imp fun d h1 v H1 e1 i1=> ?_⟩;obtain⟨k,rfl,h2⟩:=aR6 (Res.bind h1);cases i1;refine⟨k,rfl,?_⟩;cases k with
 | false=>exact⟨ρ,r1.mono e1,Res.mono e1 h2 fun y q u H2 e2 i2=>q u H2 (e1.trans e2) i2⟩
 | true=>exact h2 _ H1 e1 (.bl true)
theorem bPg (ha:PD X B a fa):PD X B (.UnaryOp .Not a pos) (bU8 fa):=by
 refine PE.of (bO9 ha) fun σ H Q h=> ?_
 obtain⟨ρ,r1,h⟩:=h;refine⟨ρ,r1,(Res.bind h).imp fun d h1 v H1 e1 i1=> ?_⟩;obtain⟨k,rfl,h2⟩:=aR6 (Res.bind h1);cases i1;exact⟨k,rfl,h2 _ H1 e1 (.bl _)⟩
def aBu:Expr->Bool
 | .Starred .. =>false
 | _=>true
theorem aAv {e:Expr}{es:List Expr}{env:Env}(h:aBu e=true):Zi (e::es) env=(false,eval e env)::Zi es env:=by
 cases e<;>first | rfl | cases h
theorem aLy {e:Expr}{env:Env}(h:aBu e=true):Zi [e] env=[(false,eval e env)]:=aAv h
theorem aUt {e f:Expr}{env:Env}(h:aBu e=true)(h':aBu f=true):Zi [e,f] env=[(false,eval e env),(false,eval f env)]:=by rw[aAv h,aLy h']
def aAg:Rho->M (List D):=fun _=>ok []
def aAa (f:Rho->M D)(g:Rho->M (List D)):Rho->M (List D):=fun ρ=>bnd (f ρ) fun x=>bnd (g ρ) fun xs=>ok (x::xs)
variable {ga:Rho->M (List D)}
theorem aAi:PDA X B [] aAg:=PA.of aDl fun σ H Q ⟨ρ,r,h⟩=>h [] H (Same.refl H) .nil
theorem aAc (ha:PD X B e fa)(hr:PDA X B es ga)(hs:Zi (e::es) X.env=(false,eval e X.env)::Zi es X.env:=by exact aAv rfl):PDA X B (e::es) (aAa fa ga):=by
 refine PA.of (aB8 ha hr hs) fun σ H Q h=> ?_
 obtain⟨ρ,r1,h⟩:=h;refine⟨ρ,r1,(Res.bind h).imp fun d h1 v H1 e1 i1=>⟨ρ,r1.mono e1,(Res.bind h1).mono e1 fun ds h2 vs H2 e2 i2=> ?_⟩⟩;exact h2 (v::vs) H2 (e1.trans e2) (.cons (i1.mono e2) i2)
theorem aAp {H:Hp}{p:Addr}(h:H p=none)(o:HO):Same H (upd H p o):=fun b u q=>by rw[aAo (aCf q h)];exact q
def mkT (g:Rho->M (List D)):Rho->M D:=fun ρ=>bnd (g ρ) fun ds=>if ds.length<=1000 then ok (.tup ds) else none
def mkL (g:Rho->M (List D)):Rho->M D:=fun ρ=>bnd (g ρ) fun ds=>if ds.length<=1000 then ok (.lst ds) else none
theorem bCy {n:Nat}(h:n<=1000):n<=Qy:=Um (bBc h)
theorem aBt {x1}(h:PDA X B es ga):PD X B (.Tuple es x1 pos) (mkT ga):=by
 refine PE.of (bO6 h) fun σ H Q h=> ?_
 obtain⟨ρ,r1,h⟩:=h;refine⟨ρ,r1,(Res.bind h).imp fun ds h1 vs H1 e1 i1=> ?_⟩;by_cases hl:ds.length<=1000
 ·rw[if_pos hl] at h1
  exact⟨by rw[<-i1.length];exact bCy hl,fun p hp=>h1 _ _ (e1.trans (aAp hp _)) (.tup (TQ.of aAm) (i1.mono (aAp hp _)))⟩
 ·rw[if_neg hl] at h1;exact Qg h1
theorem aLr (h:PDA X B es ga):PD X B (.List es pos) (mkL ga):=by
 refine PE.of (aW6 h) fun σ H Q h=> ?_
 obtain⟨ρ,r1,h⟩:=h;refine⟨ρ,r1,(Res.bind h).imp fun ds h1 vs H1 e1 i1=> ?_⟩;by_cases hl:ds.length<=1000
 ·rw[if_pos hl] at h1
  exact⟨by rw[<-i1.length];exact bCy hl,fun p hp=>h1 _ _ (e1.trans (aAp hp _)) (.lst (SqL.of aAm) (i1.mono (aAp hp _)))⟩
 ·rw[if_neg hl] at h1;exact Qg h1
end
def aM2:D->D->M D
 | .int i,.int j=>ok (.int (i-j))
 | _,_=>none
def bFc (i j:Int):Bool:=decide (Z4 i<=1048576)&&decide (Z4 j<=1048576)
def bNv:D->D->M D
 | .int i,.int j=>if bFc i j=true then ok (.int (i*j)) else none
 | _,_=>none
def aEe:D->D->M D
 | .int i,.int j=>if 0<j/\j<1073741824 then ok (.int (i/j)) else none
 | _,_=>none
def aEa:D->D->M D
 | .int i,.int j=>if 0<j then ok (.int (i%j)) else none
 | _,_=>none
def aOn:D->D->M D
 | .int i,.int j=>if 0<=j/\j<=1000/\i.natAbs<1000 then ok (.int (i^j.toNat)) else none
 | _,_=>none
section
variable {X:Cx}{B:Hp}{a b:Expr}{fa fb:Rho->M D}{pos:Pos}
theorem bL5 {i j:Int}(h:bFc i j=true):IntMulOk i j:=by
 unfold bFc at h;rw[Zg] at h;exact IntMulOk.of_bits (of_decide_eq_true h.1) (of_decide_eq_true h.2)
theorem bLp:OpR X (Jh .Mult) (rI (fun i j=>bFc i j=true) fun i j=> .int (i*j)):=opI fun _ _ _ _ _ _ _ hc q=>mul_int q (bL5 hc)
theorem bBv {h:Int->Int->Int}{g:D->D->M D}(hg: ∀dx dy d,g dx dy=ok d->∃i j,dx= .int i/\dy= .int j/\d= .int (h i j)):aSa X (rI0 fun i j=> .int (h i j)) g:=by
 intro H x y dx dy d Q ix iy e q;obtain⟨i,j,rfl,rfl,rfl⟩:=hg _ _ _ e;cases ix;cases iy;exact⟨i,j,rfl,rfl,q _ H (Same.refl H) (.int _)⟩
theorem bGc {C:Int->Int->Prop}{h:Int->Int->Int}{g:D->D->M D}(hg: ∀dx dy d,g dx dy=ok d->∃i j,dx= .int i/\dy= .int j/\C i j/\d= .int (h i j)):aSa X (rI C fun i j=> .int (h i j)) g:=by
 intro H x y dx dy d Q ix iy e q;obtain⟨i,j,rfl,rfl,c,rfl⟩:=hg _ _ _ e;cases ix;cases iy;exact⟨i,j,rfl,rfl,c,q _ H (Same.refl H) (.int _)⟩
theorem aLp (ha:PD X B a fa)(hb:PD X B b fb):PD X B (.BinOp a .Sub b pos) (b2 aM2 fa fb):=
 aO6 bPm (bBv fun dx dy d e=>by
  unfold aM2 at e;split at e<;>first |(cases e;done) | exact⟨_,_,rfl,rfl,(aBq e).symm⟩) (by intro x y c h;unfold aM2 at h;(repeat' split at h)<;>cases h) ha hb
theorem aIu (ha:PD X B a fa)(hb:PD X B b fb):PD X B (.BinOp a .FloorDiv b pos) (b2 aEe fa fb):=
 aO6 bLq (bGc fun dx dy d e=>by
  unfold aEe at e;split at e<;>first |(cases e;done) | skip
  split at e
  ·rename_i h;exact⟨_,_,rfl,rfl,h,(aBq e).symm⟩
  ·exact nomatch e) (by intro x y c h;unfold aEe at h;(repeat' split at h)<;>cases h) ha hb
theorem aD6 (ha:PD X B a fa)(hb:PD X B b fb):PD X B (.BinOp a .Mod b pos) (b2 aEa fa fb):=
 aO6 bPp (bGc fun dx dy d e=>by
  unfold aEa at e;split at e<;>first |(cases e;done) | skip
  split at e
  ·rename_i h;exact⟨_,_,rfl,rfl,h,(aBq e).symm⟩
  ·exact nomatch e) (by intro x y c h;unfold aEa at h;(repeat' split at h)<;>cases h) ha hb
theorem aTc (ha:PD X B a fa)(hb:PD X B b fb):PD X B (.BinOp a .Pow b pos) (b2 aOn fa fb):=
 aO6 bPo (bGc fun dx dy d e=>by
  unfold aOn at e;split at e<;>first |(cases e;done) | skip
  split at e
  ·rename_i h;exact⟨_,_,rfl,rfl,⟨h.1,by omega,by have:=h.2.2;omega⟩,(aBq e).symm⟩
  ·exact nomatch e) (by intro x y c h;unfold aOn at h;(repeat' split at h)<;>cases h) ha hb
def gLt:D->D->M D
 | .int i,.int j=>ok (.bl (decide (i<j)))
 | _,_=>none
def gGt:D->D->M D
 | .int i,.int j=>ok (.bl (decide (j<i)))
 | _,_=>none
def gGe:D->D->M D
 | .int i,.int j=>ok (.bl (decide (j<=i)))
 | _,_=>none
def eqF:D->D->Option Bool
 | .non,.non=>some true
 | .non,.int _=>some false
 | .int _,.non=>some false
 | .non,.bl _=>some false
 | .bl _,.non=>some false
 | .non,.str _=>some false
 | .str _,.non=>some false
 | .int i,.int j=>some (decide (i=j))
 | .bl i,.bl j=>some (decide (i=j))
 | .str i,.str j=>some (decide (i=j))
 | .int _,.str _=>some false
 | .str _,.int _=>some false
 | .bl _,.str _=>some false
 | .str _,.bl _=>some false
 | _,_=>none
def gEq (x y:D):M D:=match eqF x y with
 | some b=>ok (.bl b)
 | none=>none
def gNe (x y:D):M D:=match eqF x y with
 | some b=>ok (.bl (!b))
 | none=>none
def bMt:D->Bool
 | .non=>true
 | _=>false
def gIs:D->D->M D
 | x,.non=>ok (.bl (bMt x))
 | _,_=>none
theorem bBu {h:Int->Int->Bool}{g:D->D->M D}(hg: ∀dx dy d,g dx dy=ok d->∃i j,dx= .int i/\dy= .int j/\d= .bl (h i j)):aSa X (rI0 fun i j=> .bl (h i j)) g:=by
 intro H x y dx dy d Q ix iy e q;obtain⟨i,j,rfl,rfl,rfl⟩:=hg _ _ _ e;cases ix;cases iy;exact⟨i,j,rfl,rfl,q _ H (Same.refl H) (.bl _)⟩
theorem bU0:aSa X (rI0 fun i j=> .bl (decide (i<j))) gLt:=bBu fun dx dy d e=>by
  unfold gLt at e;split at e<;>first |(cases e;done) | exact⟨_,_,rfl,rfl,(aBq e).symm⟩
theorem bWa:aSa X (rI0 fun i j=> .bl (decide (j<i))) gGt:=bBu fun dx dy d e=>by
  unfold gGt at e;split at e<;>first |(cases e;done) | exact⟨_,_,rfl,rfl,(aBq e).symm⟩
theorem bWb:aSa X (rI0 fun i j=> .bl (decide (j<=i))) gGe:=bBu fun dx dy d e=>by
  unfold gGe at e;split at e<;>first |(cases e;done) | exact⟨_,_,rfl,rfl,(aBq e).symm⟩
theorem bU9:aIi gLt:=by intro x y c h;unfold gLt at h;split at h<;>cases h
theorem bWp:aIi gGt:=by intro x y c h;unfold gGt at h;split at h<;>cases h
theorem bWq:aIi gGe:=by intro x y c h;unfold gGe at h;split at h<;>cases h
theorem bWo:aIi gIs:=by intro x y c;cases y<;>(intro h;exact nomatch h)
theorem n_eq:aIi gEq:=by intro x y c h;unfold gEq at h;split at h<;>exact nomatch h
theorem bWm:aIi gNe:=by intro x y c h;unfold gNe at h;split at h<;>exact nomatch h
theorem bRm {K:Qc}{H:Hp}{dx dy:D}{x y:V}{b:Bool}(ix:Is K H dx x)(iy:Is K H dy y)(e:eqF dx dy=some b):bSv x y=true/\decide (x=y)=b:=by
 cases ix with
 | non=>cases iy<;>first |(cases e;done) |(have e':=Option.some.inj e;subst e';exact⟨rfl,by simp⟩)
 | bl=>cases iy<;>first |(cases e;done) |(have e':=Option.some.inj e;subst e';exact⟨rfl,by simp⟩)
 | int=>cases iy<;>first |(cases e;done) |(have e':=Option.some.inj e;subst e';exact⟨rfl,by simp⟩)
 | str=>cases iy<;>first |(cases e;done) |(have e':=Option.some.inj e;subst e';exact⟨rfl,by simp⟩)
 | _=>exact nomatch e
theorem bU1:aSa X rEq gEq:=by
 intro H x y dx dy d Q ix iy e q;unfold gEq at e;split at e
 ·rename_i b hb
  obtain⟨h1,h2⟩:=bRm ix iy hb;have e':=aBq e;subst e';exact⟨h1,by rw[h2];exact q _ H (Same.refl H) (.bl _)⟩
 ·exact nomatch e
theorem bV7:aSa X rNe gNe:=by
 intro H x y dx dy d Q ix iy e q;unfold gNe at e;split at e
 ·rename_i b hb
  obtain⟨h1,h2⟩:=bRm ix iy hb;have e':=aBq e;subst e';exact⟨h1,by rw[h2];exact q _ H (Same.refl H) (.bl _)⟩
 ·exact nomatch e
theorem bMs {K:Qc}{H:Hp}{dx:D}{x:V}(ix:Is K H dx x):decide (x=V.non)=bMt dx:=by
 cases ix<;>simp[bMt]
theorem bV9:aSa X (fun x y H Q=>y= .non/\Q (.bl (decide (x= .non))) H) gIs:=by
 intro H x y dx dy d Q ix iy e q;cases iy<;>first |(cases e;done) | skip
 have e':=aBq e;subst e';exact⟨rfl,by rw[bMs ix];exact q _ H (Same.refl H) (.bl _)⟩
theorem bTb (ha:PD X B a fa)(hb:PD X B b fb):PD X B (.Compare a [.Lt] [b] pos) (b2 gLt fa fb):=aNl bPq bU0 bU9 ha hb (aHb _)
theorem bTd (ha:PD X B a fa)(hb:PD X B b fb):PD X B (.Compare a [.GtE] [b] pos) (b2 gGe fa fb):=aNl bTk bWb bWq ha hb (aHb _)
theorem bPj (ha:PD X B a fa)(hb:PD X B b fb):PD X B (.Compare a [.Eq] [b] pos) (b2 gEq fa fb):=aNl bPt bU1 n_eq ha hb (aHb _)
theorem bTc (ha:PD X B a fa)(hb:PD X B b fb):PD X B (.Compare a [.Is] [b] pos) (b2 gIs fa fb):=aNl bPs bV9 bWo ha hb (aHb _)
theorem bI4 (ha:PD X B a fa)(hb:PD X B b fb):PDT X B (.Compare a [.Lt] [b] pos) (aA9 (b2 gLt fa fb)):=aKb bPq bU0 bU9 ha hb (aHb _)
theorem bI5 (ha:PD X B a fa)(hb:PD X B b fb):PDT X B (.Compare a [.Gt] [b] pos) (aA9 (b2 gGt fa fb)):=aKb bTj bWa bWp ha hb (aHb _)
theorem bB5 (ha:PD X B a fa)(hb:PD X B b fb):PDT X B (.Compare a [.Eq] [b] pos) (aA9 (b2 gEq fa fb)):=aKb bPt bU1 n_eq ha hb (aHb _)
theorem aW8 (ha:PD X B a fa)(hb:PD X B b fb):PDT X B (.Compare a [.NotEq] [b] pos) (aA9 (b2 gNe fa fb)):=aKb bTh bV7 bWm ha hb (aHb _)
def gIx:D->D->M D
 | .lst ds,.int i=>match atI ds i with | some d=>ok d | none=>none
 | .tup ds,.int i=>match atI ds i with | some d=>ok d | none=>none
 | .str z,.int i=>if z.length<=1000 then (match atI z.cps.toList i with | some c=>ok (.str ⟨#[c]⟩) | none=>none) else none
 | _,_=>none
theorem bWn:aIi gIx:=by intro x y c h;unfold gIx at h;(repeat' split at h)<;>cases h
theorem bEy {K:Qc}{H:Hp}{ds:List D}{vs:List V}{i:Int}{d:D}(r:IsL K H ds vs)(e:atI ds i=some d): ∃v,atI vs i=some v/\Is K H d v:=by
 unfold atI at e⊢;rw[r.length] at e;cases q:ixN vs.length i with
 | none=>rw[q] at e;exact nomatch e
 | some j=>rw[q] at e;exact r.get e
theorem bV8:aSa X (rIx X.K) gIx:=by
 intro H x y dx dy d Q ix iy e q;unfold gIx at e;split at e
 ·split at e
  ·rename_i d' hd
   cases ix with
   | lst h r=>
    cases iy;have e':=aBq e;subst e';obtain⟨v,h1,h2⟩:=bEy r hd;exact .inl ⟨_,_,_,v,rfl,rfl,h,h1,q _ H (Same.refl H) h2⟩
  ·cases e
 ·split at e
  ·rename_i d' hd
   cases ix with
   | tup h r=>
    cases iy;have e':=aBq e;subst e';obtain⟨v,h1,h2⟩:=bEy r hd;exact .inr (.inl ⟨_,_,_,v,rfl,rfl,h,h1,q _ H (Same.refl H) h2⟩)
  ·cases e
 ·split at e
  ·rename_i hz
   split at e
   ·rename_i c hc
    cases ix;cases iy;have e':=aBq e;subst e';exact .inr (.inr ⟨_,_,c,rfl,rfl,Zs hz (by decide),hc,q _ H (Same.refl H) (.str _)⟩)
   ·cases e
  ·cases e
 ·cases e
theorem aJh (ha:PD X B a fa)(hb:PD X B b fb)(hs:bE3 b):PD X B (.Subscript a b pos) (b2 gIx fa fb):=PE.of (bS7 bQl ha hb hs) fun _ _ _ h=>aYc bV8 bWn h
def aFm (f:Rho->M D):Rho->M (Option Int):=fun ρ=>bnd (f ρ) fun d=>match d with | .int i=>ok (some i) | _=>none
def aGr:Rho->M (Option Int):=fun _=>ok none
def tDO (X:Cx)(B:Hp)(f:Rho->M (Option Int)):TO:=fun σ H Q=> ∃ρ,Rel X.K B ρ σ H/\Res X σ H (fun o=> ∀H',Same H H'->Q o H') (f ρ)
theorem aGo:PO X none (tDO X B aGr):=fun pins s σ H Q I ⟨ρ,r,h⟩=>bK1 pins s σ H Q I (h H (Same.refl H))
theorem aGn {e:Expr}(he:PD X B e fa):PO X (some e) (tDO X B (aFm fa)):=fun pins s σ H Q I ⟨ρ,r,h⟩=>by
 refine bK0 he pins s σ H Q I ⟨ρ,r,(Res.bind h).imp fun d h1 v H1 e1 i1=> ?_⟩;cases i1<;>first | exact Qg h1 | exact⟨_,rfl,h1 H1 e1⟩
def cutD (xs:List D)(lo hi:Option Int):List D:=(xs.drop (HT.sIx xs.length 0 lo)).take (HT.sIx xs.length xs.length hi-HT.sIx xs.length 0 lo)
def aFy (z:Str)(lo hi:Option Int):Str:=⟨((z.cps.toList.drop (HT.sIx z.length 0 lo)).take (HT.sIx z.length z.length hi-HT.sIx z.length 0 lo)).toArray⟩
theorem aT0 {α:Type}(xs:List α){i j:Nat}(h:i=0)(h':j=xs.length):(xs.drop i).take (j-i)=xs:=by
 subst h h';rw[List.drop_zero,Nat.sub_zero,List.take_length]
section
variable {prog:Qx}{w:Zb}{A:Ze}{E:Qd->Qf->Prop}{s:Qf}
theorem aI0 {t sl:Addr}{items:Array Qd}{vl vu:Qd}{lo hi:Option Int}{Q:Qd->Qf->Prop}(ht:IsTup s.heap t items)(hs:s.heap.IsSliceOf sl vl vu .none)(pl:IsPart vl lo)(pu:IsPart vu hi)
  (hw:HT.sIx items.size 0 lo=0/\HT.sIx items.size items.size hi=items.size) (h:Q (.ref t) s):Qp (Qt prog w) A (getItem (.ref t) (.ref sl)) Q E s:=by
 obtain⟨os,hos,hcs,hds⟩:=id hs;have hTs:s.TypeIs (.ref sl) "slice":=⟨os,hos,hcs⟩;unfold getItem
 try with_reducible refine Yh ?_
 first | refine Qa (Qe ?_) | skip
 refine Qa (wpAny_sequenceKey ht.typeIs (by decide) ?_);refine Qa (Zm (name:=Yz "__getitem__") ht.typeIs Jo
  (Za Jo ht.typeIs entry_tuple_getitem ?_ (args_tuple_getitem _ _)))
 show Qp _ _ (Builtin.Tuple.tupleItemsOf (.ref t)>>=_) _ _ s;refine Qa (tupleItemsOf_ ht ?_);refine Qa (wpAny_typeOf hTs ?_);rw[if_pos (by decide)];refine Qa (HT.aG3 hs pl pu ?_);show Qp _ _ (if (((HT.sIx items.size 0 lo:Nat):Int)==0&&(1:Int)==1&&(HT.sIx items.size items.size hi-HT.sIx items.size 0 lo)==items.size)=true then _ else _) _ _ s;rw[if_pos (by rw[hw.1,hw.2];simp)];refine Qa (m:=Builtin.Tuple.tupleIsExact _) (Qa (m:=typeOf _) (wpAny_typeOf ht.typeIs (Qe ?_)));rw[if_pos (by decide)];exact Qa (wpAny_rule (Qa (Qe (Qe ⟨_,rfl,Qe h⟩))))
theorem aQy (z:Str)(l u:Option (Int×Tok)):slicePicked z l u none=(Zj (HT.sIx z.length z.length (u.map (·.1))-HT.sIx z.length 0 (l.map (·.1)))).map (HT.sIx z.length 0 (l.map (·.1))+ ·):=by
 have cl: ∀(i:Int) (d:Nat),max 0 (min (if i<0 then i+(z.length:Int) else i) (z.length:Int))=((HT.sIx z.length d (some i):Nat):Int):=by
  intro i d;show _=(((if i<0 then (i+(z.length:Int)).toNat else min i.toNat z.length):Nat):Int);by_cases hv:i<0
  ·simp only[if_pos hv];omega
  ·simp only[if_neg hv];omega
 have e:slicePicked z l u none=sliceRange ((HT.sIx z.length 0 (l.map (·.1)):Nat):Int) ((HT.sIx z.length z.length (u.map (·.1)):Nat):Int) 1:=by
  unfold slicePicked Builtin.Str.strSliceIndices;simp only[Option.map_none,Wj,show (1:Int)>0 by decide,if_true]
  congr 1
  ·cases l with
   | none=>rfl
   | some i=>exact cl i.1 0
  ·cases u with
   | none=>rfl
   | some i=>exact cl i.1 z.length
 rw[e,sliceRange_one]
end
section
variable {X:Cx}
def bWc (K:Qc):V->Option Int->Option Int->Hp->VK->Prop:=fun x lo hi H Q=> ∃a xs,x= .ref a/\SqT K H a xs/\(HT.sIx xs.length 0 lo=0/\HT.sIx xs.length xs.length hi=xs.length)/\Q (.ref a) H
theorem bKk:SlR X (bWc X.K):=by
 intro pins s σ H x v vl vu lo hi sl Q I rx hs pl pu h;obtain⟨a,xs,rfl,hx,hw,q⟩:=h;cases rx;obtain⟨its,r,ht,hz⟩:=I.tuple hx;have hlen:its.toArray.size=xs.length:=by rw[Qu];exact r.length.symm
 exact⟨"tuple",_,PyProof.Rows.slot_tuple_getitem.lookup,ht.typeIs,aI0 ht hs pl pu (by rw[hlen];exact hw) ⟨.ref a,H,I,rfl,q⟩⟩
def bWe:V->Option Int->Option Int->Hp->VK->Prop:=fun x lo hi H Q=> ∃z,x= .str z/\z.length<=Qy/\Q (.str (aFy z lo hi)) H
theorem part_of {v:Qd}{o:Option Int}(p:IsPart v o): ∃l:Option (Int×Tok),v=partValue l/\l.map (·.1)=o:=by
 cases p with
 | none=>exact⟨none,rfl,rfl⟩
 | int i t=>exact⟨some (i,t),rfl,rfl⟩
theorem bOk:SlR X bWe:=by
 intro pins s σ H x v vl vu lo hi sl Q I rx hs pl pu h;obtain⟨z,rfl,hz,q⟩:=h;obtain⟨t,rfl⟩:=rx;obtain⟨l,rfl,rfl⟩:=part_of pl;obtain⟨u,rfl,rfl⟩:=part_of pu;refine⟨"str",_,slot_str_getitem.lookup,typeIs_str s z t,?_⟩;refine wpAny_getItem_str_slice (l:=l) (u:=u) (st:=none) hs rfl ?_;have hp:=aQy z l u;have hj:HT.sIx z.length z.length (u.map (·.1))<=z.length:=HT.bBl _ _ (Qo _) _;have hi0:HT.sIx z.length 0 (l.map (·.1))<=z.length:=HT.bBl _ 0 (Zy _) _;have hc:z.cps.toList.length=z.length:=by simp[Str.length]
 unfold sliceMade;rw[hp];split
 ·rename_i hh
  simp only[Option.map_none,Wj,Qh,Zo,Zg,beq_iff_eq] at hh;have e:aFy z (l.map (·.1)) (u.map (·.1))=z:=by
   unfold aFy;rw[aT0 _ (by omega) (by omega)]
  exact⟨.str z,H,I,⟨t,rfl⟩,by rw[e] at q;exact q⟩
 ·rw[pick_run]
  refine⟨?_,⟨.str (aFy z (l.map (·.1)) (u.map (·.1))),H,I.tok _,⟨_,rfl⟩,q⟩⟩;show ((z.cps.toList.drop (HT.sIx z.length 0 (l.map (·.1)))).take _).toArray.size<=Qy;rw[Qu,Yv,Ub,hc];omega
end
def bVi:D->Option Int->Option Int->M D
 | .lst ds,lo,hi=>ok (.lst (cutD ds lo hi))
 | .tup ds,lo,hi=>ok (.tup (cutD ds lo hi))
 | .str z,lo,hi=>if z.length<=1000 then ok (.str (aFy z lo hi)) else none
 | _,_,_=>none
def aPl (fa:Rho->M D)(fl fh:Rho->M (Option Int)):Rho->M D:=fun ρ=>bnd (fa ρ) fun x=>bnd (fl ρ) fun l=>bnd (fh ρ) fun h=>bVi x l h
theorem bDd {K:Qc}{H:Hp}{ds:List D}{vs:List V}(r:IsL K H ds vs)(lo hi:Option Int):IsL K H (cutD ds lo hi) (bJx vs lo hi):=by
 unfold cutD bJx;rw[r.length];exact (r.drop _).take _
theorem aGp {e:Expr}{lo hi:Option Expr}{fl fh:Rho->M (Option Int)}{p2:Pos}(he:PD X B e fa)(hl:PO X lo (tDO X B fl))(hu:PO X hi (tDO X B fh)):PD X B (.Subscript e (.Slice lo hi none p2) pos) (aPl fa fl fh):=by
 refine PE.of (bGm (SlR.or bKl (SlR.or bOj (SlR.or bKk bOk))) he hl hu) fun σ H Q h=> ?_
 obtain⟨ρ,r1,h⟩:=h;refine⟨ρ,r1,(Res.bind h).imp fun d h1 v H1 e1 i1=>⟨ρ,r1.mono e1,(Res.bind h1).mono e1 fun l h2 H2 e2=>⟨ρ,(r1.mono e1).mono e2,(Res.bind h2).mono (e1.trans e2) fun u h3 H3 e3=> ?_⟩⟩⟩;have i3:=(i1.mono e2).mono e3;cases i3 with
 | lst hh r=>exact .inl ⟨_,_,rfl,hh,fun p hp=>h3 _ _ (((e1.trans e2).trans e3).trans (aAp hp _)) (.lst (SqL.of aAm) ((bDd r l u).mono (aAp hp _)))⟩
 | tup hh r=>
  rename_i a' ds' vs';have hlen:=r.length;by_cases hn:HT.sIx vs'.length 0 l=0/\HT.sIx vs'.length vs'.length u=vs'.length
  ·have e:cutD ds' l u=ds':=by
    unfold cutD;rw[hlen];exact aT0 _ hn.1 (by rw[hn.2,hlen])
   refine .inr (.inr (.inl ⟨_,_,rfl,hh,hn,?_⟩));have h4:=h3 _ _ ((e1.trans e2).trans e3) (show Is X.K H3 (.tup (cutD ds' l u)) (.ref a') by rw[e];exact .tup hh r);exact h4
  ·exact .inr (.inl ⟨_,_,rfl,hh,hn,fun p hp=>h3 _ _ (((e1.trans e2).trans e3).trans (aAp hp _)) (.tup (TQ.of aAm) ((bDd r l u).mono (aAp hp _)))⟩)
 | str z=>
  dsimp only[bVi] at h3
  split at h3
  ·rename_i hz
   exact .inr (.inr (.inr ⟨_,rfl,Zs hz (by decide),h3 _ _ ((e1.trans e2).trans e3) (.str _)⟩))
  ·exact Qg h3
 | _=>exact Qg h3
end
def tyN:D->Option String
 | .non=>some "NoneType"
 | .bl _=>some "bool"
 | .int _=>some "int"
 | .str _=>some "str"
 | .tup _=>some "tuple"
 | .lst _=>some "list"
 | .obj _ _=>none
 | .dk _=>some "dict"
 | .dt _=>some "dict"
 | .exc _=>none
 | .set _=>none
def isB (t T:String):Bool:=t==T ||(t=="bool"&&T=="int")
def bTv:List String:=["tuple","list","bool","str","int","dict"]
theorem bMi (K:Qc){d:D}{t T:String}(ht:tyN d=some t)(hT:T∈bTv):PySem.W.kitOne K (.type t) (.type T)=some (isB t T):=by
 unfold bTv at hT;simp only[Zt,Zf,or_false] at hT;cases d<;>(have e:=ht;unfold tyN at e;first |(cases e;done) | skip)<;>(have e':=Option.some.inj e;subst e')<;>rcases hT with rfl | rfl | rfl | rfl | rfl | rfl<;>kernel_rfl
section
variable {X:Cx}{B:Hp}{pins:List (Addr×Obj)}{σ:St}{H:Hp}{s:Qf}
theorem bQe {d:D}{x:V}{u:Qd}{t:String}(I:Inv X pins σ H s)(i:Is X.K H d x)(r:RelV x u)(ht:tyN d=some t):
  ∃HH:Heap->Prop,PySem.W.KitX X.K u (.type t) HH/\HH s.heap/\u≠ .builtin "__main__.__loader__#opaque":=by
 cases i with
 | non=>cases r;cases ht;exact⟨_,PySem.W.kitx_none,True.intro,fun z=>nomatch z⟩
 | bl b=>cases r;cases ht;exact⟨_,PySem.W.kitx_bool,True.intro,fun z=>nomatch z⟩
 | int b=>obtain⟨t,rfl⟩:=r;cases ht;exact⟨_,PySem.W.kitx_int,True.intro,fun z=>nomatch z⟩
 | str b=>obtain⟨t,rfl⟩:=r;cases ht;exact⟨_,PySem.W.kitx_str,True.intro,fun z=>nomatch z⟩
 | lst h rr=>
  cases r;cases ht;obtain⟨its,_,⟨o,n,e,hc,_,_⟩,_⟩:=I.list h;exact⟨_,PySem.W.kitx_list,⟨o,e,hc⟩,fun z=>nomatch z⟩
 | tup h rr=>
  cases r;cases ht;obtain⟨its,_,⟨o,e,hc,_,_⟩,_⟩:=I.tuple h.sq;exact⟨_,PySem.W.kitx_tuple,⟨o,e,hc⟩,fun z=>nomatch z⟩
 | obj h rr=>cases ht
 | dk h rr=>
  cases r;cases ht;obtain⟨_,_,vs,_,o,es,ep,e1,e2,_⟩:=(show aBn X.prog X.w H s.heap _ (.dK _) from h.ok I.hok);exact⟨_,En,⟨o,e1,e2.1⟩,fun z=>nomatch z⟩
 | dt h rr=>
  cases r;cases ht;obtain⟨_,_,vs,_,o,es,ep,e1,e2,_⟩:=(show aBn X.prog X.w H s.heap _ (.dT _) from I.hok _ _ h);exact⟨_,En,⟨o,e1,e2.1⟩,fun z=>nomatch z⟩
 | exc h=>cases ht
 | set h=>cases ht
end
section
variable {X:Cx}{B:Hp}{e:Expr}{fa:Rho->M D}{pos p p2:Pos}
def isi (T:String)(f:Rho->M D):Rho->M D:=fun ρ=>bnd (f ρ) fun d=>match tyN d with | some t=>ok (.bl (isB t T)) | none=>none
theorem aHm {x:Str}{T:String}(hg:Gl X "isinstance")(hm:X.mg "isinstance"=none)(hg2:Gl X x)(hm2:X.mg x=none)(hv:Jn x=some (.type T))(hT:T∈bTv)(ha:PD X B e fa)(hn:x≠"__name__":=by decide)(hd:(x==("__debug__":Str))=false:=by decide)
  (he:Zi [e,.Name x p2] X.env=[(false,eval e X.env),(false,eval (.Name x p2) X.env)]:=by exact aUt rfl rfl) (he2:Zi [.Name x p2] X.env=[(false,eval (.Name x p2) X.env)]:=by exact aLy rfl):PD X B (.Call (.Name "isinstance" p) [e,.Name x p2] [] pos) (isi T fa):=by
 have hc:aGh X (.builtin "isinstance") (fun xs H Q=> ∃d y t,xs=[y,.ty T]/\Is X.K H d y/\tyN d=some t/\Q (.bl (isB t T)) H):=by
  intro pins s σ H xs us Q I r h;obtain⟨d,y,t,rfl,i,ht,q⟩:=h;obtain⟨u,w',rfl,r1,r2⟩:=vals2 r;cases r2;obtain⟨HH,k1,k2,k3⟩:=bQe I i r1 ht;exact PySem.W.kia_one k1 I.kIn k2 (bMi X.K ht hT) k3 fun tk=>⟨.bl _,H,I.tok _,rfl,q⟩
 refine PE.of (aEr hc hg hm boot_isinstance (aB8 ha (aB8 (bK8 hg2 hm2 hv (v:=V.ty T) rfl hn hd) aDl he2) (by rw[he,he2])) (he:=by rw[he,he2]) (hpl:=by rw[he2];rfl)) fun σ H Q h=> ?_
 obtain⟨ρ,r1,h⟩:=h;refine⟨ρ,r1,(Res.bind h).imp fun d h1 v H1 e1 i1=> ?_⟩;cases q:tyN d with
 | none=>rw[q] at h1;exact Qg h1
 | some t=>rw[q] at h1;exact⟨d,v,t,rfl,i1,q,h1 _ H1 e1 (.bl _)⟩
def aI3:D->M D
 | .tup ds=>ok (.int ds.length)
 | .lst ds=>ok (.int ds.length)
 | _=>none
def f1 (g:D->M D)(f:Rho->M D):Rho->M D:=fun ρ=>bnd (f ρ) g
theorem aLs (hg:Gl X "len")(hm:X.mg "len"=none)(ha:PD X B e fa)(he:Zi [e] X.env=[(false,eval e X.env)]:=by exact aLy rfl):PD X B (.Call (.Name "len" p) [e] [] pos) (f1 aI3 fa):=by
 refine PE.of (aEr aLx hg hm Vo (aB8 ha aDl he) (he:=by rw[he];rfl) (hpl:=by rfl)) fun σ H Q h=> ?_
 obtain⟨ρ,r1,h⟩:=h;refine⟨ρ,r1,(Res.bind h).imp fun d h1 v H1 e1 i1=> ?_⟩;cases i1 with
 | lst hh r=>exact⟨_,_,rfl,.inl hh,by rw[<-r.length];exact h1 _ H1 e1 (.int _)⟩
 | tup hh r=>exact⟨_,_,rfl,.inr hh,by rw[<-r.length];exact h1 _ H1 e1 (.int _)⟩
 | _=>exact Qg h1
end
inductive Out where
 | nx (ρ:Rho) | rt (d:D) | bk (ρ:Rho) | ct (ρ:Rho) | ex (c:Addr) (ρ:Rho)
def Good (X:Cx)(B:Hp)(E:Ends):Out->Prop
 | .nx ρ=> ∀σ H,Rel X.K B ρ σ H->E.nx σ H
 | .rt d=> ∀v H,Same B H->Is X.K H d v->E.rt v H
 | .bk ρ=> ∀σ H,Rel X.K B ρ σ H->E.bk σ H
 | .ct ρ=> ∀σ H,Rel X.K B ρ σ H->E.ct σ H
 | .ex c ρ=> ∀(pins:List (Addr×Obj)) (s:Qf) (σ:St) (H:Hp) (e:Qd),Rel X.K B ρ σ H->Exc X pins σ H c e s->X.xe e s
def aSd (X:Cx)(B:Hp)(E:Ends):Option Out->Prop
 | none=>False
 | some o=>Good X B E o
def tDS (X:Cx)(B:Hp)(F:Rho->Option Out):TS:=fun E σ H=> ∃ρ,Rel X.K B ρ σ H/\aSd X B E (F ρ)
abbrev PDS (X:Cx)(B:Hp)(st:Stmt)(F:Rho->Option Out):Prop:=PS X st (tDS X B F)
abbrev PDB (X:Cx)(B:Hp)(st:List Stmt)(F:Rho->Option Out):Prop:=PSs X st (tDS X B F)
def lft {α:Type}(m:M α)(ρ:Rho)(k:α->Option Out):Option Out:=match m with
 | none=>none
 | some (.error c)=>some (.ex c ρ)
 | some (.ok a)=>k a
@[simp] theorem aLt {α:Type} (a:α) (ρ:Rho) (k:α->Option Out):lft (ok a) ρ k=k a:=rfl
@[simp] theorem bTs {α:Type} (c:Addr) (ρ:Rho) (k:α->Option Out):lft (err c:M α) ρ k=some (.ex c ρ):=rfl
theorem aBw {α:Type}{X:Cx}{B:Hp}{E:Ends}{σ:St}{H:Hp}{ρ:Rho}{m:M α}{k:α->Option Out}(r:Rel X.K B ρ σ H)(h:aSd X B E (lft m ρ k)):Res X σ H (fun a=>aSd X B E (k a)) m:=by
 unfold lft at h;split at h
 ·exact h
 ·exact fun pins s H' e q x=>h pins s σ H' e (r.mono q) x
 ·exact h
section
variable {X:Cx}{B:Hp}{e c:Expr}{fa:Rho->M D}{tc:Rho->M Bool}{pos pos':Pos}{st:Stmt}{sts rest:List Stmt}{F G:Rho->Option Out}
theorem PS.of {t t':TS}(h:PS X st t)(i: ∀E σ H,t' E σ H->t E σ H):PS X st t':=fun pins s σ H E I q=>h pins s σ H E I (i E σ H q)
theorem PSs.of {t t':TS}(h:PSs X sts t)(i: ∀E σ H,t' E σ H->t E σ H):PSs X sts t':=fun pins s σ H E I q=>h pins s σ H E I (i E σ H q)
def aAz:Rho->Option Out:=fun ρ=>some (.nx ρ)
def aAn (F G:Rho->Option Out):Rho->Option Out:=fun ρ=>match F ρ with
 | some (.nx ρ')=>G ρ'
 | o=>o
theorem aAh:PDB X B [] aAz:=PSs.of bKy fun E σ H ⟨ρ,r,h⟩=>h σ H r
theorem aAb (h1:PDS X B st F)(h2:PDB X B rest G):PDB X B (st::rest) (aAn F G):=by
 refine PSs.of (bGg h1 h2) fun E σ H h=> ?_
 obtain⟨ρ,r,h⟩:=h;refine⟨ρ,r,?_⟩;unfold aAn at h;cases q:F ρ with
 | none=>rw[q] at h;exact h
 | some o=>
  rw[q] at h;cases o with
  | nx ρ'=>exact fun σ' H' r'=>⟨ρ',r',h⟩
  | rt d=>exact h
  | bk ρ'=>exact h
  | ct ρ'=>exact h
  | ex c ρ'=>exact h
def aC4 (f:Rho->M D):Rho->Option Out:=fun ρ=>lft (f ρ) ρ fun d=>some (.rt d)
theorem aAs (he:PD X B e fa):PDS X B (.Return (some e) pos) (aC4 fa):=by
 refine PS.of (bO2 he) fun E σ H h=> ?_
 obtain⟨ρ,r,h⟩:=h;exact⟨ρ,r,(aBw r h).imp fun d h1 v H1 e1 i1=>h1 v H1 (r.kept.trans e1) i1⟩
theorem aTa:PDB X B sts (fun _=>none):=PSs.of bBz fun E σ H ⟨ρ,r,h⟩=>h
def sIf (t:Rho->M Bool)(F G:Rho->Option Out):Rho->Option Out:=fun ρ=>lft (t ρ) ρ fun k=>if k=true then F ρ else G ρ
theorem aDk {a b:List Stmt}(hc:PDT X B c tc)(ha:PDB X B a F)(hb:PDB X B b G):PDS X B (.If c a b pos) (sIf tc F G):=by
 refine PS.of (bS2 hc ha hb) fun E σ H h=> ?_
 obtain⟨ρ,r,h⟩:=h;refine⟨ρ,r,(aBw r h).imp fun k h1 H1 e1=> ?_⟩;cases k with
 | true=>exact⟨ρ,r.mono e1,h1⟩
 | false=>exact⟨ρ,r.mono e1,h1⟩
def SV.rel:SV->SV
 | .sh d=> .sh d
 | .own ds=> .sh (.lst ds)
 | .oin a C dx fs=> .sh (.obj C fs)
 | .ow o=> .sh o.d
 | .tk ks=> .sh (.tup (ks.map kD))
 | .nl kd ls=> .sh (kd.d ls)
def free (ρ:Rho):Rho:=ρ.map fun o=>o.map SV.rel
def aMs (i:Nat)(d:D)(ρ:Rho):Rho:=if d.imm=true then ρ.set i (some (.sh d)) else (free ρ).set i (some (.sh d))
theorem Rel.bIv {K:Qc}{H₀ H:Hp}{ρ:Rho}{σ:St}{i:Nat}{d:D}{v:V}(O:Nat->Option Addr)(h1: ∀i j a,O i=some a->O j=some a->i=j)(ho:aSe H O)(h2:Same H₀ (Off H O))(hl:ρ.length=σ.length)(h3: ∀j sv,ρ[j]? =some (some sv)->j≠i->Slot K H O σ j sv)
  (iv:Is K (Off H O) d v):Rel K H₀ (ρ.set i (some (.sh d))) (σ.set i (some v)) H:=by
 by_cases hi:i<σ.length
 case neg=>
  have s1: ∀x:Option SV,ρ.set i x=ρ:=fun x=>Yr (by omega)
  have s2: ∀x:Option V,σ.set i x=σ:=fun x=>Yr (by omega)
  rw[s1,s2];exact⟨O,h1,ho,h2,hl,fun j sv q=>h3 j sv q (fun z=>by have:=(List.getElem?_eq_some_iff.mp q).1;omega)⟩
 have hO: ∀(j:Nat) (a:Addr),(if j=i then none else O j)=some a->O j=some a:=fun j a q=>by
  split at q
  ·cases q
  ·exact q
 have less:Same (Off H O) (Off H fun j=>if j=i then none else O j):=Off.less fun j a q=>⟨j,hO j a q⟩
 refine⟨fun j=>if j=i then none else O j,fun j k a q1 q2=>h1 j k a (hO j a q1) (hO k a q2),fun j a q=>ho j a (hO j a q),h2.trans less,by rw[Q9,Q9,hl],fun j sv q=> ?_⟩;by_cases e:j=i
 ·subst e
  have hj:j<ρ.length:=by
   have:=(List.getElem?_eq_some_iff.mp q).1
   rwa [Q9] at this
  rw[Q4 hj] at q;have q':=Option.some.inj (Option.some.inj q);subst q';exact⟨v,Q4 (by rw[<-hl];exact hj),iv.mono less⟩
 ·rw[Qs (Ne.symm e)] at q
  have z:=h3 j sv q e;cases sv with
  | sh d'=>obtain⟨v',e1,e2⟩:=z;exact⟨v',by rw[Qs (Ne.symm e)];exact e1,e2.mono less⟩
  | own ds=>obtain⟨a,vs,e1,e2,e3,e4⟩:=z;exact⟨a,vs,by show (if j=i then none else O j)=some a;rw[if_neg e];exact e1,by rw[Qs (Ne.symm e)];exact e2,e3,e4.mono less⟩
  | oin a C dx fs=>obtain⟨e1,e2,e3,vs,e4,e5⟩:=z;exact⟨by show (if j=i then none else O j)=some a;rw[if_neg e];exact e1,by rw[Qs (Ne.symm e)];exact e2,e3,vs,e4,e5.mono less⟩
  | ow o=>obtain⟨a,w,e1,e2,e3,e4⟩:=z;exact⟨a,w,by show (if j=i then none else O j)=some a;rw[if_neg e];exact e1,by rw[Qs (Ne.symm e)];exact e2,e3,e4.mono less⟩
  | tk ks=>obtain⟨a,e1,e2⟩:=z;exact⟨a,by rw[Qs (Ne.symm e)];exact e1,less _ _ e2⟩
  | nl kd ls=>exact NL.move (by rw[Q9]) (Qs (Ne.symm e)) (fun m b w hm e1 e2=>⟨by show (if m=i then none else O m)=some b;rw[if_neg (by rcases hm with h | h<;>omega)];exact e1,e2⟩) less z
theorem Rel.freed {K:Qc}{H₀ H:Hp}{ρ:Rho}{σ:St}(r:Rel K H₀ ρ σ H):Rel K H₀ (free ρ) σ H:=by
 obtain⟨O,h1,ho,h2,hl,h3⟩:=id r;have e0:Off H (fun _=>none)=H:=by funext b;unfold Off;rw[if_neg (fun⟨i,e⟩=>nomatch e)]
 refine⟨fun _=>none,(by intro _ _ _ q;cases q),(by intro _ _ q;cases q),by rw[e0];exact r.kept,by unfold free;rw[Qh,hl],fun i sv q=> ?_⟩;unfold free at q;rw[Q7] at q;obtain⟨o,e1,e2⟩:=Option.map_eq_some_iff.mp q;cases o with
 | none=>cases e2
 | some sv0=>
  have e2':sv0.rel=sv:=Option.some.inj e2;subst e2';obtain⟨v,e3,e4⟩:=r.get e1;have:sv0.rel= .sh sv0.cur:=by cases sv0<;>rfl
  rw[this];exact⟨v,e3,by rw[e0];exact e4⟩
theorem Rel.aMs {K:Qc}{H₀ H:Hp}{ρ:Rho}{σ:St}{i:Nat}{d:D}{v:V}(r:Rel K H₀ ρ σ H)(iv:Is K H d v):Rel K H₀ (aMs i d ρ) (σ.set i (some v)) H:=by
 unfold PU.aMs;by_cases q:d.imm=true
 ·rw[if_pos q]
  obtain⟨O,h1,ho,h2,hl,h3⟩:=r;exact Rel.bIv O h1 ho h2 hl (fun j sv e _=>h3 j sv e) (aHn ho q iv)
 ·rw[if_neg q]
  obtain⟨O,h1,ho,h2,hl,h3⟩:=r.freed;have e0:Off H (fun _=>none)=H:=by funext b;unfold Off;rw[if_neg (fun⟨i,e⟩=>nomatch e)]
  have s0:Same (Off H O) (Off H fun _=>none):=Off.less (by intro j a q;cases q);refine Rel.bIv (fun _=>none) (by intro _ _ _ q;cases q) (by intro _ _ q;cases q) (h2.trans s0) hl (fun j sv e _=> ?_) (by rw[e0];exact iv);unfold free at e;rw[Q7] at e;obtain⟨o,e1,e2⟩:=Option.map_eq_some_iff.mp e;cases o with
  | none=>cases e2
  | some sv0=>
   have e2':sv0.rel=sv:=Option.some.inj e2;subst e2';have z:=h3 j sv0.rel (by unfold free;rw[Q7,e1];rfl);have:sv0.rel= .sh sv0.cur:=by cases sv0<;>rfl
   rw[this] at z⊢;obtain⟨v',f1,f2⟩:=z;exact⟨v',f1,f2.mono s0⟩
def aC7 (i:Nat)(f:Rho->M D):Rho->Option Out:=fun ρ=>lft (f ρ) ρ fun d=>some (.nx (aMs i d ρ))
theorem aA6 {i:Nat}{x:Str}(hN:X.N.Nodup)(hi:X.N[i]? =some x)(hx:Loc X.env.scope x)(he:PD X B e fa)(hs:Y3 e (some (.Name x pos')) pos.line X.env=pure false:=by rfl)(hf:X.fn x=true\/X.env.scope.names.lookup x=some .local:=by first | exact .inl rfl | exact .inr rfl | assumption):
  PDS X B (.Assign [.Name x pos'] e pos) (aC7 i fa):=by
 refine PS.of (aS5 hN hi hx he hs hf) fun E σ H h=> ?_
 obtain⟨ρ,r,h⟩:=h;exact⟨ρ,r,(aBw r h).imp fun d h1 v H1 e1 i1=>h1 _ H1 ((r.mono e1).aMs i1)⟩
end
def spR (K:Qc)(H:Hp)(Q:VK)(E:XK):M D->Prop
 | none=>False
 | some (.error c)=> ∀H',Same H H'->E (.ref c) none H'
 | some (.ok d)=> ∀v H',Same H H'->Is K H' d v->Q v H'
def spD (K:Qc)(n:Nat)(F:List D->M D):Sp:=fun vs H Q E=> ∃ds,IsL K H ds vs/\vs.length=n/\spR K H Q E (F ds)
def CXD (P:Qx)(w:Zb):CXT:=fun outer H s E e s'=> ∃(c ea:Addr) (H':Hp),e= .ref ea/\s'.os=s.os/\AllBare s'.gens/\Un (frs outer) [] H H' s.heap s'.heap/\Fly P w outer s ea c H' s'/\E (.ref c) none H'
abbrev FnD (P:Qx)(w:Zb)(K:Qc)(mg:Str->Option Qd)(base:Heap)(k:Nat)(f:Addr)(fd:FuncData)(ps:List Str)(F:List D->M D):Prop:=bFj P w K mg base (CXD P w) k f fd ps (spD K ps.length F)
def Def (P:Qx)(w:Zb)(K:Qc)(mg:Str->Option Qd)(base:Heap)(k:Nat)(x:Str)(F:List D->M D):Prop:=
 ∃f fd ps,mg x=some (.ref f)/\Ux K (.ref f)=true/\Binds K fd ps []/\(∀ds r,F ds=some r->ds.length=ps.length)/\FnD P w K mg base k f fd ps F
def Mth (P:Qx)(w:Zb)(K:Qc)(mg:Str->Option Qd)(base:Heap)(k:Nat)(C:Addr)(m:Str)(F:List D->M D):Prop:=
 ∃f fd ps,Cls K C/\Meth K C m f/\Binds K fd ps []/\(∀ds r,F ds=some r->ds.length=ps.length)/\FnD P w K mg base k f fd ps F
section
variable {X:Cx}{B:Hp}{k:Nat}{f:Addr}{fd:FuncData}{ps:List Str}{F:List D->M D}{pins:List (Addr×Obj)}{σ:St}{H:Hp}{s:Qf}{Q:VK}{us:List Qd}{vs:List V}{ds:List D}
theorem bOo (G:FnD X.prog X.w X.K X.mg X.base k f fd ps F)(hr:aFk k X.A)(hb:Binds X.K fd ps [])(I:Inv X pins σ H s)(r:Vals vs us)(i:IsL X.K H ds vs)
  (h:Res X σ H (fun d=> ∀v H',Same H H'->Is X.K H' d v->Q v H') (F ds)) (hL: ∀ds r,F ds=some r->ds.length=ps.length):Qp (Qt X.prog X.w) X.A (call (.ref f) us) (EP X pins σ Q) X.xe s:=by
 have hn:ds.length=ps.length:=by
  cases q:F ds with
  | none=>rw[q] at h;exact Qg h
  | some z=>exact hL ds z q
 have hl:(us++ []).length=ps.length:=by rw[Z9,<-r.length,<-i.length];exact hn
 have hbb:=hb s us I.kIn hl;rw[Z9] at hbb;have hsp:spD X.K ps.length F vs H Q (fun cv _ H'=> ∃c,cv= .ref c/\Same H H'/\Thr X σ H c):=by
  refine⟨ds,i,by rw[<-i.length];exact hn,?_⟩;cases q:F ds with
  | none=>rw[q] at h;exact Qg h
  | some z=>
   rw[q] at h;cases z with
   | error c=>exact fun H' e=>⟨c,rfl,e,h⟩
   | ok d=>exact h
 refine wpAny_call (codeAny_mono (G.run X.A X.stack s H ⟨us,[]⟩ us vs Q _ hr I.env0 hbb r hsp) fun r s' hq=> ?_);cases r with
 | error e=>
  obtain⟨c,ea,H',ee,os,bare,un,fl,c',ec,sm',th⟩:=hq;cases ec;exact th pins s' H' e sm' ⟨ea,ee,.inr ⟨s,H,I,os,bare,un,fl⟩⟩
 | ok fl=>
  cases fl with
  | ret u=>exact I.after hq
  | next=>exact Qg hq
  | brk=>exact Qg hq
  | cont=>exact Qg hq
variable {x m:Str}{p pos apos:Pos}{e o:Expr}{es:List Expr}{ga:Rho->M (List D)}{fo:Rho->M D}{C:Addr}
def app (F:List D->M D)(g:Rho->M (List D)):Rho->M D:=fun ρ=>bnd (g ρ) F
theorem bE0 {R:List V->Hp->Prop}(hR: ∀ds vs H1,Same H H1->IsL X.K H1 ds vs->Res X σ H1 (fun d=> ∀v H',Same H1 H'->Is X.K H' d v->Q v H') (F ds)->R vs H1)(h:tD X B (app F ga) σ H Q):tDA X B ga σ H R:=by
 obtain⟨ρ,r,h⟩:=h;exact⟨ρ,r,(Res.bind h).imp fun ds h1 vs H1 e1 i1=>hR ds vs H1 e1 i1 (h1.mono e1 fun d q v H2 e2 i2=>q v H2 (e1.trans e2) i2)⟩
theorem aAy (G:Def X.prog X.w X.K X.mg X.base k x F)(hr:aFk k X.A)(hg:Gl X x)(ha:PDA X B (e::es) ga)(hdb:(x==("__debug__":Str))=false:=by decide)(he:Zi (e::es) X.env=(false,eval e X.env)::Zi es X.env:=by exact aAv rfl)
  (hpl:(backTo pos (Zi es X.env)).any (·.1)=false:=by rfl):PD X B (.Call (.Name x p) (e::es) [] pos) (app F ga):=by
 intro pins s σ H Q I h;obtain⟨f,fd,ps,h1,h2,h3,hl,h4⟩:=G;refine J8 (aVp I hg h1 ?_ hdb);refine Wx (h₀:=X.base) I.ok.mod.kin h2 (thn (ha pos pins s σ H _ I (bE0 (R:=fun vs H1=> ∃ds,IsL X.K H1 ds vs/\Res X σ H1 (fun d=> ∀v H',Same H1 H'->Is X.K H' d v->Q v H') (F ds)) (fun ds vs H1 e1 i1 h1=>⟨ds,i1,h1⟩) h)) fun us s1 ⟨vs,H1,I1,r,ds,i1,q⟩=>⟨I1.kIn,?_⟩) he hpl;exact bOo h4 hr h3 I1 r i1 q hl
def bJ0 (m:Str)(FM:Addr->Option (List D->M D))(fo:Rho->M D)(g:Rho->M (List D)):Rho->M D:=fun ρ=>bnd (fo ρ) fun x=>match x with
 | .obj C fs=>match FM C,fs.lookup m with
  | some F,none=>bnd (g ρ) fun ds=>F (x::ds)
  | _,_=>none
 | _=>none
theorem aVa {pl:Sem Bool}{FM:Addr->Option (List D->M D)}(G: ∀C F,FM C=some F->Mth X.prog X.w X.K X.mg X.base k C m F)(hr:aFk k X.A)(he:PD X B o fo)(ha:PDA X B (e::es) ga)
  (hst:Zi (e::es) X.env=(false,eval e X.env)::Zi es X.env:=by exact aAv rfl) (hpl:(backTo pos (Zi es X.env)).any (·.1)=false:=by rfl)
  (ht:eval (.Call (.Attribute o m apos) (e::es) [] pos) X.env=(do
   let ov<-eval o X.env
   standAt apos.atName
   let (f,first)<-holding [ov] (getMethod ov m pl)
   callWith pos f first (backTo pos (Zi (e::es) X.env)) (backToKw pos (keywordEach [] X.env))):=by rfl):
  PD X B (.Call (.Attribute o m apos) (e::es) [] pos) (bJ0 m FM fo ga):=by
 intro pins s σ H Q I h;obtain⟨ρ,r,h⟩:=h;refine PySem.W.methodCall_KW (pl:=pl) (thn (he pins s σ H (fun v H1=> ∃a C dx fs vs F,v= .ref a/\H1 a=some (.ins C dx vs)/\IsF X.K H1 fs vs/\fs.lookup m=none/\FM C=some F/\Same H H1/\Res X σ H (fun ds=>Res X σ H (fun d=> ∀v H',Same H H'->Is X.K H' d v->Q v H') (F (.obj C fs::ds))) (ga ρ)) I ⟨ρ,r,(Res.bind h).imp fun d h1 v H1 e1 i1=> ?_⟩) fun u s1 hP=> ?_) ht
 ·cases i1 with
  | obj hh rr=>
   dsimp only at h1
   split at h1
   ·rename_i F hF hl;exact⟨_,_,_,_,_,F,rfl,hh,rr,hl,hF,e1,Res.bind h1⟩
   ·exact Qg h1
  | _=>exact Qg h1
 obtain⟨x,H1,I1,rx,a,C,dx,fs,vs,F,ex,ea,ifs,l,hF,e1,q⟩:=hP;subst ex;obtain rfl:u=Q1 a:=rx;obtain⟨f,fd,ps,h1,h2,h3,hl,h4⟩:=G C F hF;refine aZr I1 ea h1 h2 (ifs.aZh l) ?_;have q':tDA X B ga σ H1 (fun vs' H2=> ∃ds,Same H1 H2/\IsL X.K H2 ds vs'/\Res X σ H (fun d=> ∀v H',Same H H'->Is X.K H' d v->Q v H') (F (.obj C fs::ds))):=
  ⟨ρ,r.mono e1,Res.mono e1 q fun ds q1 vs' H2 e2 i2=>⟨ds,e2,i2,q1⟩⟩
 refine Wx (first:=[.ref a]) (h₀:=X.base) I.ok.mod.kin h2.kp (thn (ha pos pins s1 σ H1 _ I1 q') fun us s2 ⟨vs',H2,I2,r2,ds,e2,i2,q2⟩=>⟨I2.kIn,?_⟩) hst hpl;exact bOo (us:= .ref a::us) (vs:= .ref a::vs') (ds:= .obj C fs::ds) h4 hr h3 I2 (.cons rfl r2) (.cons (.obj (e2 _ _ ea) (ifs.mono e2)) i2) (q2.mono (e1.trans e2) fun d z v H' e' i'=>z v H' ((e1.trans e2).trans e') i') hl
def fld (cs:Addr->Bool)(f:Str)(fo:Rho->M D):Rho->M D:=fun ρ=>bnd (fo ρ) fun x=>match x with
 | .obj C fs=>if cs C=true then (match fs.lookup f with | some d=>ok d | none=>none) else none
 | _=>none
theorem aJi {cs:Addr->Bool}{f:Str}(hC: ∀C,cs C=true->Cls X.K C/\aE8 X.K C f)(he:PD X B o fo)(hb:Jy o f X.env (eval o X.env)=eval o X.env:=by rfl):PD X B (.Attribute o f pos) (fld cs f fo):=by
 refine PE.of (bPc he hb) fun σ H Q h=> ?_
 obtain⟨ρ,r,h⟩:=h;refine⟨ρ,r,(Res.bind h).imp fun d h1 v H1 e1 i1=> ?_⟩;cases i1 with
 | obj hh rr=>
  rename_i a C dx fs vs
  dsimp only at h1
  split at h1
  ·rename_i hc
   split at h1
   ·rename_i d hl
    obtain⟨v,q1,q2⟩:=rr.lookup hl;exact⟨a,C,dx,vs,v,rfl,hh,(hC C hc).1,(hC C hc).2,q1,h1 v H1 e1 q2⟩
   ·exact Qg h1
  ·exact Qg h1
 | _=>exact Qg h1
def hid (H:Hp)(a:Addr):Hp:=fun b=>if b=a then none else H b
def spI (K:Qc)(C:Addr)(n:Nat)(F:List D->M (List (Str×D))):Sp:=fun vs H Q E=> ∃a dx ws ds,vs= .ref a::ws/\H a=some (.ins C dx [])/\dx≠a/\IsL K (hid H a) ds ws/\vs.length=n/\(match F ds with
 | none=>False
 | some (.error c)=> ∀H',Same (hid H a) H'->E (.ref c) none H'
 | some (.ok fs)=> ∀H' fvs,H' a=some (.ins C dx fvs)->IsF K H' fs fvs->Same (hid H a) H'->Q .non H')
def Ctor (P:Qx)(w:Zb)(K:Qc)(mg:Str->Option Qd)(base:Heap)(k:Nat)(x:Str)(C:Addr)(F:List D->M (List (Str×D))):Prop:=
 ∃f fd ps,mg x=some (.ref C)/\Mk K C f/\Binds K fd ps []/\(∀ds r,F ds=some r->ds.length+1=ps.length)/\bFj P w K mg base (CXD P w) k f fd ps (spI K C ps.length F)
def mkO (C:Addr)(F:List D->M (List (Str×D)))(ds:List D):M D:=bnd (F ds) fun fs=>ok (.obj C fs)
theorem run_mk {ps:List Str}{F:List D->M (List (Str×D))}(Mm:Mk X.K C f)(G:bFj X.prog X.w X.K X.mg X.base (CXD X.prog X.w) k f fd ps (spI X.K C ps.length F))(hr:aFk (k+1) X.A)(hb:Binds X.K fd ps [])(I:Inv X pins σ H s)(r:Vals vs us)(i:IsL X.K H ds vs)
  (h:Res X σ H (fun d=> ∀v H',Same H H'->Is X.K H' d v->Q v H') (mkO C F ds)) (hL: ∀ds r,F ds=some r->ds.length+1=ps.length):Qp (Qt X.prog X.w) X.A (call (.ref C) us) (EP X pins σ Q) X.xe s:=by
 have hF: ∃z,F ds=some z:=by
  cases q:F ds with
  | none=>unfold mkO at h;rw[q] at h;exact Qg h
  | some z=>exact⟨z,rfl⟩
 obtain⟨z,hz⟩:=hF;have hn:=hL ds z hz;have hsp: ∀x dx,H x=none->H dx=none->dx≠x->spI X.K C ps.length F (.ref x::vs) (upd (upd H dx (.own x)) x (.ins C dx [])) (fun v H2=>v= .non/\Q (.ref x) H2) (fun cv _ H'=> ∃c,cv= .ref c/\Same H H'/\Thr X σ H c):=by
  intro x dx hx hdx ne;have sm:Same H (hid (upd (upd H dx (.own x)) x (.ins C dx [])) x):=fun b o q=>by
   have hb:b≠x:=aCf q hx;unfold hid;rw[if_neg hb,aAo hb,aAo (aCf q hdx)];exact q
  refine⟨x,dx,vs,ds,rfl,aAm,ne,i.mono sm,by rw[Qk,<-i.length];exact hn,?_⟩;unfold mkO at h;rw[hz] at h⊢;cases z with
  | error c=>exact fun H' e=>⟨c,rfl,sm.trans e,h⟩
  | ok fs=>exact fun H' fvs e1 e2 e3=>⟨rfl,h _ H' (sm.trans e3) (.obj e1 e2)⟩
 have hq:=hsp (s.heap.objs.size+1) s.heap.objs.size (I.hok.fresh (J2 _)) (I.hok.fresh (Qo _)) (Qz (Ur _));have I2:=Inv.made (C:=C) I;have r2:Vals (V.ref (s.heap.objs.size+1)::vs) (Q1 (s.heap.objs.size+1)::us):= .cons rfl r;have hl:((Q1 (s.heap.objs.size+1)::us)++ []).length=ps.length:=by
  rw[Z9,Qk,<-r.length,<-i.length];exact hn
 have hbb:=hb {s with heap:=(s.heap.push Yn).push (Jb C s.heap.objs.size)} (Q1 (s.heap.objs.size+1)::us) I2.kIn hl;rw[Z9] at hbb;refine wpAny_call (bG9 (f:=f) I.kIn Mm.makes Mm.init (beq_iff_eq.mp Mm.fn) (codeAny_mono (G.run _ X.stack _ _ ⟨Q1 (s.heap.objs.size+1)::us,[]⟩ (Q1 (s.heap.objs.size+1)::us) _ _ _ (hr.make C us [])
  (I2.env0.make C us []) hbb r2 hq) fun r s' hq'=> ?_))
 cases r with
 | error e=>
  obtain⟨c,ea,H',ee,os,bare,un,fl,c',ec,sm',th⟩:=hq';cases ec;exact th pins s' H' e sm' ⟨ea,ee,.inr ⟨_,_,I2,os,bare,un,fl⟩⟩
 | ok fl=>
  cases fl with
  | ret u=>
   obtain⟨v,H',I3,rv,ev,q3⟩:=I2.after hq';subst ev;exact⟨rv,⟨V.ref (s.heap.objs.size+1),H',I3,rfl,q3⟩⟩
  | next=>exact Qg hq'
  | brk=>exact Qg hq'
  | cont=>exact Qg hq'
theorem aQ7 {F:List D->M (List (Str×D))}(G:Ctor X.prog X.w X.K X.mg X.base k x C F)(hr:aFk (k+1) X.A)(hg:Gl X x)(ha:PDA X B (e::es) ga)(hdb:(x==("__debug__":Str))=false:=by decide)(he:Zi (e::es) X.env=(false,eval e X.env)::Zi es X.env:=by exact aAv rfl)
  (hpl:(backTo pos (Zi es X.env)).any (·.1)=false:=by rfl):PD X B (.Call (.Name x p) (e::es) [] pos) (app (mkO C F) ga):=by
 intro pins s σ H Q I h;obtain⟨f,fd,ps,h1,h2,h3,hl,h4⟩:=G;refine J8 (aVp I hg h1 ?_ hdb);refine Wx (h₀:=X.base) I.ok.mod.kin h2.kp (thn (ha pos pins s σ H _ I (bE0 (R:=fun vs H1=> ∃ds,IsL X.K H1 ds vs/\Res X σ H1 (fun d=> ∀v H',Same H1 H'->Is X.K H' d v->Q v H') (mkO C F ds)) (fun ds vs H1 e1 i1 h1=>⟨ds,i1,h1⟩) h)) fun us s1 ⟨vs,H1,I1,r,ds,i1,q⟩=>⟨I1.kIn,?_⟩) he hpl;exact run_mk h2 h4 hr h3 I1 r i1 q hl
theorem aGq {F:List D->M (List (Str×D))}(G:Ctor X.prog X.w X.K X.mg X.base k x C F)(hr:aFk (k+1) X.A)(hg:Gl X x)(hdb:(x==("__debug__":Str))=false:=by decide):PD X B (.Call (.Name x p) [] [] pos) (fun _=>mkO C F []):=by
 intro pins s σ H Q I h;obtain⟨f,fd,ps,h1,h2,h3,hl,h4⟩:=G;obtain⟨ρ,r,h⟩:=h;refine J8 (aVp I hg h1 ?_ hdb);exact PySem.W.callWith_K0 I.kIn h2.kp (run_mk (us:=[]) (vs:=[]) (ds:=[]) h2 h4 hr h3 I .nil .nil h hl)
end
def tDG (X:Cx)(B:Hp)(G:D->Rho->Option Rho):TG:=fun v σ H Q=> ∃ρ d ρ',Rel X.K B ρ σ H/\Is X.K H d v/\G d ρ=some ρ'/\∀σ' H',Rel X.K B ρ' σ' H'->Q σ' H'
abbrev PDG (X:Cx)(B:Hp)(tg:Expr)(G:D->Rho->Option Rho):Prop:=PG X tg (tDG X B G)
section
variable {X:Cx}{B:Hp}{tg:Expr}{pos:Pos}{x:Str}
def gN (i:Nat):D->Rho->Option Rho:=fun d ρ=>some (aMs i d ρ)
theorem aEs {i:Nat}(hN:X.N.Nodup)(hi:X.N[i]? =some x)(hx:Loc X.env.scope x)(hf:X.fn x=true\/X.env.scope.names.lookup x=some .local:=by first | exact .inl rfl | exact .inr rfl | assumption):PDG X B (.Name x pos) (gN i):=by
 intro pins s σ H v u Q I r h;obtain⟨ρ,d,ρ',r1,i1,e,q⟩:=h;cases e;exact aKa hN hi hx hf pins s σ H v u Q I r (q _ H (r1.aMs i1))
def gN2 (i j:Nat):D->Rho->Option Rho:=fun d ρ=>match d with
 | .tup [a,b]=>some (aMs j b (aMs i a ρ))
 | _=>none
theorem aXb {i j:Nat}{y:Str}{p1 p2:Pos}{k:Nat}(hc:X.calm=true)(hN:X.N.Nodup)(hi:X.N[i]? =some x)(hx:Loc X.env.scope x)(hj:X.N[j]? =some y)(hy:Loc X.env.scope y)
  (hf:X.fn x=true\/X.env.scope.names.lookup x=some .local:=by first | exact .inl rfl | exact .inr rfl | assumption) (hf2:X.fn y=true\/X.env.scope.names.lookup y=some .local:=by first | exact .inl rfl | exact .inr rfl | assumption):
  PDG X B (.Tuple [.Name x p1,.Name y p2] k pos) (gN2 i j):=by
 intro pins s σ H v u Q I r h;obtain⟨ρ,d,ρ',r1,i1,e,q⟩:=h;unfold gN2 at e;split at e
 ·rename_i a b
  cases e;cases i1 with
  | tup hh rr=>
   cases rr with
   | cons ia rr=>
    cases rr with
    | cons ib rr=>
     cases rr;refine bI2 (n:=2) hc (aMt (aKa hN hi hx hf) (aMt (aKa hN hj hy hf2) bB3)) rfl rfl pins s σ H _ u Q I r ?_;refine⟨_,_,rfl,hh.sq,rfl,_,_,rfl,_,_,rfl,rfl,?_⟩;exact q _ H ((r1.aMs ia).aMs ib)
 ·cases e
end
def loop (G:D->Rho->Option Rho)(F:Rho->Option Out):List D->Rho->Option Out
 | [],ρ=>some (.nx ρ)
 | d::ds,ρ=>match G d ρ with
  | none=>none
  | some ρ1=>match F ρ1 with
   | some (.nx ρ2)=>loop G F ds ρ2
   | some (.ct ρ2)=>loop G F ds ρ2
   | some (.bk ρ2)=>some (.nx ρ2)
   | some (.rt d)=>some (.rt d)
   | some (.ex c ρ2)=>some (.ex c ρ2)
   | none=>none
structure ItD (K:Qc)(J:It)(ds:List D)(B:Hp):Prop where
 go: ∀j H,Same B H->j<ds.length->J.go j H
 yld: ∀j H x H',Same B H->J.yld j H x H'->j<ds.length->Same H H'/\∃d,ds[j]? =some d/\Is K H' d x
 stop: ∀j H,Same B H->ds.length<=j->J.stop j H
theorem aMz {K:Qc}{a:Addr}{ds:List D}{vs:List V}{B:Hp}(h:SqL K B a vs)(r:IsL K B ds vs):ItD K (Itl K a) ds B where
 go:=fun j H e q=>⟨vs,vs[j]'(by rw[<-r.length];exact q),e.seq h,by simp[show j<vs.length by rw[<-r.length];exact q]⟩
 yld:=fun j H x H' e y q=>by
  obtain⟨y1,y2⟩:=y;subst y1;obtain⟨d,h1,h2⟩:=r.bQ7 (y2 vs (e.seq h));exact⟨Same.refl _,d,h1,h2.mono e⟩
 stop:=fun j H e q=>⟨vs,e.seq h,by rw[<-r.length];exact q⟩
theorem aVt {K:Qc}{a:Addr}{ds:List D}{vs:List V}{B:Hp}(h:SqT K B a vs)(r:IsL K B ds vs):ItD K (Itt K a) ds B where
 go:=fun j H e q=>⟨vs,vs[j]'(by rw[<-r.length];exact q),SqT.mono e h,by simp[show j<vs.length by rw[<-r.length];exact q]⟩
 yld:=fun j H x H' e y q=>by
  obtain⟨y1,y2⟩:=y;subst y1;obtain⟨d,h1,h2⟩:=r.bQ7 (y2 vs (SqT.mono e h));exact⟨Same.refl _,d,h1,h2.mono e⟩
 stop:=fun j H e q=>⟨vs,SqT.mono e h,by rw[<-r.length];exact q⟩
def rng (lo:Int)(n:Nat):List D:=(Zj n).map fun (j:Nat)=>D.int (lo+(j:Int))
theorem bC7 {K:Qc}(lo:Int)(n:Nat)(B:Hp):ItD K (Itr lo n) (rng lo n) B where
 go:=fun j H e q=>by unfold rng at q;rw[Qh,Zo] at q;exact q
 yld:=fun j H x H' e y q=>by
  unfold rng at q;rw[Qh,Zo] at q;obtain⟨y1,y2⟩:=y;subst y2;subst y1;refine⟨Same.refl _,.int (lo+j),?_,.int _⟩;unfold rng;rw[Q7,Ex q];rfl
 stop:=fun j H e q=>by unfold rng at q;rw[Qh,Zo] at q;exact q
section
variable {X:Cx}{B:Hp}{tg iter:Expr}{pos:Pos}{G:D->Rho->Option Rho}{F:Rho->Option Out}{body:List Stmt}
theorem Rel.sub {K:Qc}{B B':Hp}{ρ:Rho}{σ:St}{H:Hp}(e:Same B B')(r:Rel K B' ρ σ H):Rel K B ρ σ H:=by
 obtain⟨O,h1,ho,h2,hl,h3⟩:=r;exact⟨O,h1,ho,e.trans h2,hl,h3⟩
def bJ3 (X:Cx)(B:Hp)(σ:St)(ds:List D)(ρ1:Rho)(J:It)(H1:Hp):Prop:= ∃B',ItD X.K J ds B'/\Rel X.K B' ρ1 σ H1/\Same B B'
theorem bM5 {J:It}{H1:Hp}{σ:St}{E:Ends}{ds:List D}{ρ1:Rho}(hi:bJ3 X B σ ds ρ1 J H1)(h:aSd X B E (loop G F ds ρ1)){g:TG}{tb:TS}(hg: ∀B v σ H Q,tDG X B G v σ H Q->g v σ H Q)(hb: ∀B E σ H,tDS X B F E σ H->tb E σ H):
  ∃W:Nat->Nat->St->Hp->Prop,(∃m,W 0 m σ H1)/\∀i m σ H,W i m σ H->
   (J.stop i H/\E.nx σ H)\/(J.go i H/\∃N:St->Hp->Prop,(∀σ' H',N σ' H'->∃m',m'<m/\W (i+1) m' σ' H')/\∀x H',J.yld i H x H'->g x σ H' fun σ2 H2=>tb {E with nx:=N,ct:=N,bk:=E.nx} σ2 H2):=by
 obtain⟨B',hJ,r1,sB⟩:=hi;refine⟨fun j m σ H=>m=ds.length-j/\j<=ds.length/\∃ρj,Rel X.K B' ρj σ H/\aSd X B E (loop G F (ds.drop j) ρj),⟨ds.length,by simp,Zy _,ρ1,r1,by simpa using h⟩,?_⟩
 rintro j m σ H ⟨rfl,hj,ρj,rj,gj⟩
 have sH:Same B' H:=rj.kept;by_cases hlt:j<ds.length
 ·have hd:ds.drop j=ds[j]::ds.drop (j+1):=Wa hlt
  rw[hd] at gj;refine .inr ⟨hJ.go j H sH hlt,fun σ' H'=> ∃ρ',Rel X.K B' ρ' σ' H'/\aSd X B E (loop G F (ds.drop (j+1)) ρ'),fun σ' H' ⟨ρ',r',g'⟩=>⟨ds.length-(j+1),by omega,rfl,hlt,ρ',r',g'⟩,fun x H' y=> ?_⟩;obtain⟨e1,d,e2,e3⟩:=hJ.yld j H x H' sH y hlt;have ed:ds[j]=d:=by rw[Qj hlt] at e2;exact Option.some.inj e2
  rw[ed] at gj;unfold loop at gj;cases q:G d ρj with
  | none=>rw[q] at gj;exact Qg gj
  | some ρa=>
   rw[q] at gj;refine hg B' x σ H' _ ⟨ρj,d,ρa,rj.mono e1,e3,q,fun σ2 H2 r2=>hb B' _ σ2 H2 ⟨ρa,r2,?_⟩⟩
   dsimp only at gj
   cases qf:F ρa with
   | none=>rw[qf] at gj;exact Qg gj
   | some o=>
    rw[qf] at gj;cases o with
    | nx ρ2=>exact fun σ3 H3 r3=>⟨ρ2,r3,gj⟩
    | ct ρ2=>exact fun σ3 H3 r3=>⟨ρ2,r3,gj⟩
    | bk ρ2=>exact fun σ3 H3 r3=>gj σ3 H3 (r3.sub sB)
    | rt d=>exact fun v H3 s3 i3=>gj v H3 (sB.trans s3) i3
    | ex c ρ2=>exact fun pins s σ3 H3 ev r3 x3=>gj pins s σ3 H3 ev (r3.sub sB) x3
 ·have e:ds.drop j=[]:=Ef (by omega)
  rw[e] at gj;exact .inl ⟨hJ.stop j H sH (by omega),gj σ H (rj.sub sB)⟩
def itD:D->M (List D)
 | .lst ds=>ok ds
 | .tup ds=>ok ds
 | _=>none
def iD (X:Cx)(tl:TE):TI:=fun σ H R=>tl σ H fun x H1=>(∃a,x= .ref a/\(∃xs,SqL X.K H1 a xs)/\R (Itl X.K a) H1)\/(∃a,x= .ref a/\(∃xs,SqT X.K H1 a xs)/\R (Itt X.K a) H1)
theorem bS3 {l:Expr}{tl:TE}(hl:PE X l tl):PI X tg l (iD X tl):=by
 intro pins s σ H R I h;refine thn (hl pins s σ H _ I h) fun v s1 ⟨x,H1,I1,r1,q1⟩=> ?_
 rcases q1 with⟨a,e,⟨xs,hq⟩,q⟩ |⟨a,e,⟨xs,hq⟩,q⟩
 ·subst e
  cases r1;obtain⟨its,rv,p,hz⟩:=I1.list hq;refine wpAny_pyIter_list p.isList ?_;refine⟨s1.heap.objs.size,[s1.heap.objs.size],_,_,H1,rfl,I1.kept (t':=s1.toks) fun b o e=>Qb _ e,aSk a _,⟨_,Ql _ rfl,rfl,rfl⟩,fun b hb=> ?_,q⟩;have e:b=s1.heap.objs.size:=by simpa using hb
  subst e;exact I1.bJq (Qo _) (I1.hok.fresh (Qo _))
 ·subst e
  cases r1;obtain⟨its,rv,p,hz⟩:=I1.tuple hq;refine wpAny_pyIter_tuple (show s1.heap.IsTuple a its.toArray from p) ?_;refine⟨s1.heap.objs.size,[s1.heap.objs.size],_,_,H1,rfl,I1.kept (t':=s1.toks) fun b o e=>Qb _ e,aYn a _,⟨_,Ql _ rfl,rfl,rfl⟩,fun b hb=> ?_,q⟩;have e:b=s1.heap.objs.size:=by simpa using hb
  subst e;exact I1.bJq (Qo _) (I1.hok.fresh (Qo _))
theorem aJg {wi:TI}{S:Rho->Option Out}(hp:PassesOwn (Qt X.prog X.w) X.A X.env X.xe)(hc:X.calm=true)(hi:PI X tg iter wi)(hg: ∀B,PDG X B tg G)(hb: ∀B,PDB X B body F)
  (hr: ∀E σ H R,tDS X B S E σ H->(∀J H1 ds ρ1,bJ3 X B σ ds ρ1 J H1->aSd X B E (loop G F ds ρ1)->R J H1)->wi σ H R) (hs: ∀x,Ys iter X.env x=pure x:=by intro _;rfl):PDS X B (.For tg iter body [] pos) S:=by
 have hg':PG X tg (fun v σ H Q=> ∃B,tDG X B G v σ H Q):=fun pins s σ H v u Q I r ⟨B,h⟩=>hg B pins s σ H v u Q I r h
 have hb':PSs X body (fun E σ H=> ∃B,tDS X B F E σ H):=fun pins s σ H E I ⟨B,h⟩=>hb B pins s σ H E I h
 refine PS.of (bO3 hp hc hi hg' hb' hs) fun E σ H h=> ?_
 exact hr E σ H _ h fun J H1 ds ρ1 i1 g1=>bM5 (g:=fun v σ H Q=> ∃B,tDG X B G v σ H Q) (tb:=fun E σ H=> ∃B,tDS X B F E σ H) i1 g1 (fun B v σ H Q q=>⟨B,q⟩) fun B E σ H q=>⟨B,q⟩
def aIf (i:Nat)(ρ:Rho):Rho:=match ρ[i]? with
 | some (some (.own _))=>free ρ
 | some (some (.oin _ _ _ _))=>free ρ
 | some (some (.ow _))=>free ρ
 | some (some (.tk _))=>free ρ
 | some (some (.nl _ _))=>free ρ
 | _=>ρ
def aGm (i:Nat)(G:D->Rho->Option Rho)(F:Rho->Option Out):Rho->Option Out:=fun ρ=>match look i ρ with
 | some (.ok d)=>(match itD d with
  | some (.ok ds)=>loop G F ds (aIf i ρ)
  | _=>none)
 | _=>none
theorem Rel.base {K:Qc}{B:Hp}{ρ:Rho}{σ:St}{H:Hp}(r:Rel K B ρ σ H): ∃B',Rel K B' ρ σ H/\Same B B'/\Same B' H/\(∀(i:Nat) (d:D),ρ[i]? =some (some (SV.sh d))->∃v,σ[i]? =some (some v)/\Is K B' d v)/\(∀d v,d.imm=true->Is K H d v->Is K B' d v):=by
 obtain⟨O,h1,ho,h2,hl,h3⟩:=r;exact⟨Off H O,⟨O,h1,ho,Same.refl _,hl,h3⟩,h2,Off.same _ _,fun i d q=>h3 i _ q,fun d v q i=>aHn ho q i⟩
theorem Rel.aK9 {K:Qc}{B:Hp}{ρ:Rho}{σ:St}{H:Hp}(r:Rel K B ρ σ H):Rel K H (free ρ) σ H:=by
 have e0:Off H (fun _=>none)=H:=by funext b;unfold Off;rw[if_neg (fun⟨i,e⟩=>nomatch e)]
 refine⟨fun _=>none,(by intro _ _ _ q;cases q),(by intro _ _ q;cases q),by rw[e0];exact Same.refl _,?_,fun i sv q=> ?_⟩
 ·obtain⟨O,_,_,_,hl,_⟩:=r.freed
  exact hl
 ·unfold free at q
  rw[Q7] at q;obtain⟨o,e1,e2⟩:=Option.map_eq_some_iff.mp q;cases o with
  | none=>cases e2
  | some sv0=>
   have e2':sv0.rel=sv:=Option.some.inj e2;subst e2';obtain⟨v,e3,e4⟩:=r.get e1;have:sv0.rel= .sh sv0.cur:=by cases sv0<;>rfl
   rw[this];exact⟨v,e3,by rw[e0];exact e4⟩
theorem aRs {K:Qc}{H:Hp}{d:D}{v:V}{ds:List D}(i:Is K H d v)(h:itD d=ok ds): ∃a vs,v= .ref a/\IsL K H ds vs/\(SqL K H a vs\/SqT K H a vs):=by
 cases i with
 | lst hh r=>have:=aBq h;subst this;exact⟨_,_,rfl,r,.inl hh⟩
 | tup hh r=>have:=aBq h;subst this;exact⟨_,_,rfl,r,.inr hh⟩
 | _=>exact nomatch h
theorem aJf (i:Nat){x:Str}{p:Pos}(hN:X.N[i]? =some x)(hv:Vis X.env.scope x)(hp:PassesOwn (Qt X.prog X.w) X.A X.env X.xe)(hc:X.calm=true)(hg: ∀B,PDG X B tg G)(hb: ∀B,PDB X B body F)
  (hd:(x==("__debug__":Str))=false:=by decide) (hcd:(x==("__classdict__":Str))=false:=by decide) (hs: ∀y,Ys (.Name x p) X.env y=pure y:=by intro _;rfl):PDS X B (.For tg (.Name x p) body [] pos) (aGm i G F):=by
 refine aJg hp hc (bS3 (aD5 hN hv hd hcd)) hg hb (fun E σ H R h k=> ?_) hs;obtain⟨ρ,r,h⟩:=h;unfold aGm look at h;split at h
 ·rename_i d0 hd0
  split at hd0
  ·rename_i sv q
   have e:=aBq hd0;subst e;split at h
   ·rename_i ds hds
    obtain⟨v,e1,e2⟩:=r.get q;obtain⟨a,vs,rfl,il,hq⟩:=aRs e2 hds;refine⟨_,e1,?_⟩;have key: ∃B' vs,Rel X.K B' (aIf i ρ) σ H/\Same B B'/\IsL X.K B' ds vs/\(SqL X.K B' a vs\/SqT X.K B' a vs):=by
     cases sv with
     | sh d=>
      obtain⟨B',b1,b2,b3,b4,b5⟩:=r.base;obtain⟨v',f1,f2⟩:=b4 i d q;rw[e1] at f1;have:=Option.some.inj (Option.some.inj f1);subst this;obtain⟨a',vs',ea,il',hq'⟩:=aRs f2 hds;cases ea;have e:aIf i ρ=ρ:=by unfold aIf;rw[q]
      exact⟨B',vs',by rw[e];exact b1,b2,il',hq'⟩
     | own ds'=>
      have e:aIf i ρ=free ρ:=by unfold aIf;rw[q]
      exact⟨H,vs,by rw[e];exact r.aK9,r.kept,il,hq⟩
     | oin a C dx fs=>
      have e:aIf i ρ=free ρ:=by unfold aIf;rw[q]
      exact⟨H,vs,by rw[e];exact r.aK9,r.kept,il,hq⟩
     | ow o=>
      have e:aIf i ρ=free ρ:=by unfold aIf;rw[q]
      exact⟨H,vs,by rw[e];exact r.aK9,r.kept,il,hq⟩
     | tk ks=>
      have e:aIf i ρ=free ρ:=by unfold aIf;rw[q]
      exact⟨H,vs,by rw[e];exact r.aK9,r.kept,il,hq⟩
     | nl kd ls=>
      have e:aIf i ρ=free ρ:=by unfold aIf;rw[q]
      exact⟨H,vs,by rw[e];exact r.aK9,r.kept,il,hq⟩
    obtain⟨B',vs',k1,k2,k3,k4⟩:=key;rcases k4 with k4 | k4
    ·exact .inl ⟨a,rfl,⟨_,k1.kept.seq k4⟩,k _ H ds (aIf i ρ) ⟨B',aMz k4 k3,k1,k2⟩ h⟩
    ·exact .inr ⟨a,rfl,⟨_,SqT.mono k1.kept k4⟩,k _ H ds (aIf i ρ) ⟨B',aVt k4 k3,k1,k2⟩ h⟩
   ·exact Qg h
  ·exact nomatch hd0
 ·exact Qg h
def aL4 (f:Rho->M D)(G:D->Rho->Option Rho)(F:Rho->Option Out):Rho->Option Out:=fun ρ=>lft (f ρ) ρ fun d=>match itD d with
 | some (.ok ds)=>loop G F ds (if d.imm=true then ρ else free ρ)
 | _=>none
theorem aXa {fa:Rho->M D}(hp:PassesOwn (Qt X.prog X.w) X.A X.env X.xe)(hc:X.calm=true)(he:PD X B iter fa)(hg: ∀B,PDG X B tg G)(hb: ∀B,PDB X B body F)(hs: ∀y,Ys iter X.env y=pure y:=by intro _;rfl):PDS X B (.For tg iter body [] pos) (aL4 fa G F):=by
 refine aJg hp hc (bS3 he) hg hb (fun E σ H R h k=> ?_) hs;obtain⟨ρ,r,h⟩:=h;refine⟨ρ,r,(aBw r h).imp fun d h1 v H1 e1 i1=> ?_⟩;split at h1
 ·rename_i ds hds
  obtain⟨a,vs,rfl,il,hq⟩:=aRs i1 hds;have r1:=r.mono e1;have key: ∃B' vs,Rel X.K B' (if d.imm=true then ρ else free ρ) σ H1/\Same B B'/\IsL X.K B' ds vs/\(SqL X.K B' a vs\/SqT X.K B' a vs):=by
   by_cases q:d.imm=true
   ·obtain⟨B',b1,b2,b3,b4,b5⟩:=r1.base
    obtain⟨a',vs',ea,il',hq'⟩:=aRs (b5 d _ q i1) hds;cases ea;rw[if_pos q];exact⟨B',vs',b1,b2,il',hq'⟩
   ·rw[if_neg q]
    exact⟨H1,vs,r1.aK9,r1.kept,il,hq⟩
  obtain⟨B',vs',k1,k2,k3,k4⟩:=key;rcases k4 with k4 | k4
  ·exact .inl ⟨a,rfl,⟨_,k1.kept.seq k4⟩,k _ H1 ds _ ⟨B',aMz k4 k3,k1,k2⟩ h1⟩
  ·exact .inr ⟨a,rfl,⟨_,SqT.mono k1.kept k4⟩,k _ H1 ds _ ⟨B',aVt k4 k3,k1,k2⟩ h1⟩
 ·exact Qg h1
def aIo (f:Rho->M D)(G:D->Rho->Option Rho)(F:Rho->Option Out):Rho->Option Out:=fun ρ=>lft (f ρ) ρ fun d=>match d with
 | .int j=>if j<2^62/\ -(2^62)<=j then loop G F (rng 0 j.toNat) ρ else none
 | _=>none
theorem aS9 {a:Expr}{fa:Rho->M D}{p p1:Pos}(hgl:Gl X "range")(hm:X.mg "range"=none)(hp:PassesOwn (Qt X.prog X.w) X.A X.env X.xe)(hc:X.calm=true)(he:PD X B a fa)(hg: ∀B,PDG X B tg G)(hb: ∀B,PDB X B body F)
  (hst:Zi [a] X.env=[(false,eval a X.env)]:=by exact aLy rfl) (hs: ∀y,Ys (.Call (.Name "range" p) [a] [] p1) X.env y=pure y:=by intro _;rfl):PDS X B (.For tg (.Call (.Name "range" p) [a] [] p1) body [] pos) (aIo fa G F):=by
 refine aJg hp hc (aS7 hgl hm (aB8 he aDl hst) hst) hg hb (fun E σ H R h k=> ?_) hs;obtain⟨ρ,r,h⟩:=h;refine⟨ρ,r,(aBw r h).imp fun d h1 v H1 e1 i1=> ?_⟩;cases i1<;>first | exact Qg h1 | skip
 rename_i j
 dsimp only at h1
 split at h1
 ·rename_i hj
  obtain⟨B',b1,b2,b3,b4,b5⟩:=(r.mono e1).base;exact⟨j,rfl,hj.2,hj.1,k _ H1 _ ρ ⟨B',bC7 0 j.toNat B',b1,b2⟩ h1⟩
 ·exact Qg h1
end
def putD (f:Str)(v:D):List (Str×D)->List (Str×D)
 | []=> [(f,v)]
 |(g,x)::r=>if g=f then (g,v)::r else (g,x)::putD f v r
theorem bDg {K:Qc}{H:Hp}{f:Str}{d:D}{v:V}(i:Is K H d v): ∀{fs:List (Str×D)} {vs:List (Str×V)},IsF K H fs vs->IsF K H (putD f d fs) (aP1 f v vs)
 | _,_,.nil=> .cons i .nil
 | _,_,.cons (x:=g) h r=>by
  unfold putD aP1;by_cases q:g=f
  ·rw[if_pos q,if_pos q];exact .cons i r
  ·rw[if_neg q,if_neg q];exact .cons h (bDg i r)
section
variable {X:Cx}{B:Hp}{e:Expr}{fa:Rho->M D}{pos pos' p:Pos}{x f:Str}
theorem Rel.put {K:Qc}{B H:Hp}{ρ:Rho}{σ:St}{i:Nat}{a C dx:Addr}{fs:List (Str×D)}{d:D}{v:V}(O:Nat->Option Addr)(h1: ∀i j a,O i=some a->O j=some a->i=j)(ho:aSe H O)(h2:Same B (Off H O))(hl:ρ.length=σ.length)
  (h3: ∀i sv,ρ[i]? =some (some sv)->Slot K H O σ i sv) (q:ρ[i]? =some (some (.oin a C dx fs))) (iv:Is K (Off H O) d v) {vs:List (Str×V)} (hv:H a=some (.ins C dx vs)):Rel K B (ρ.set i (some (.oin a C dx (putD f d fs)))) σ (upd H a (.ins C dx (aP1 f v vs))):=by
 obtain⟨z1,z2,z3,vs',z4,z5⟩:=h3 i _ q;rw[hv] at z4;cases z4;have eo:Off (upd H a (.ins C dx (aP1 f v vs))) O=Off H O:=Off.upd z1;refine⟨O,h1,fun j b qj=> ?_,by rw[eo];exact h2,by rw[Q9,hl],fun j sv qj=> ?_⟩
 ·by_cases e:b=a
  ·subst e;exact⟨_,aAm,rfl⟩
  ·obtain⟨u,w,m⟩:=ho j b qj
   exact⟨u,by rw[aAo e];exact w,m⟩
 ·by_cases e:j=i
  ·subst e
   have hj:j<ρ.length:=(List.getElem?_eq_some_iff.mp q).1;rw[Q4 hj] at qj;have q':=Option.some.inj (Option.some.inj qj);subst q';exact⟨z1,z2,z3,_,aAm,by rw[eo];exact bDg iv z5⟩
  ·rw[Qs (Ne.symm e)] at qj
   have z:=h3 j sv qj;cases sv with
   | sh d'=>obtain⟨v',e1,e2⟩:=z;exact⟨v',e1,by rw[eo];exact e2⟩
   | own ds=>
    obtain⟨b,ws,e1,e2,e3,e4⟩:=z;have nb:b≠a:=fun w=>e (h1 j i a (by rw[<-w];exact e1) z1)
    exact⟨b,ws,e1,e2,by rw[aAo nb];exact e3,by rw[eo];exact e4⟩
   | oin b C' dx' fs'=>
    obtain⟨e1,e2,e3,ws,e4,e5⟩:=z;have nb:b≠a:=fun w=>e (h1 j i a (by rw[<-w];exact e1) z1)
    exact⟨e1,e2,e3,ws,by rw[aAo nb];exact e4,by rw[eo];exact e5⟩
   | ow o=>
    obtain⟨b,u,e1,e2,e3,e4⟩:=z;have nb:b≠a:=fun w=>e (h1 j i a (by rw[<-w];exact e1) z1)
    exact⟨b,u,e1,e2,by rw[aAo nb];exact e3,by rw[eo];exact e4⟩
   | tk ks=>obtain⟨b,e1,e2⟩:=z;exact⟨b,e1,by rw[eo];exact e2⟩
   | nl kd ls=>
    have hi:i<σ.length:=by have:=(List.getElem?_eq_some_iff.mp q).1;omega
    exact NL.move rfl rfl (fun m b w hm e1 e2=>⟨e1,by rw[aAo (fun z=>absurd (h1 m i a (by rw[<-z];exact e1) z1) (by rcases hm with h | h<;>omega))];exact e2⟩) (by rw[eo];exact Same.refl _) z
def putAt (cs:Addr->Bool)(i:Nat)(f:Str)(d:D)(ρ:Rho):Option Out:=match ρ[i]? with
 | some (some (.oin a C dx fs))=>if cs C=true/\fs.length<1000 then some (.nx (ρ.set i (some (.oin a C dx (putD f d fs))))) else none
 | _=>none
def aEz (cs:Addr->Bool)(i:Nat)(f:Str)(fa:Rho->M D):Rho->Option Out:=fun ρ=>lft (fa ρ) ρ fun d=>if d.imm=true then putAt cs i f d ρ else none
theorem aBm {cs:Addr->Bool}{i:Nat}(hC: ∀C,cs C=true->Cls X.K C/\aE8 X.K C f)(hN:X.N[i]? =some x)(hv:Vis X.env.scope x)(he:PD X B e fa)(hs:Y3 e (some (.Attribute (.Name x p) f pos')) pos.line X.env=pure false:=by rfl)
  (hd:(x==("__debug__":Str))=false:=by decide) (hcd:(x==("__classdict__":Str))=false:=by decide):PDS X B (.Assign [.Attribute (.Name x p) f pos'] e pos) (aEz cs i f fa):=by
 refine PS.of (bI1 (aD5 hN hv hd hcd) he hs) fun E σ H h=> ?_
 obtain⟨ρ,r,h⟩:=h;refine⟨ρ,r,(aBw r h).imp fun d h1 v H1 e1 i1=> ?_⟩;split at h1
 ·rename_i hm
  unfold putAt at h1;split at h1
  ·rename_i a C dx fs q
   split at h1
   ·rename_i hc
    obtain⟨O,g1,go,g2,gl,g3⟩:=r.mono e1;obtain⟨z1,z2,z3,vs,z4,z5⟩:=g3 i _ q;exact⟨_,z2,a,C,dx,vs,rfl,z4,(hC C hc.1).1,(hC C hc.1).2,by rw[<-z5.length];exact hc.2,h1 σ _ (Rel.put O g1 go g2 gl g3 q (aHn go hm i1) z4)⟩
   ·exact Qg h1
  ·exact Qg h1
 ·exact Qg h1
def aS3 (cs:Addr->Bool)(i:Nat)(f:Str)(j:Nat):Rho->Option Out:=fun ρ=>match ρ[j]? with
 | some (some (.sh d))=>putAt cs i f d ρ
 | _=>none
theorem aMu {cs:Addr->Bool}{i j:Nat}{y:Str}{p2:Pos}(hC: ∀C,cs C=true->Cls X.K C/\aE8 X.K C f)(hN:X.N[i]? =some x)(hv:Vis X.env.scope x)(hN2:X.N[j]? =some y)(hv2:Vis X.env.scope y)(hs:Y3 (.Name y p2) (some (.Attribute (.Name x p) f pos')) pos.line X.env=pure false:=by rfl)
  (hd:(x==("__debug__":Str))=false:=by decide) (hcd:(x==("__classdict__":Str))=false:=by decide) (hd2:(y==("__debug__":Str))=false:=by decide) (bQ2:(y==("__classdict__":Str))=false:=by decide):PDS X B (.Assign [.Attribute (.Name x p) f pos'] (.Name y p2) pos) (aS3 cs i f j):=by
 refine PS.of (bI1 (aD5 hN hv hd hcd) (aD5 hN2 hv2 hd2 bQ2) hs) fun E σ H h=> ?_
 obtain⟨ρ,r,h⟩:=h;unfold aS3 at h;split at h
 ·rename_i d qd
  unfold putAt at h;split at h
  ·rename_i a C dx fs q
   split at h
   ·rename_i hc
    obtain⟨O,g1,go,g2,gl,g3⟩:=r;obtain⟨v,y1,y2⟩:=g3 j _ qd;obtain⟨z1,z2,z3,vs,z4,z5⟩:=g3 i _ q;exact⟨v,y1,_,z2,a,C,dx,vs,rfl,z4,(hC C hc.1).1,(hC C hc.1).2,by rw[<-z5.length];exact hc.2,h σ _ (Rel.put O g1 go g2 gl g3 q y2 z4)⟩
   ·exact Qg h
  ·exact Qg h
 ·exact Qg h
end
def aC0 (N:List Str)(ds:List D):Rho:=ds.map (fun d=>some (.sh d))++Zv (N.length-ds.length) none
def aBd:Option Out->M D
 | some (.rt d)=>ok d
 | some (.nx _)=>ok .non
 | some (.ex c _)=>err c
 | _=>none
theorem aIr {α β:Type}{f:α->β}: ∀{l:List α} {r:List β} {i:Nat} {b:β},(l.map f++r)[i]? =some b->(∃a,l[i]? =some a/\b=f a)\/(l.length<=i/\r[i-l.length]? =some b)
 | l,r,i,b,h=>by
  by_cases q:i<l.length
  ·rw[Yo (by simpa using q),Q7] at h
   obtain⟨a,e1,e2⟩:=Option.map_eq_some_iff.mp h;exact .inl ⟨a,e1,e2.symm⟩
  ·rw[Yy (by simpa using q),Qh] at h
   exact .inr ⟨by omega,h⟩
theorem aM8 {N:List Str}{vs:List V}{i:Nat}{v:V}(h:vs[i]? =some v):(start N vs)[i]? =some (some v):=by
 unfold start;have q:i<vs.length:=(List.getElem?_eq_some_iff.mp h).1;rw[Yo (by simpa using q),Q7,h];rfl
theorem aLj {N:List Str}{vs:List V}(h:vs.length<=N.length):(start N vs).length=N.length:=by
 unfold start;rw[Qq,Qh,J7];omega
theorem aU3 {N:List Str}{ds:List D}(h:ds.length<=N.length):(aC0 N ds).length=N.length:=by
 unfold aC0;rw[Qq,Qh,J7];omega
theorem bBr {K:Qc}{H:Hp}{N:List Str}{ds:List D}{vs:List V}(i:IsL K H ds vs)(hl:ds.length<=N.length):Rel K H (aC0 N ds) (start N vs) H:=by
 have e0:Off H (fun _=>none)=H:=by funext b;unfold Off;rw[if_neg (fun⟨i,e⟩=>nomatch e)]
 refine⟨fun _=>none,(by intro _ _ _ q;cases q),(by intro _ _ q;cases q),by rw[e0];exact Same.refl _,by rw[aU3 hl,aLj (by rw[<-i.length];exact hl)],fun j sv q=> ?_⟩;unfold aC0 at q;rcases aIr q with⟨d,e1,e2⟩ |⟨_,e2⟩
 ·cases e2
  obtain⟨v,h1,h2⟩:=i.get e1;exact⟨v,aM8 h1,by rw[e0];exact h2⟩
 ·rw[Je] at e2
  split at e2<;>cases e2
section
variable {P:Qx}{w:Zb}{K:Qc}{mg:Str->Option Qd}{base:Heap}
abbrev cxN (P:Qx)(w:Zb)(K:Qc)(mg:Str->Option Qd)(base:Heap)(N:List Str)(qual:Str)(scope:Scope)(f:Addr)(cd:Qd)(A:Ze)(outer:List Env)(s:Qf)(H:Hp)(E:XK):Cx:=
 (bNz (CXD P w) P w K mg base N qual scope f cd A outer s H E).nox
theorem aJ2 {x qual:Str}{st:Stmt}{f:Addr}{fd:FuncData}{N ps:List Str}{k:Nat}{F:List D->M D}(Fu:Fun K x qual st f fd)(S:aAt N ps (aAk st))(hL: ∀ds r,F ds=some r->ds.length=ps.length)
  (hbody: ∀(cdv:Qd) (A:Ze) (outer:List Env) (s:Qf) (H:Hp) (E:XK),aFk k (A.deeper (envOfC qual (aAk st) s.heap.objs.size f cdv))->
   ∃F',(∀B,PDB (cxN P w K mg base N qual (aAk st) f cdv A outer s H E) B (aCo st) F')/\∀ds r,F ds=some r->∃d,r= .ok d/\aBd (F' (aC0 N ds))=ok d):FnD P w K mg base (k+1) f fd ps F:=by
 obtain⟨oc,od,kV,doc,pm,an,cdv,ct,osl,rfl,lk,hcd⟩:=Fu.ex;refine bRg lk hcd S (fun vs H Q E ⟨ds,i,hl,_⟩=>hl) fun A outer s H vs Q E hr hsp=> ?_
 obtain⟨F',hF,hq⟩:=hbody cdv A outer s H E hr;refine⟨_,(hF H).nox,?_⟩;obtain⟨ds,i,hl,h⟩:=hsp;have hn:ps.length<=N.length:=by have:=congrArg Uu S.pre;rw[Yv] at this;omega
 cases q:F ds with
 | none=>rw[q] at h;exact Qg h
 | some r=>
  rw[q] at h;obtain⟨d,rfl,e⟩:=hq ds r q;refine⟨aC0 N ds,bBr i (by rw[i.length,hl];exact hn),?_⟩;cases qf:F' (aC0 N ds) with
  | none=>rw[qf] at e;cases e
  | some o=>
   rw[qf] at e;cases o with
   | rt d'=>have:=aBq e;subst this;exact fun v H' s' i'=>h v H' s' i'
   | nx ρ=>have:=aBq e;subst this;exact fun σ' H' r'=>h _ H' r'.kept .non
   | bk ρ=>cases e
   | ct ρ=>cases e
   | ex c ρ=>cases e
def aP0 (N:List Str)(a C dx:Addr)(ds:List D):Rho:=some (.oin a C dx [])::(ds.map (fun d=>some (.sh d))++Zv (N.length-(ds.length+1)) none)
theorem aY1 {H:Hp}{N:List Str}{a C dx:Addr}{ds:List D}{vs:List V}(ha:H a=some (.ins C dx []))(hd:dx≠a)(i:IsL K (hid H a) ds vs)(hl:ds.length+1<=N.length):Rel K (hid H a) (aP0 N a C dx ds) (start N (.ref a::vs)) H:=by
 have e0:Off H (fun j=>if j=0 then some a else none)=hid H a:=by
  funext b;unfold Off hid
  by_cases q:b=a
  ·rw[if_pos q,if_pos ⟨0,by simp[q]⟩]
  ·rw[if_neg q,if_neg]
   rintro⟨j,e⟩
   dsimp only at e
   split at e
   ·cases e;exact q rfl
   ·cases e
 refine⟨fun j=>if j=0 then some a else none,fun j k b q1 q2=> ?_,fun j b q=> ?_,by rw[e0];exact Same.refl _,?_,fun j sv q=> ?_⟩
 ·by_cases z1:j=0
  ·by_cases z2:k=0
   ·omega
   ·simp[z2] at q2
  ·simp[z1] at q1
 ·by_cases z1:j=0
  ·simp[z1] at q;subst q;exact⟨_,ha,rfl⟩
  ·simp[z1] at q
 ·rw[aLj (by rw[Qk,<-i.length];exact hl)]
  unfold aP0;rw[Qk,Qq,Qh,J7];omega
 ·cases j with
  | zero=>
   unfold aP0 at q;cases q;exact⟨rfl,aM8 rfl,hd,[],ha,.nil⟩
  | succ j=>
   unfold aP0 at q;rw[Jf] at q;rcases aIr q with⟨d,e1,e2⟩ |⟨_,e2⟩
   ·cases e2
    obtain⟨v,h1,h2⟩:=i.get e1;exact⟨v,aM8 (by rw[Jf];exact h1),by rw[e0];exact h2⟩
   ·rw[Je] at e2
    split at e2<;>cases e2
def aDm (a C dx:Addr):Option Out->M (List (Str×D))
 | some (.nx (some (.oin a' C' dx' fs)::_))=>if a'=a/\C'=C/\dx'=dx then ok fs else none
 | _=>none
theorem aJq {x qual:Str}{st:Stmt}{f C:Addr}{fd:FuncData}{N ps:List Str}{k:Nat}{F:List D->M (List (Str×D))}(Fu:Fun K x qual st f fd)(S:aAt N ps (aAk st))(hL: ∀ds r,F ds=some r->ds.length+1=ps.length)
  (hbody: ∀(cdv:Qd) (A:Ze) (outer:List Env) (s:Qf) (H:Hp) (E:XK),aFk k (A.deeper (envOfC qual (aAk st) s.heap.objs.size f cdv))->
   ∃F',(∀B,PDB (cxN P w K mg base N qual (aAk st) f cdv A outer s H E) B (aCo st) F')/\∀ds r a dx,F ds=some r->∃fs,r= .ok fs/\aDm a C dx (F' (aP0 N a C dx ds))=ok fs):bFj P w K mg base (CXD P w) (k+1) f fd ps (spI K C ps.length F):=by
 obtain⟨oc,od,kV,doc,pm,an,cdv,ct,osl,rfl,lk,hcd⟩:=Fu.ex;refine bRg lk hcd S (fun vs H Q E hz=>by obtain⟨a,dx,ws,ds,_,_,_,_,hl,_⟩:=hz;exact hl) fun A outer s H vs Q E hr hsp=> ?_
 obtain⟨F',hF,hq⟩:=hbody cdv A outer s H E hr;obtain⟨a,dx,ws,ds,rfl,ha,hd,i,hl,h⟩:=hsp;refine⟨_,(hF (hid H a)).nox,?_⟩;have hn:ps.length<=N.length:=by have:=congrArg Uu S.pre;rw[Yv] at this;omega
 cases q:F ds with
 | none=>rw[q] at h;exact Qg h
 | some r=>
  rw[q] at h;obtain⟨fs,rfl,e⟩:=hq ds r a dx q;refine⟨aP0 N a C dx ds,aY1 ha hd i (by rw[i.length];rw[Qk] at hl;omega),?_⟩;unfold aDm at e;split at e
  ·rename_i a' C' dx' fs' rest qf
   split at e
   ·rename_i hh
    obtain⟨rfl,rfl,rfl⟩:=hh;have:=aBq e;subst this;rw[qf];intro σ' H' r';obtain⟨O,g1,go,g2,gl,g3⟩:=r';obtain⟨z1,z2,z3,vs',z4,z5⟩:=g3 0 _ rfl;exact h H' vs' z4 (z5.mono (Off.same _ _)) (g2.trans (Off.same _ _))
   ·cases e
  ·cases e
end
theorem aAe {F G:Rho->Option Out}{ρ ρ':Rho}(h:F ρ=some (.nx ρ')):aAn F G ρ=G ρ':=by unfold aAn;rw[h]
theorem aBa {F G:Rho->Option Out}{ρ:Rho}{d:D}(h:F ρ=some (.rt d)):aAn F G ρ=some (.rt d):=by unfold aAn;rw[h]
theorem aS1 {t:Rho->M Bool}{F G:Rho->Option Out}{ρ:Rho}(h:t ρ=ok true):sIf t F G ρ=F ρ:=by unfold sIf;rw[h];rfl
theorem aHl {t:Rho->M Bool}{F G:Rho->Option Out}{ρ:Rho}(h:t ρ=ok false):sIf t F G ρ=G ρ:=by unfold sIf;rw[h];rfl
theorem aBl {f:Rho->M D}{ρ:Rho}{d:D}(h:f ρ=ok d):aC4 f ρ=some (.rt d):=by unfold aC4;rw[h];rfl
theorem bBi {i:Nat}{f:Rho->M D}{ρ:Rho}{d:D}(h:f ρ=ok d):aC7 i f ρ=some (.nx (aMs i d ρ)):=by unfold aC7;rw[h];rfl
theorem aI7 {i:Nat}{d:D}{ρ:Rho}(h:d.imm=true):aMs i d ρ=ρ.set i (some (.sh d)):=by unfold aMs;rw[if_pos h]
theorem bF6 {f:Rho->M D}{G:D->Rho->Option Rho}{F:Rho->Option Out}{ρ:Rho}{d:D}{ds:List D}(h:f ρ=ok d)(h1:itD d=ok ds):aL4 f G F ρ=loop G F ds (if d.imm=true then ρ else free ρ):=by
 unfold aL4;rw[h,aLt,h1];rfl
theorem aXs {G:D->Rho->Option Rho}{F:Rho->Option Out}(P:List D->Rho->Prop): ∀(ds pre:List D) (ρ:Rho),P pre ρ->
  (∀p d q ρ,pre++ds=p++d::q->P p ρ->∃ρ1 ρ2,G d ρ=some ρ1/\(F ρ1=some (.nx ρ2)\/F ρ1=some (.ct ρ2))/\P (p++ [d]) ρ2)->∃ρ',loop G F ds ρ=some (.nx ρ')/\P (pre++ds) ρ'
 | [],pre,ρ,h,_=>⟨ρ,rfl,by rw[Z9];exact h⟩
 | d::ds,pre,ρ,h,st=>by
  obtain⟨ρ1,ρ2,h1,h2,h3⟩:=st pre d ds ρ rfl h;obtain⟨ρ',h4,h5⟩:=aXs P ds (pre++ [d]) ρ2 h3 (fun p d' q ρ e hp=>st p d' q ρ (by rw[<-e,Z1];rfl) hp);refine⟨ρ',?_,by rw[Z1] at h5;exact h5⟩;unfold loop;rw[h1]
  dsimp only
  rcases h2 with h2 | h2<;>rw[h2]<;>exact h4
theorem aN8 {G:D->Rho->Option Rho}{F:Rho->Option Out}(P:List D->Rho->Prop)(ds:List D)(ρ:Rho)(h:P [] ρ)
  (st: ∀p d q ρ,ds=p++d::q->P p ρ->∃ρ1 ρ2,G d ρ=some ρ1/\(F ρ1=some (.nx ρ2)\/F ρ1=some (.ct ρ2))/\P (p++ [d]) ρ2): ∃ρ',loop G F ds ρ=some (.nx ρ')/\P ds ρ':=by
 have:=aXs P ds [] ρ h (fun p d q ρ e=>st p d q ρ (by simpa using e))
 simpa using this
mutual
def D.dep:D->Nat
 | .tup ds=>bUk ds+1
 | .lst ds=>bUk ds+1
 | _=>0
def bUk:List D->Nat
 | []=>0
 | d::ds=>max d.dep (bUk ds)
end
mutual
def D.pl:D->Bool
 | .tup ds=>decide (ds.length<=100000)&&plL ds
 | .lst ds=>decide (ds.length<=100000)&&plL ds
 | .obj _ _=>false
 | .dk _=>false
 | .dt _=>false
 | .exc _=>false
 | .set _=>false
 | _=>true
def plL:List D->Bool
 | []=>true
 | d::ds=>d.pl&&plL ds
end
open Classical in
def tt (S:List D->Prop):List D->M D:=fun ds=>if S ds then ok (.bl true) else none
theorem bSi {S:List D->Prop}{ds:List D}(h:S ds):tt S ds=ok (.bl true):=by unfold tt;rw[if_pos h]
theorem bIo {S:List D->Prop}{ds:List D}{r:Except Addr D}(h:tt S ds=some r):S ds/\r= .ok (.bl true):=by
 unfold tt at h;split at h
 ·rename_i q;exact⟨q,(Option.some.inj h).symm⟩
 ·cases h
theorem intBits_le {a:Int}{k:Nat}(h:a.natAbs<2^k):Z4 a<=k:=by
 unfold Z4;split
 ·exact Zy _
 ·rename_i q
  have hz:a.natAbs≠0:=by intro z;apply q;simp_all
  have:=(Nat.log2_lt hz).mpr h;omega
theorem bL6 {i j:Int}(hi:i.natAbs<2^1048576)(hj:j.natAbs<2^1048576):bFc i j=true:=by
 unfold bFc;rw[Zg];exact⟨decide_eq_true (intBits_le hi),decide_eq_true (intBits_le hj)⟩
theorem bGj {n m k:Nat}(h:n<2^m)(q:m<=k):n<2^k:=Q3 h (Jr (by decide) q)
def fAt:List D->M D
 | [.lst xs,.int k]=>if 0<=k then (if k<xs.length then (match xs[k.toNat]? with | some d=>ok d | none=>none) else ok (.int 0)) else none
 | _=>none
theorem bM8: ∀ds r,fAt ds=some r->ds.length=2:=by
 intro ds r h;unfold fAt at h;split at h
 ·rfl
 ·cases h
def atZ (ns:List Int)(k:Nat):Int:=ns.getD k 0
theorem bHt (ns:List Int)(k:Nat):fAt [.lst (ns.map D.int),.int k]=ok (.int (atZ ns k)):=by
 show (if 0<=(k:Int) then (if (k:Int)<(ns.map D.int).length then (match (ns.map D.int)[((k:Int)).toNat]? with | some d=>ok d | none=>none) else ok (.int 0)) else none)=_;rw[if_pos (by omega),Zc,Qh];unfold atZ;by_cases h:k<ns.length
 ·rw[if_pos (by omega),Q7,Qj h]
  simp[Q0,Qj h]
 ·rw[if_neg (by omega)]
  simp[Q0,Y4 (Nat.le_of_not_lt h)]
def bNa:Rho->Option Out:=
  (aAn (sIf (aA9 (b2 gLt (look 1) (f1 aI3 (look 0)))) (aAn (aC4 (b2 gIx (look 0) (look 1)))
  aAz) aAz)
  (aAn (aC4 (con (.int 0)))
  aAz))
theorem bR0 (N:List Str)(hN:N.length=2): ∀ds r,fAt ds=some r->∃d,r= .ok d/\aBd (bNa (aC0 N ds))=ok d:=by
 intro ds r h;unfold fAt at h;split at h
 ·rename_i xs k
  have e0:aC0 N [.lst xs,.int k]=[some (.sh (.lst xs)),some (.sh (.int k))]:=by unfold aC0;rw[hN];rfl
  rw[e0];split at h
  ·rename_i h0
   split at h
   ·rename_i hk
    split at h
    ·rename_i d hd
     cases h;refine⟨d,rfl,?_⟩;have t1:aA9 (b2 gLt (look 1) (f1 aI3 (look 0))) [some (.sh (.lst xs)),some (.sh (.int k))]=ok true:=by
      show ok (decide (k<(xs.length:Int)))=ok true;rw[decide_eq_true hk]
     have t2:b2 gIx (look 0) (look 1) [some (.sh (.lst xs)),some (.sh (.int k))]=ok d:=by
      show (match atI xs k with | some d=>ok d | none=>none)=ok d;have e:k=((k.toNat:Nat):Int):=by omega
      have:atI xs k=some d:=by rw[e];exact aR7 hd
      rw[this]
     unfold bNa;rw[aBa (d:=d)]
     ·rfl
     ·rw[aS1 t1,aBa (aBl t2)]
    ·cases h
   ·rename_i hk
    cases h;refine⟨_,rfl,?_⟩;have t1:aA9 (b2 gLt (look 1) (f1 aI3 (look 0))) [some (.sh (.lst xs)),some (.sh (.int k))]=ok false:=by
     show ok (decide (k<(xs.length:Int)))=ok false;rw[decide_eq_false hk]
    unfold bNa;rw[aAe (ρ':=[some (.sh (.lst xs)),some (.sh (.int k))])]
    ·rfl
    ·rw[aHl t1];rfl
  ·cases h
 ·cases h
theorem aWf {m:Str}{FM:Addr->Option (List D->M D)}{fo:Rho->M D}{g:Rho->M (List D)}{ρ:Rho}{C:Addr}{fs:List (Str×D)}{F:List D->M D}{ds:List D}(h1:fo ρ=ok (.obj C fs))(h2:FM C=some F)(h3:fs.lookup m=none)(h4:g ρ=ok ds):
  bJ0 m FM fo g ρ=F (.obj C fs::ds):=by
 unfold bJ0;rw[h1,aB0]
 dsimp only
 rw[h2,h3]
 dsimp only
 rw[h4,aB0]
theorem aJs {cs:Addr->Bool}{f:Str}{fo:Rho->M D}{ρ:Rho}{C:Addr}{fs:List (Str×D)}{d:D}(h1:fo ρ=ok (.obj C fs))(h2:cs C=true)(h3:fs.lookup f=some d):fld cs f fo ρ=ok d:=by
 unfold fld;rw[h1,aB0]
 dsimp only
 rw[if_pos h2,h3]
theorem aBo {F:List D->M D}{g:Rho->M (List D)}{ρ:Rho}{ds:List D}(h:g ρ=ok ds):app F g ρ=F ds:=by
 unfold app;rw[h,aB0]
theorem aAf {f:Rho->M D}{g:Rho->M (List D)}{ρ:Rho}{d:D}{ds:List D}(h1:f ρ=ok d)(h2:g ρ=ok ds):aAa f g ρ=ok (d::ds):=by
 unfold aAa;rw[h1,aB0,h2,aB0]
theorem aAq {ρ:Rho}:aAg ρ=ok []:=rfl
theorem aXq {g:Rho->M (List D)}{ρ:Rho}{ds:List D}(h:g ρ=ok ds)(hl:ds.length<=1000:=by simp):mkT g ρ=ok (.tup ds):=by
 unfold mkT;rw[h,aB0,if_pos hl]
theorem bJc {g:Rho->M (List D)}{ρ:Rho}{ds:List D}(h:g ρ=ok ds)(hl:ds.length<=1000:=by simp):mkL g ρ=ok (.lst ds):=by
 unfold mkL;rw[h,aB0,if_pos hl]
theorem aB2 {g:D->D->M D}{fa fb:Rho->M D}{ρ:Rho}{x y:D}{r:M D}(h1:fa ρ=ok x)(h2:fb ρ=ok y)(h3:g x y=r):b2 g fa fb ρ=r:=by
 unfold b2;rw[h1,aB0,h2,aB0,h3]
theorem aEc {f:Rho->M D}{ρ:Rho}{d:D}{b:Bool}(h:f ρ=ok d)(q:tru d=ok b):test f ρ=ok b:=by unfold test;rw[h,aB0,q]
theorem aDy {f:Rho->M D}{ρ:Rho}{b:Bool}(h:f ρ=ok (.bl b)):aA9 f ρ=ok b:=by unfold aA9;rw[h,aB0];rfl
theorem aFo {f:Rho->M Bool}{ρ:Rho}{b:Bool}(h:f ρ=ok b):aKi f ρ=ok (!b):=by unfold aKi;rw[h,aB0]
theorem aXd {f:Rho->M D}{F:Rho->Option Out}{ρ:Rho}(h:f ρ=ok (.bl true)):sIf (aKi (test f)) F aAz ρ=some (.nx ρ):=by
 rw[aHl (aFo (aEc h rfl))];rfl
theorem p60:(10:Int)^(60:Int).toNat=1000000000000000000000000000000000000000000000000000000000000:=by decide
abbrev cxC (X:Cx)(scope:Scope)(cl:List (Str×Addr))(N:List Str)(C:Addr)(s₀:Qf)(H₀:Hp)(ex:List Addr):Cx:=
 {X with env:=compEnvC scope cl C X.env,N:=N,s₀:=s₀,H₀:=H₀,outer:=X.stack,ex:=ex,fn:=fun _=>false,pn:=[],xe:=fun _ _=>False}
def aTl (cl:List (Str×Addr))(env:Env):Bool:=cl.all fun p=>(env.cells.lookup p.1==some p.2)&&(env.kindOf p.1==some .cell || env.kindOf p.1==some .free)
def bG2 (N N':List Str)(sc:Scope):Bool:=(Zj N.length).all fun i=>match N'[i]? with
 | some x=>((N[i]? ==some x)&&(sc.names.lookup x==some .cell || sc.names.lookup x==some .free)) ||(sc.names.lookup x==none)
 | none=>false
def bDy (cl:List (Str×Addr))(sc:Scope):Bool:=sc.names.all fun p=>(p.2 != .cell&&p.2 != .free) ||(cl.lookup p.1).isSome
theorem lookup_mem {α β:Type}[BEq α][LawfulBEq α]: ∀{l:List (α×β)} {x:α} {b:β},l.lookup x=some b->(x,b)∈l
 | [],_,_,h=>by simp at h
 |(y,c)::l,x,b,h=>by
  rw[Vf] at h;cases q:x==y with
  | true=>rw[q] at h;simp at h;subst h;have:=LawfulBEq.eq_of_beq q;subst this;exact Qm
  | false=>rw[q] at h;exact Qr _ (lookup_mem h)
theorem aK7 {prog:Qx}{w:Zb}{A:Ze}{R:Result->Qf->Prop}{s:Qf}{elt target iter:Expr}{ifs:List Expr}{scope:Scope}{pos:Pos}{it acc:Qd}{env:Env}(I:Nat->Qf->Prop)
  (turn: ∀n s,I n s->Qp (Qt prog w) A (Jx it) (fun r s₁=>match r with
   | none=>R (.ok .next) s₁
   | some v=>Qp (Qt prog w) A (letOwnedTupleGo target it v) (fun _ s₁'=>Qp (Qt prog w) A (assign target env v) (fun _ s₂=>
     Qp (Qt prog w) A (forIn ifs true fun c r=>if r=true then do let ok<-isTrue c env (eval c env);pure (ForInStep.yield ok) else pure (ForInStep.yield r)) (fun ok s₃=>
      if ok=true then Qp (Qt prog w) A (eval elt env) (fun x s₄=>
       Qp (Qt prog w) A (call (.builtin "list.append") [acc,x]) (fun _ s₅=> ∃m,m<n/\I m s₅) (fun _ _=>False) s₄) (fun _ _=>False) s₃
      else∃m,m<n/\I m s₃) (fun _ _=>False) s₂) (fun _ _=>False) s₁') (fun _ _=>False) s₁) (fun _ _=>False) s)
  (n:Nat) (h:I n s):codeAny (Qt prog w) A (.compLoop (.ListComp elt [⟨target,iter,ifs,0⟩] scope pos) 0 it acc env) R s:=by
 refine codeAny_loop rfl I (fun n s hI=> ?_) n h;show Qp _ A ((compTurn (.ListComp elt [⟨target,iter,ifs,0⟩] scope pos) 0 it acc env).onRaise (fun x=>do noteFrame x env;theTreesLotGoes x)) _ _ s;refine wpAny_noted ?_;rw[compTurn_list];refine Qa (wpAny_standAt (Qa (Y1 (turn n s hI) (fun r s₁ h₁=> ?_) fun _ _ h'=>h'.elim)));cases r with
 | none=>exact Qe h₁
 | some v=>
  refine Qa (Y1 h₁ (fun _ s₁' h₁'=> ?_) fun _ _ h'=>h'.elim);refine Qa (Y1 h₁' (fun _ s₂ h₂=>Qa (Y1 h₂ (fun ok s₃ h₃=> ?_) fun _ _ h'=>h'.elim)) fun _ _ h'=>h'.elim);cases ok with
  | false=>exact Qe ⟨rfl,h₃⟩
  | true=>
   exact Qa (Qa (Y1 h₃ (fun x s₄ h₄=>Qa (Y1 h₄ (fun _ s₅ h₅=>Qe (Qe ⟨rfl,h₅⟩)) fun _ _ h'=>h'.elim)) fun _ _ h'=>h'.elim))
def PIf (X:Cx)(B:Hp)(ifs:List Expr)(ft:Rho->M Bool):Prop:=(ifs=[]/\ft=fun _=>ok true)\/∃c,ifs=[c]/\PDT X B c ft
def aYv (σ:St):List Nat->List V->St
 | k::ks,v::vs=>aYv (σ.set k (some v)) ks vs
 | _,_=>σ
def bF1 (ρ:Rho):List Nat->List D->Rho
 | k::ks,d::ds=>bF1 (ρ.set k (some (.sh d))) ks ds
 | _,_=>ρ
def PDH (X:Cx)(tg:Expr)(ks:List Nat)(G:D->Option (List D)):Prop:=
 PG X tg (fun v σ H Q=> ∃d es,Is X.K H d v/\G d=some es/\∀vs,IsL X.K H es vs->vs.length=ks.length->Q (aYv σ ks vs) H)
def aO2 (ks:List Nat)(G:D->Option (List D))(ft:Rho->M Bool)(fe:Rho->M D):List D->Rho->M (List D)
 | [],_=>ok []
 | d::ds,ρ=>match G d with
  | none=>none
  | some es=>match ft (bF1 ρ ks es) with
   | some (.ok true)=>(match fe (bF1 ρ ks es) with
    | some (.ok r)=>if r.imm=true then bnd (aO2 ks G ft fe ds ρ) fun rs=>ok (r::rs) else none
    | _=>none)
   | some (.ok false)=>aO2 ks G ft fe ds ρ
   | _=>none
def ext (m:Nat)(ρ:Rho):Rho:=ρ++Zv m none
def cmp (m:Nat)(it:Rho->M (List D))(ks:List Nat)(G:D->Option (List D))(ft:Rho->M Bool)(fe:Rho->M D):Rho->M D:=fun ρ=>
 bnd (it ρ) fun ds=>if ds.length<=1000000 then bnd (aO2 ks G ft fe ds (ext m (free ρ))) fun rs=>ok (.lst rs) else none
theorem aK8 {ks:List Nat}{G:D->Option (List D)}{ft:Rho->M Bool}{fe:Rho->M D}: ∀{ds:List D} {ρ:Rho} {c:Addr},aO2 ks G ft fe ds ρ≠some (.error c)
 | [],ρ,c=>fun h=>by cases h
 | d::ds,ρ,c=>fun h=>by
  unfold aO2 at h;split at h
  ·cases h
  ·split at h
   ·split at h
    ·split at h
     ·cases q:aO2 ks G ft fe ds ρ with
      | none=>rw[q] at h;cases h
      | some z=>
       cases z with
       | error c'=>exact aK8 q
       | ok z=>rw[q] at h;cases h
     ·cases h
    ·cases h
   ·exact aK8 h
   ·cases h
theorem aOl: ∀(a b:List D),aIq (a++b)=(aIq a&&aIq b)
 | [],b=>by simp[aIq]
 | d::a,b=>by
  show (d.imm&&aIq (a++b))=((d.imm&&aIq a)&&aIq b);rw[aOl a b,Bool.and_assoc]
theorem aNb: ∀{ks:List Nat} {σ:St} {vs:List V},(aYv σ ks vs).length=σ.length
 | [],σ,vs=>by cases vs<;>rfl
 | k::ks,σ,[]=>rfl
 | k::ks,σ,v::vs=>by
  show (aYv (σ.set k (some v)) ks vs).length=_;rw[aNb,Q9]
theorem aWy: ∀{ks:List Nat} {σ:St} {vs:List V} {i:Nat},i∉ks->(aYv σ ks vs)[i]? =σ[i]?
 | [],σ,vs,i,_=>by cases vs<;>rfl
 | k::ks,σ,[],i,_=>rfl
 | k::ks,σ,v::vs,i,h=>by
  show (aYv (σ.set k (some v)) ks vs)[i]? =_;rw[aWy (fun z=>h (Qr _ z)),Qs (fun z=>h (by rw[z];exact Qm))]
def Shr (K:Qc)(H:Hp)(ρ:Rho)(σ:St):Prop:=ρ.length=σ.length/\∀(i:Nat) (sv:SV),ρ[i]? =some (some sv)->∃d v,sv= .sh d/\σ[i]? =some (some v)/\Is K H d v
theorem Shr.rel {K:Qc}{H:Hp}{ρ:Rho}{σ:St}(h:Shr K H ρ σ):Rel K H ρ σ H:=by
 have e0:Off H (fun _=>none)=H:=by funext b;unfold Off;rw[if_neg (fun⟨i,e⟩=>nomatch e)]
 refine⟨fun _=>none,(by intro _ _ _ q;cases q),(by intro _ _ q;cases q),by rw[e0];exact Same.refl _,h.1,fun i sv q=> ?_⟩;obtain⟨d,v,rfl,e1,e2⟩:=h.2 i sv q;exact⟨v,e1,by rw[e0];exact e2⟩
theorem Shr.mono {K:Qc}{H H':Hp}{ρ:Rho}{σ:St}(e:Same H H')(h:Shr K H ρ σ):Shr K H' ρ σ:=⟨h.1,fun i sv q=>by
 obtain⟨d,v,e0,e1,e2⟩:=h.2 i sv q;exact⟨d,v,e0,e1,e2.mono e⟩⟩
theorem Shr.free {K:Qc}{B H:Hp}{ρ:Rho}{σ:St}(r:Rel K B ρ σ H):Shr K H (free ρ) σ:=by
 refine⟨?_,fun i sv q=> ?_⟩
 ·obtain⟨_,_,_,_,hl,_⟩:=r.freed;exact hl
 ·unfold PU.free at q
  rw[Q7] at q;obtain⟨o,e1,e2⟩:=Option.map_eq_some_iff.mp q;cases o with
  | none=>cases e2
  | some sv0=>
   have e2':sv0.rel=sv:=Option.some.inj e2;subst e2';obtain⟨v,e3,e4⟩:=r.get e1;exact⟨sv0.cur,v,by cases sv0<;>rfl,e3,e4⟩
theorem Shr.more {K:Qc}{H:Hp}{ρ:Rho}{σ:St}(m:Nat)(h:Shr K H ρ σ):Shr K H (ext m ρ) (σ++Zv m none):=by
 refine⟨by unfold ext;simp[h.1],fun i sv e=> ?_⟩;have e':ρ[i]? =some (some sv):=by
  unfold ext at e;by_cases hi:i<ρ.length
  ·rw[Yo hi] at e;exact e
  ·rw[Yy (by omega),Je] at e
   split at e<;>cases e
 have hi:i<σ.length:=by rw[<-h.1];exact (List.getElem?_eq_some_iff.mp e').1
 obtain⟨d,v,e0,e1,e2⟩:=h.2 i sv e';exact⟨d,v,e0,by rw[Yo hi];exact e1,e2⟩
theorem Shr.set {K:Qc}{H:Hp}{ρ:Rho}{σ:St}{k:Nat}{d:D}{v:V}(h:Shr K H ρ σ)(i:Is K H d v):Shr K H (ρ.set k (some (.sh d))) (σ.set k (some v)):=by
 refine⟨by rw[Q9,Q9,h.1],fun j sv e=> ?_⟩;by_cases q:j=k
 ·subst q
  have hj:j<ρ.length:=by
   have:=(List.getElem?_eq_some_iff.mp e).1
   rwa [Q9] at this
  rw[Q4 hj] at e;have e':=Option.some.inj (Option.some.inj e);exact⟨d,v,e'.symm,Q4 (by rw[<-h.1];exact hj),i⟩
 ·rw[Qs (Ne.symm q)] at e
  obtain⟨d',v',e0,e1,e2⟩:=h.2 j sv e;exact⟨d',v',e0,by rw[Qs (Ne.symm q)];exact e1,e2⟩
theorem Shr.bIw {K:Qc}{H:Hp}: ∀{ks:List Nat} {ρ:Rho} {σ:St} {ds:List D} {vs:List V},Shr K H ρ σ->IsL K H ds vs->Shr K H (bF1 ρ ks ds) (aYv σ ks vs)
 | [],ρ,σ,ds,vs,h,i=>by cases i<;>exact h
 | k::ks,ρ,σ,_,_,h,.nil=>h
 | k::ks,ρ,σ,d::ds,v::vs,h,.cons i r=>by
  show Shr K H (bF1 (ρ.set k (some (.sh d))) ks ds) (aYv (σ.set k (some v)) ks vs);exact Shr.bIw (ks:=ks) (h.set (k:=k) i) r
section
variable {X:Cx}{B:Hp}{scope:Scope}{cl:List (Str×Addr)}{N':List Str}{m:Nat}
theorem aWl {env:Env}(hf:bDy cl (relabel scope env)=true){x:Str}{k:NameKind}(hk:(relabel scope env).names.lookup x=some k)(hc:k= .cell\/k= .free): ∃c,cl.lookup x=some c:=by
 have h:=List.all_eq_true.mp hf _ (lookup_mem hk)
 dsimp only at h
 rw[Yu] at h;rcases h with h | h
 ·rcases hc with rfl | rfl<;>simp at h
 ·exact Option.isSome_iff_exists.mp h
theorem aZ5 {pins:List (Addr×Obj)}{σ:St}{H:Hp}{s:Qf}{fp:List Addr}{h₁:Heap}{tk:Nat}(I:Inv X pins σ H s)(hkind:scope.kind= .function)(hcl:aTl cl X.env=true)(hnm:bG2 X.N N' (relabel scope X.env)=true)(hf:bDy cl (relabel scope X.env)=true)(hl:N'.length=X.N.length+m)
  (hfp: ∀b∈fp,bFi X pins H b/\b<s.heap.objs.size) (hk: ∀b o,s.heap.get? b=some o->h₁.get? b=some o) {mm:Str->Option Qd} (hns:h₁.Ns s.heap.objs.size mm):
  Inv (cxC X scope cl N' s.heap.objs.size s H fp) [] (σ++Zv m none) H {s with heap:=h₁,toks:=tk}:=by
 have sub: ∀x c,cl.lookup x=some c->X.env.cells.lookup x=some c/\(X.env.kindOf x=some .cell\/X.env.kindOf x=some .free):=fun x c e=>by
  have h:=List.all_eq_true.mp hcl _ (lookup_mem e)
  dsimp only at h
  rw[Zg,Yu] at h;exact⟨beq_iff_eq.mp h.1,h.2.elim (fun z=> .inl (beq_iff_eq.mp z)) fun z=> .inr (beq_iff_eq.mp z)⟩
 have bM4: ∀b∈fp,b∉frs X.stack:=fun b hb z=>by
  rcases List.mem_cons.mp (I.bA8 b z) with e | e
  ·exact (hfp b hb).1.2.1 e
  ·exact (hfp b hb).1.2.2.1 e
 refine⟨⟨I.ok.mod,hkind,I.ok.glob,I.ok.blt,Qo _,fun x y c h1 h2=>I.ok.inj x y c (sub x c h1).1 (sub y c h2).1,fun x hx=> ?_,(fun x c h=>by cases h),I.ok.hd,I.ok.frames,.inl rfl,fun b hb=> ?_,I.bs,Zs I.ok.bsz I.sz,fun b o e hb=> ?_,bM4,I.stack,I.bA9⟩,
  rfl,I.bare,Un.kept hk,⟨mm,hns,fun i x v h1 h2 h3=> ?_⟩,fun x c e=> ?_,I.hok.fresh (Qo _),fun x c e=>I.aMk x c (sub x c e).1,(fun p hp=>by cases hp),I.hok.kept hk,?_⟩
 ·rcases hx with hx | hx
  ·exact aWl hf hx (.inl rfl)
  ·exact aWl hf hx (.inr rfl)
 ·exact⟨Qz (hfp b hb).2,fun x c e=>(hfp b hb).1.2.2.2.2.1 x c (sub x c e).1⟩
 ·rcases (hfp b hb).1.2.2.2.1 with z | z
  ·exact I.ok.bPy b o e z
  ·exact absurd (Q3 (Qn e) (Zs I.ok.bsz z)) (Us _)
 ·--a name of the outer def
  have hi:i<σ.length:=by
   by_cases hi:i<σ.length
   ·exact hi
   ·rw[Yy (by omega),Je] at h2
    split at h2<;>cases h2
  rw[Yo hi] at h2;have hiN:i<X.N.length:=by rw[<-I.len];exact hi
  have hn:=List.all_eq_true.mp hnm i (List.mem_range.mpr hiN)
  (try dsimp only at h1)
  (try dsimp only at hn)
  rw[h1] at hn
  (try dsimp only at hn)
  rw[Yu] at hn;have bW1: ∃k,(relabel scope X.env).names.lookup x=some k:=by
   rcases h3 with h | h | h
   ·exact⟨_,h⟩
   ·exact⟨_,h⟩
   ·exact⟨_,h⟩
  obtain⟨kx,hkx⟩:=bW1;rcases hn with hn | hn
  ·rw[Zg,Yu] at hn
   have hXN:X.N[i]? =some x:=beq_iff_eq.mp hn.1;have hcf:(relabel scope X.env).names.lookup x=some .cell\/(relabel scope X.env).names.lookup x=some .free:=hn.2.elim (fun z=> .inl (beq_iff_eq.mp z)) fun z=> .inr (beq_iff_eq.mp z)
   obtain⟨c,hc⟩: ∃c,cl.lookup x=some c:=hcf.elim (fun z=>aWl hf z (.inl rfl)) fun z=>aWl hf z (.inr rfl)
   obtain⟨m0,hm0,lk⟩:=I.loc;have hk0:=(sub x c hc).2;obtain⟨u,ru,lu⟩:=lk i x v hXN h2 (hk0.elim (fun z=> .inr (.inl z)) fun z=> .inr (.inr z));refine⟨u,ru,.inr ⟨hcf,c,hc,?_⟩⟩;rcases lu with⟨z1,_⟩ |⟨_,c',e1,o,ho,hd⟩
   ·rcases hk0 with z | z<;>rw[z] at z1<;>cases z1
   ·rw[(sub x c hc).1] at e1
    cases e1;exact⟨o,hk _ _ ho,hd⟩
  ·have e:=beq_iff_eq.mp hn
   rw[hkx] at e;cases e
 ·obtain⟨v,z⟩:=I.cell x c (sub x c e).1
  obtain⟨o,ho,hd⟩:=z;exact⟨v,o,hk _ _ ho,hd⟩
 ·show (σ++Zv m none).length=N'.length
  rw[Qq,J7,I.len,hl]
variable {x:Str}{tg iter elt:Expr}{ifs:List Expr}{pos:Pos}{ks:List Nat}{G:D->Option (List D)}{ft:Rho->M Bool}{fe:Rho->M D}{it:Rho->M (List D)}
def PIt (X:Cx)(B:Hp)(tg iter:Expr)(it:Rho->M (List D)):Prop:=
 ∀(pins:List (Addr×Obj)) (s:Qf) (σ:St) (H:Hp) (R:It->Hp->Prop) (ρ:Rho),Inv X pins σ H s->Rel X.K B ρ σ H->
  Res X σ H (fun ds=> ∀J H1,Same H H1->ItD X.K J ds H1->R J H1) (it ρ)->
  Qp (Qt X.prog X.w) X.A (eval iter X.env) (fun v s1=>Qp (Qt X.prog X.w) X.A (pyIter v) (PIE X pins σ tg R) X.xe s1) X.xe s
def bXq (X:Cx)(pins:List (Addr×Obj))(C:Addr):Prop:=(C∈X.ex\/X.s₀.heap.objs.size<=C)/\C≠X.env.locals/\(∀x c,X.env.cells.lookup x=some c->c≠C)/\∀p∈X.pn++pins,p.1≠C
theorem none_of {H H':Hp}{a:Addr}(e:Same H H')(h:H' a=none):H a=none:=by
 cases q:H a with
 | none=>rfl
 | some o=>rw[e _ _ q] at h;cases h
theorem bEh (hclos:closureFor scope X.env=pure cl)(hcell: ∀y∈scope.names,y.2≠ .cell)(hkind:scope.kind= .function)(hnames: ∀y∈scope.names,y.2= .local->scope.names.lookup y.1=some .local)(hcl:aTl cl X.env=true)
  (hnm:bG2 X.N N' (relabel scope X.env)=true) (hf:bDy cl (relabel scope X.env)=true) (hl:N'.length=X.N.length+m) (hks: ∀k∈ks,X.N.length<=k) (hcm:X.calm=true) (hi:PIt X B tg iter it)
  (hg: ∀C s₀ H₀ ex,PDH (cxC X scope cl N' C s₀ H₀ ex) tg ks G) (ht: ∀C s₀ H₀ ex B,PIf (cxC X scope cl N' C s₀ H₀ ex) B ifs ft) (he: ∀C s₀ H₀ ex B,PD (cxC X scope cl N' C s₀ H₀ ex) B elt fe)
  (hs: ∀x,Ys iter X.env x=pure x) {p0:Pos} {use:Option (Qd->Sem Unit)} {Q':Qd->Qf->Prop} {Kp:List D->Prop} {pins:List (Addr×Obj)} {s:Qf} {σ:St} {H:Hp} {ρ:Rho} (I:Inv X pins σ H s) (r:Rel X.K B ρ σ H) (h:Res X σ H (fun d=> ∀rs,d= .lst rs->Kp rs) (cmp m it ks G ft fe ρ))
  (fin: ∀(Dd Cc:Addr) (s3:Qf) (Hj:Hp) (rs:List D),(∀h',Z3 Cc s3.heap h'->Inv X pins σ Hj {s3 with heap:=h'})->(∃m,s3.heap.Ns Cc m)->bXq X pins Cc->Hj Cc=none->Same H Hj->H Dd=none->aIq rs=true->(∃vs,Hj Dd=some (.lst vs)/\IsL X.K Hj rs vs)->Kp rs->
   compPost (Qt X.prog X.w) X.A X.xe use Q' (.ref Dd) Cc (.ok .next) s3):
  Qp (Qt X.prog X.w) X.A (comprehension (.ListComp elt [⟨tg,iter,ifs,0⟩] scope pos) scope X.env p0 (newList []) false (eval iter X.env) use) Q' X.xe s:=by
 refine wpAny_comprehension_free (use:=use) rfl hs hclos hkind hnames ?_;show Qp (Qt X.prog X.w) X.A (eval iter X.env) _ X.xe s;refine thn (hi pins s σ H (fun J H1=> ∃ds,Same H H1/\ItD X.K J ds H1/\ds.length<=1000000/\∃rs,aO2 ks G ft fe ds (ext m (free ρ))=ok rs/\Kp rs) ρ I r ((Res.bind h).imp fun ds h1 J H1 e1 i1=> ?_)) fun v s1 h1=>thn h1 fun itv s2 h2=> ?_
 ·split at h1
  ·rename_i hlen
   refine⟨ds,e1,i1,hlen,?_⟩;have h2:=Res.bind h1;cases q:aO2 ks G ft fe ds (ext m (free ρ)) with
   | none=>rw[q] at h2;exact Qg h2
   | some z=>
    cases z with
    | error c=>exact absurd q aK8
    | ok rs=>rw[q] at h2;exact⟨rs,rfl,h2 rs rfl⟩
  ·exact Qg h1
 obtain⟨ia,fp,tn,J,H2,rfl,I2,T,st2,f2,ds,e1,hJ,hlen,rs,hrs,hQ⟩:=h2;have bV2:Shr X.K H2 (ext m (free ρ)) (σ++Zv m none):=((Shr.free r).mono e1).more m;have fpl: ∀b∈fp,b<s2.heap.objs.size:=fun b hb=>let ⟨o,ho,_⟩:=T.obj 0 _ st2 b hb;Qn ho
 refine Zx (wpAny_newFunctionEnv hcell (by intro y hy;simp at hy) (fun h₁ hns₁ hsb₁=> ?_) hkind)
 dsimp only at hns₁ hsb₁⊢
 have I0:Inv X pins σ (upd H2 s2.heap.objs.size (.lst [])) {s2 with heap:=s2.heap.push {cls:= .type "list",dict:=none,data:= .seq ([]:List Qd).toArray}}:=I2.bVb (t':=s2.toks) (its:=[]) .nil (Zy _);have hsz:(s2.heap.push {cls:= .type "list",dict:=none,data:= .seq ([]:List Qd).toArray}).objs.size=s2.heap.objs.size+1:=Z2 _ _;generalize hP:s2.heap.push {cls:= .type "list",dict:=none,data:= .seq ([]:List Qd).toArray}=P2 at hns₁ hsb₁ I0 hsz⊢;generalize hD:s2.heap.objs.size=Dd at*;generalize hC:P2.objs.size=Cc at*;have bXu:Dd≠Cc:=by omega
 have bT3: ∀b o,P2.get? b=some o->h₁.get? b=some o:=fun b o e=>hsb₁.extBut b o (Qz (by rw[<-hC];exact Qn e)) (Qb _ e)
 have bT2: ∀b o,s2.heap.get? b=some o->P2.get? b=some o:=fun b o e=>by rw[<-hP];exact Qb _ e
 have nD2:H2 Dd=none:=I2.hok.fresh (by omega);have nC2:H2 Cc=none:=I2.hok.fresh (by omega);have sm0:Same H2 (upd H2 Dd (.lst [])):=aAp nD2 _;have fp0: ∀b∈fp,bFi X pins (upd H2 Dd (.lst [])) b/\b<P2.objs.size:=fun b hb=>by
  have hb':=fpl b hb;obtain⟨f0,f1⟩:=f2 b hb;exact⟨⟨by rw[aAo (Qz hb')];exact f0,f1⟩,by rw[hC,hsz];exact Ul hb'⟩
 have IC:=aZ5 (tk:=s2.toks+([]:List (Str×Qd)).length) I0 hkind hcl hnm hf hl fp0 bT3 (by rw[hC];exact hns₁);rw[hC] at IC;have loop: ∀s₄:Qf,s₄={s2 with heap:=h₁,toks:=s2.toks+([]:List (Str×Qd)).length}->
   codeAny (Qt X.prog X.w) X.A (.compLoop (.ListComp elt [⟨tg,iter,ifs,0⟩] scope pos) 0 (.ref ia) (.ref Dd) (compEnvC scope cl Cc X.env)) (compPost (Qt X.prog X.w) X.A X.xe use Q' (.ref Dd) Cc) s₄:=by
  rintro s₄ rfl
  refine aK7 (fun n s'=> ∃j Hj vs rj rest,n=ds.length+1-j/\j<=ds.length/\Inv (cxC X scope cl N' Cc {s2 with heap:=P2} (upd H2 Dd (.lst [])) fp) [] (σ++Zv m none) Hj s'/\tn j s'.heap/\(∀b∈fp,Hj b=none)/\
   Hj Dd=some (.lst vs)/\IsL X.K Hj rj vs/\aIq rj=true/\rj.length<=j/\Same H2 Hj/\aO2 ks G ft fe (ds.drop j) (ext m (free ρ))=ok rest/\rs=rj++rest) ?_ (ds.length+1)
   ⟨0,_,[],[],rs,rfl,Zy _,IC,T.keep _ _ _ st2 fun b hb o e=>bT3 _ _ (bT2 _ _ e),fun b hb=>(fp0 b hb).1.1,aAm,.nil,rfl,Qo _,sm0,by simpa using hrs,rfl⟩
  rintro n s' ⟨j,Hj,vs,rj,rest,rfl,hj,IJ,stj,frj,hDj,ilj,imj,hlj,smj,hrest,bTz⟩
  have fpX: ∀{H':Hp},(∀b∈fp,H' b=none)->∀b∈fp,bFi (cxC X scope cl N' Cc {s2 with heap:=P2} (upd H2 Dd (.lst [])) fp) [] H' b:=fun hn b hb=>
   ⟨hn b hb,(IJ.ok.exf b hb).1,IJ.ok.bRl b hb,.inl hb,(IJ.ok.exf b hb).2,(fun p hp=>by cases hp)⟩
  by_cases hlt:j<ds.length
  ·have hd:ds.drop j=ds[j]::ds.drop (j+1):=Wa hlt
   rw[hd] at hrest;obtain⟨q0,q1,q2,q3⟩:(∃es,G ds[j]=some es)/\True/\True/\True:=by
    refine⟨?_,trivial,trivial,trivial⟩;cases q:G ds[j] with
    | none=>unfold aO2 at hrest;rw[q] at hrest;cases hrest
    | some es=>exact⟨es,rfl⟩
   obtain⟨es,hG⟩:=q0;unfold aO2 at hrest;rw[hG] at hrest
   dsimp only at hrest
   refine thn (T.item (cxC X scope cl N' Cc {s2 with heap:=P2} (upd H2 Dd (.lst [])) fp) rfl rfl rfl hcm j [] s' _ Hj (fun _ _=>False) IJ (fpX frj) stj (hJ.go j Hj smj hlt)) fun r s3 ⟨u,hr,h4⟩=> ?_
   subst hr;refine thn h4 fun _ s5 ⟨xv,H5,I5,r5,y5,st5,fr5⟩=> ?_
   obtain⟨e5,d,e6,e7⟩:=hJ.yld j Hj xv H5 smj y5 hlt
   replace hDj:=e5 _ _ hDj
   replace ilj:=IsL.mono e5 ilj
   replace smj:=smj.trans e5
   have ed:ds[j]=d:=by rw[Qj hlt] at e6;exact Option.some.inj e6
   rw[ed] at hG;have I5':=I5.pinned (fpX fr5) (T.obj _ _ st5);rw[List.nil_append] at I5';refine thn (hg Cc {s2 with heap:=P2} (upd H2 Dd (.lst [])) fp _ s5 _ H5 xv u (fun σ6 H6=>H6=H5/\∃vs',IsL X.K H5 es vs'/\σ6=aYv (σ++Zv m none) ks vs') I5' r5 ⟨d,es,e7,hG,fun vs' iv' _=>⟨rfl,vs',iv',rfl⟩⟩) fun _ s6 ⟨σ6,H6,I6,q6⟩=> ?_
   obtain⟨rfl,vs',iv',rfl⟩:=q6;have bUz:Rel X.K H6 (bF1 (ext m (free ρ)) ks es) (aYv (σ++Zv m none) ks vs') H6:=(Shr.bIw (bV2.mono smj) iv').rel;have turn: ∀(s7:Qf) (H7:Hp) (vs7:List V) (r7 bGa:List D),Inv (cxC X scope cl N' Cc {s2 with heap:=P2} (upd H2 Dd (.lst [])) fp) (aP2 fp s5.heap) (aYv (σ++Zv m none) ks vs') H7 s7->H7 Dd=some (.lst vs7)->IsL X.K H7 r7 vs7->aIq r7=true->r7.length<=j+1->Same H2 H7->
     aO2 ks G ft fe (ds.drop (j+1)) (ext m (free ρ))=ok bGa->rs=r7++bGa->∃k,k<ds.length+1-j/\∃j' Hj vs rj rest,k=ds.length+1-j'/\j'<=ds.length/\Inv (cxC X scope cl N' Cc {s2 with heap:=P2} (upd H2 Dd (.lst [])) fp) [] (σ++Zv m none) Hj s7/\tn j' s7.heap/\(∀b∈fp,Hj b=none)/\
     Hj Dd=some (.lst vs)/\IsL X.K Hj rj vs/\aIq rj=true/\rj.length<=j'/\Same H2 Hj/\aO2 ks G ft fe (ds.drop j') (ext m (free ρ))=ok rest/\rs=rj++rest:=by
    intro s7 H7 vs7 r7 bGa I7 a1 a2 a3 a4 a5 a6 a7;have pin: ∀b∈fp,∀o,s5.heap.get? b=some o->s7.heap.get? b=some o/\H7 b=none:=fun b hb o e=>
     let z:=I7.pin (b,o) (Zh _ (aKq hb e));⟨z.1,z.2.1⟩
    refine⟨ds.length+1-(j+1),by omega,j+1,H7,vs7,r7,bGa,rfl,hlt,?_,T.keep _ _ _ st5 fun b hb o e=>(pin b hb o e).1,fun b hb=> ?_,a1,a2,a3,a4,a5,a6,a7⟩
    ·have I8:Inv (cxC X scope cl N' Cc {s2 with heap:=P2} (upd H2 Dd (.lst [])) fp) [] (aYv (σ++Zv m none) ks vs') H7 s7:=I7.aU6 (fun p hp=>by cases hp)
     refine I8.weak (by rw[aNb]) fun i v e=> ?_
     rw[aWy]
     ·exact e
     ·intro hi
      have:=hks i hi;rw[Yy (by rw[I2.len];exact this),Je] at e;split at e<;>cases e
    ·obtain⟨o,ho,_⟩:=T.obj _ _ st5 b hb
     exact (pin b hb o ho).2
   have tst:Qp (Qt X.prog X.w) X.A (forIn ifs true fun c r=>if r=true then do let ok<-isTrue c (compEnvC scope cl Cc X.env) (eval c (compEnvC scope cl Cc X.env));pure (ForInStep.yield ok) else pure (ForInStep.yield r))
     (fun bb s7=> ∃H7,Inv (cxC X scope cl N' Cc {s2 with heap:=P2} (upd H2 Dd (.lst [])) fp) (aP2 fp s5.heap) (aYv (σ++Zv m none) ks vs') H7 s7/\Same H6 H7/\ft (bF1 (ext m (free ρ)) ks es)=ok bb) (fun _ _=>False) s6:=by
    rcases ht Cc {s2 with heap:=P2} (upd H2 Dd (.lst [])) fp H6 with⟨rfl,hft⟩ |⟨c,rfl,hft⟩
    ·exact wpAny_tests_nil ⟨H6,I6,Same.refl _,by rw[hft]⟩
    ·cases qt:ft (bF1 (ext m (free ρ)) ks es) with
     | none=>rw[qt] at hrest;cases hrest
     | some z=>
      cases z with
      | error ce=>rw[qt] at hrest;cases hrest
      | ok bb=>
       refine wpAny_tests_one (thn (hft _ s6 _ H6 (fun b H7=>Same H6 H7/\b=bb) I6 ⟨_,bUz,by rw[qt];exact fun H7 e=>⟨e,rfl⟩⟩) fun b s7 ⟨H7,I7,e,eb⟩=> ?_);subst eb;exact⟨H7,I7,e,rfl⟩
   refine thn tst fun bb s7 ⟨H7,I7,sm7,hbb⟩=> ?_
   rw[hbb] at hrest;cases bb with
   | false=>
    rw[if_neg (by decide)];exact turn s7 H7 vs rj rest I7 (sm7 _ _ hDj) (ilj.mono sm7) imj (by omega) (smj.trans sm7) hrest bTz
   | true=>
    rw[if_pos rfl]
    dsimp only[ok] at hrest
    cases qe:fe (bF1 (ext m (free ρ)) ks es) with
    | none=>rw[qe] at hrest;cases hrest
    | some z=>
     cases z with
     | error ce=>rw[qe] at hrest;cases hrest
     | ok rr=>
      rw[qe] at hrest
      dsimp only at hrest
      split at hrest
      ·rename_i him
       obtain⟨rest',er,er2⟩:=bEs hrest;have er3:=aBq er2;refine thn (he Cc {s2 with heap:=P2} (upd H2 Dd (.lst [])) fp H6 _ s7 _ H7 (fun v H8=>Same H7 H8/\Is X.K H8 rr v) I7 ⟨_,bUz.mono sm7,by rw[qe];exact fun v H8 e i=>⟨e,i⟩⟩) fun u8 s8 ⟨v8,H8,I8,rv8,sm8,i8⟩=> ?_
       have hD8:H8 Dd=some (.lst vs):=sm8 _ _ (sm7 _ _ hDj);have hlv:vs.length=rj.length:=ilj.length.symm;have il8:=(ilj.mono sm7).mono sm8;have al: ∀o,(∀b xs,H8 b=some (.tup xs)->upd H8 Dd (.lst o) b=some (.tup xs))/\(∀b oo u,H8 b=some (.frz oo u)->upd H8 Dd (.lst o) b=some (.frz oo u)):=fun o=>
        ⟨fun b xs e=>by rw[aAo (fun z=>by subst z;rw[hD8] at e;cases e)];exact e,fun b oo u e=>by rw[aAo (fun z=>by subst z;rw[hD8] at e;cases e)];exact e⟩
       refine thn (aN3 _ s8 _ H8 (.ref Dd) [v8] (.ref Dd) [u8] (fun v9 H9=>H9=upd H8 Dd (.lst (vs++ [v8]))) I8 rfl (.cons rv8 .nil) ⟨Dd,vs,v8,rfl,rfl,hD8,by have:=Z6;omega,rfl⟩) fun u9 s9 ⟨v9,H9,I9,_,e9⟩=> ?_
       subst e9;refine turn s9 _ (vs++ [v8]) (rj++ [rr]) rest' I9 aAm ((IsL.alike (al _).1 (al _).2 imj il8).append (.cons (Is.alike (al _).1 (al _).2 him i8) .nil)) ?_ (by rw[Qq];simp only[Qk,Uw];omega) ?_ er (by rw[bTz,<-er3,Z1];rfl)
       ·rw[aOl,imj]
        show (rr.imm&&true)=true;rw[him];rfl
       ·intro b o e
        rw[aAo (aCf e nD2)];exact sm8 _ _ (sm7 _ _ (smj _ _ e))
      ·cases hrest
  ·have ej:j=ds.length:=by omega
   subst ej;rw[Ef (Qo _)] at hrest;have er:=aBq hrest;refine thn (T.done (cxC X scope cl N' Cc {s2 with heap:=P2} (upd H2 Dd (.lst [])) fp) rfl rfl rfl hcm ds.length [] s' _ Hj (fun _ _=>False) IJ (fpX frj) stj (hJ.stop _ Hj smj (Qo _))) fun r s3 ⟨hr,I3⟩=> ?_
   subst hr;obtain⟨mm,hmm,_⟩:=I3.loc;have nCj:Hj Cc=none:=I3.free;have zC:=I2.bJq (b:=Cc) (H':=H2) (by rw[hD,hsz];exact J2 _) nC2;have ers:rs=rj:=by rw[bTz,<-er,Z9]
   refine fin Dd Cc s3 Hj rs ?_ ⟨mm,hmm⟩ ⟨zC.2.2.2.1,zC.2.1,zC.2.2.2.2.1,zC.2.2.2.2.2⟩ nCj (e1.trans smj) (none_of e1 nD2) (by rw[ers];exact imj) ⟨_,hDj,by rw[ers];exact ilj⟩ hQ;intro h' hsb;have U1:Un (frs X.stack) (Cc::fp) H2 (upd H2 Dd (.lst [])) s2.heap P2:=Un.laid bT2 (by rw[hD];exact Qo _) nD2;have U2:Un (frs X.stack) (Cc::fp) (upd H2 Dd (.lst [])) Hj P2 s3.heap:=I3.base.mono (fun _ z=>z) (fun b z=>Qr _ z);have kp: ∀b o,b≠Cc->s3.heap.get? b=some o->h'.get? b=some o:=fun b o hb e=>hsb.extBut b o hb e
   have nc: ∀b,b∉Cc::fp->b≠Cc:=fun b hb z=>hb (by rw[z];exact Qm)
   have U3:Un (frs X.stack) (Cc::fp) Hj Hj s3.heap h':=⟨fun b o e _ _ hx=>kp b o (nc b hx) e,fun b o e _ _ hx=>⟨o.slots,kp b o (nc b hx) e⟩,fun _ _ _ n _=>n,fun b o e hx=>⟨o,kp b o (nc b hx) e⟩,fun _ _ e=>e,fun _ _ _ e=>e,fun b ps e=>⟨#[],by rw[e];simp⟩⟩;have hok':HOk X.prog X.w Hj h':=fun b u e=>(I3.hok b u e).stay (fun c v hc q=>kp c v (fun z=>by
    rcases hc with hc | hc
    ·rw[hc] at z;rw[z,nCj] at e;cases e
    ·rw[z,nCj] at hc;cases hc) q) (fun _ q=>q) fun _ _ q=>q
   have IX:Inv X pins σ Hj {s3 with heap:=h'}:=I2.call' (ch:=Cc::fp) I3.os ((U1.trans U2).trans U3) hok' I3.bare fun b hb=>by
    rcases List.mem_cons.mp hb with rfl | hb
    ·have z:=I2.bJq (b:=b) (H':=H2) (by rw[hD,hsz];exact J2 _) nC2
     exact⟨z.2.2.2.1,z.2.1,z.2.2.2.2.1,z.2.2.2.2.2⟩
    ·obtain⟨z0,z1,z2,z3,z4,z5⟩:=f2 b hb
     exact⟨z3,z1,z4,z5⟩
   exact IX
 exact codeAny_compStart_list (loop _ rfl) (T.self _ 0 _ _ _ (T.keep _ _ _ st2 fun b hb o e=>bT3 _ _ (bT2 _ _ e)) (loop _ rfl))
theorem bLk (hclos:closureFor scope X.env=pure cl)(hcell: ∀y∈scope.names,y.2≠ .cell)(hkind:scope.kind= .function)(hnames: ∀y∈scope.names,y.2= .local->scope.names.lookup y.1=some .local)(hcl:aTl cl X.env=true)
  (hnm:bG2 X.N N' (relabel scope X.env)=true) (hf:bDy cl (relabel scope X.env)=true) (hl:N'.length=X.N.length+m) (hks: ∀k∈ks,X.N.length<=k) (hcm:X.calm=true) (hi:PIt X B tg iter it)
  (hg: ∀C s₀ H₀ ex,PDH (cxC X scope cl N' C s₀ H₀ ex) tg ks G) (ht: ∀C s₀ H₀ ex B,PIf (cxC X scope cl N' C s₀ H₀ ex) B ifs ft) (he: ∀C s₀ H₀ ex B,PD (cxC X scope cl N' C s₀ H₀ ex) B elt fe)
  (hs: ∀x,Ys iter X.env x=pure x:=by intro _;rfl):PD X B (.ListComp elt [⟨tg,iter,ifs,0⟩] scope pos) (cmp m it ks G ft fe):=by
 intro pins s σ H Q I h;obtain⟨ρ,r,h⟩:=h;rw[eval_ListComp];refine bEh (use:=none) (Q':=EP X pins σ Q) (Kp:=fun rs=> ∀v H',Same H H'->Is X.K H' (.lst rs) v->Q v H') hclos hcell hkind hnames hcl hnm hf hl hks hcm hi hg ht he hs I r (h.imp fun d q rs e v H' sm i=>by subst e;exact q v H' sm i) ?_;intro Dd Cc s3 Hj rs IX ⟨mm,hmm⟩ _ _ sm _ _ ⟨vs,is1,is2⟩ hQ;have is:Is X.K Hj (.lst rs) (.ref Dd):= .lst (SqL.of is1) is2;exact⟨mm,hmm,fun h' hsb=>⟨.ref Dd,Hj,IX h' hsb,rfl,hQ _ Hj sm is⟩⟩
end
structure HD where
 m:Addr->Option Bool
 i:Nat
 G:Rho->Option Out
def bTu:D->Option Key
 | .int i=>some (.inl i)
 | .str x=>some (.inr x)
 | _=>none
section
variable {X:Cx}{B:Hp}{k v:Expr}{fk fv:Rho->M D}{pos:Pos}
def bRo (fk fv:Rho->M D):Rho->M D:=fun ρ=>bnd (fk ρ) fun k=>bnd (fv ρ) fun v=>match bTu k with
 | some q=>if v.imm=true then ok (.dk [(q,v)]) else none
 | none=>none
theorem bQn {K:Qc}{H:Hp}{d:D}{x:V}{q:Key}(i:Is K H d x)(h:bTu d=some q):x=kV q:=by
 cases i with
 | int j=>cases h;rfl
 | str j=>cases h;rfl
 | _=>cases h
theorem aQ8 (hk:PD X B k fk)(hv:PD X B v fv):PD X B (.Dict [some k] [v] pos) (bRo fk fv):=by
 refine PE.of (bK4 (bGi hk hv bKz) rfl rfl (by simp) (by show 1<=15;omega)) fun σ H Q h=> ?_
 obtain⟨ρ,r,h⟩:=h;intro p hp;have s0:=aAp hp (.dK []);refine⟨ρ,r.mono s0,(Res.bind h).mono s0 fun dk h1 x H1 e1 i1=>⟨ρ,(r.mono s0).mono e1,(Res.bind h1).mono (s0.trans e1) fun dv h2 y H2 e2 i2=> ?_⟩⟩;cases q:bTu dk with
 | none=>rw[q] at h2;exact Qg h2
 | some kk=>
  rw[q] at h2
  dsimp only at h2
  split at h2
  case isFalse=>exact Qg h2
  rename_i him;have hx:=bQn i1 q;have ep:H2 p=some (.dK []):=e2 _ _ (e1 _ _ aAm);refine⟨ep,[(kk,y)],by rw[hx];rfl,by show 1<=15;omega,?_⟩;have np: ∀b o,H b=some o->b≠p:=fun b o z w=>by rw[w,hp] at z;cases z
  have sH:Same H (upd H2 p (.dK (aP6 [] [(kk,y)]))):=fun b o z=>by
   rw[aAo (np b o z)];exact e2 _ _ (e1 _ _ (s0 _ _ z))
  refine h2 _ _ sH (.dk (.inl aAm) (.cons ?_ .nil));refine Is.alike (fun b xs z=> ?_) (fun b o u z=> ?_) him i2
  ·rw[aAo];exact z
   intro w;rw[w,ep] at z;cases z
  ·rw[aAo];exact z
   intro w;rw[w,ep] at z;cases z
end
section
variable {X:Cx}{B:Hp}{tg iter c:Expr}{fa:Rho->M D}{ft:Rho->M Bool}{pos p:Pos}{x y:Str}{k k2:Nat}
def itE (f:Rho->M D):Rho->M (List D):=fun ρ=>bnd (f ρ) itD
theorem aY5 (h:PD X B iter fa):PIt X B tg iter (itE fa):=by
 intro pins s σ H R ρ I r q;refine bS3 (tg:=tg) h pins s σ H R I ⟨ρ,r,(Res.bind q).imp fun d q1 v H1 e1 i1=> ?_⟩;cases i1 with
 | lst hh rr=>exact .inl ⟨_,rfl,⟨_,hh⟩,q1 _ H1 e1 (aMz hh rr)⟩
 | tup hh rr=>exact .inr ⟨_,rfl,⟨_,hh.sq⟩,q1 _ H1 e1 (aVt hh rr)⟩
 | _=>exact Qg q1
def bSx:D->M (List D)
 | .int j=>if-(2^62)<=j/\j<2^62 then ok (rng 0 j.toNat) else none
 | _=>none
def itR (f:Rho->M D):Rho->M (List D):=fun ρ=>bnd (f ρ) bSx
theorem bO4 (hg:Gl X "range")(hm:X.mg "range"=none)(h:PD X B c fa)(hs:aBu c=true:=by rfl):PIt X B tg (.Call (.Name "range" p) [c] [] pos) (itR fa):=by
 intro pins s σ H R ρ I r q;refine aS7 (tg:=tg) hg hm (aB8 h aDl (aAv hs)) (aLy hs) pins s σ H R I ⟨ρ,r,(Res.bind q).imp fun d q1 v H1 e1 i1=> ?_⟩;cases i1 with
 | int j=>
  dsimp only[bSx] at q1
  split at q1
  ·rename_i hb;exact⟨_,rfl,hb.1,hb.2,q1 _ H1 e1 (bC7 0 _ H1)⟩
  ·exact Qg q1
 | _=>exact Qg q1
def h1:D->Option (List D):=fun d=>some [d]
theorem aU8 (hN:X.N.Nodup)(hi:X.N[k]? =some x)(hx:Loc X.env.scope x)(hf:X.fn x=true\/X.env.scope.names.lookup x=some .local:=by first | exact .inl rfl | exact .inr rfl | assumption):PDH X (.Name x pos) [k] h1:=by
 intro pins s σ H v u Q I r h;obtain⟨d,es,i,e,q⟩:=h;cases e;exact aKa hN hi hx hf pins s σ H v u Q I r (q [v] (.cons i .nil) rfl)
def h2:D->Option (List D)
 | .tup [a,b]=>some [a,b]
 | _=>none
theorem bPf {p1 p2:Pos}{kt:Nat}(hc:X.calm=true)(hN:X.N.Nodup)(hi:X.N[k]? =some x)(hx:Loc X.env.scope x)(hj:X.N[k2]? =some y)(hy:Loc X.env.scope y)
  (hf:X.fn x=true\/X.env.scope.names.lookup x=some .local:=by first | exact .inl rfl | exact .inr rfl | assumption) (hf2:X.fn y=true\/X.env.scope.names.lookup y=some .local:=by first | exact .inl rfl | exact .inr rfl | assumption):
  PDH X (.Tuple [.Name x p1,.Name y p2] kt pos) [k,k2] h2:=by
 intro pins s σ H v u Q I r h;obtain⟨d,es,i1,e,q⟩:=h;unfold h2 at e;split at e
 ·rename_i a b
  cases e;cases i1 with
  | tup hh rr=>
   cases rr with
   | cons ia rr=>
    cases rr with
    | cons ib rr=>
     cases rr;refine bI2 (n:=2) hc (aMt (aKa hN hi hx hf) (aMt (aKa hN hj hy hf2) bB3)) rfl rfl pins s σ H _ u Q I r ?_;exact⟨_,_,rfl,hh,rfl,_,_,rfl,_,_,rfl,rfl,q [_,_] (.cons ia (.cons ib .nil)) rfl⟩
 ·cases e
theorem aEq:PIf X B [] (fun _=>ok true):= .inl ⟨rfl,rfl⟩
end
section
variable {X:Cx}{B:Hp}{e:Expr}{fa:Rho->M D}{pos p:Pos}
def toT:D->M D
 | .lst ds=>ok (.tup ds)
 | .tup ds=>ok (.tup ds)
 | _=>none
def toL:D->M D
 | .lst ds=>ok (.lst ds)
 | .tup ds=>ok (.lst ds)
 | _=>none
theorem aFe (hg:Gl X "tuple")(hm:X.mg "tuple"=none)(ha:PD X B e fa)(hs:aBu e=true:=by rfl):PD X B (.Call (.Name "tuple" p) [e] [] pos) (f1 toT fa):=by
 refine PE.of (aJe aR4 hg hm boot_tuple (aB8 ha aDl (aAv hs)) (he:=aAv hs) (hpl:=by rfl)) fun σ H Q h=> ?_
 obtain⟨ρ,r1,h⟩:=h;refine⟨ρ,r1,(Res.bind h).imp fun d q1 v H1 e1 i1=> ?_⟩;cases i1 with
 | lst hh rr=>exact⟨_,_,rfl,.inl ⟨hh,fun l hl=>q1 _ _ (e1.trans (aAp hl _)) (.tup (TQ.of aAm) (rr.mono (aAp hl _)))⟩⟩
 | tup hh rr=>exact⟨_,_,rfl,.inr ⟨hh.sq,q1 _ H1 e1 (.tup hh rr)⟩⟩
 | _=>exact Qg q1
theorem bLf (hg:Gl X "list")(hm:X.mg "list"=none)(ha:PD X B e fa)(hs:aBu e=true:=by rfl):PD X B (.Call (.Name "list" p) [e] [] pos) (f1 toL fa):=by
 refine PE.of (aJe aT7 hg hm boot_list (aB8 ha aDl (aAv hs)) (he:=aAv hs) (hpl:=by rfl)) fun σ H Q h=> ?_
 obtain⟨ρ,r1,h⟩:=h;refine⟨ρ,r1,(Res.bind h).imp fun d q1 v H1 e1 i1=> ?_⟩;cases i1 with
 | lst hh rr=>exact⟨_,_,rfl,.inl hh,fun l hl=>q1 _ _ (e1.trans (aAp hl _)) (.lst (SqL.of aAm) (rr.mono (aAp hl _)))⟩
 | tup hh rr=>exact⟨_,_,rfl,.inr hh,fun l hl=>q1 _ _ (e1.trans (aAp hl _)) (.lst (SqL.of aAm) (rr.mono (aAp hl _)))⟩
 | _=>exact Qg q1
end
theorem aJo {env:Env}:aTl [] env=true:=rfl
theorem aGu {env:Env}{x:Str}{c:Addr}{cl:List (Str×Addr)}(h1:env.cells.lookup x=some c)(h2:env.kindOf x=some .cell\/env.kindOf x=some .free)(r:aTl cl env=true):aTl ((x,c)::cl) env=true:=by
 unfold aTl at r⊢;rw[Yx,r,V9]
 dsimp only
 rw[h1];rcases h2 with h2 | h2<;>rw[h2]<;>simp
section
variable {X:Cx}{B:Hp}{scope:Scope}{cl:List (Str×Addr)}{N':List Str}{m:Nat}{tg iter elt:Expr}{ifs:List Expr}{pos:Pos}{ks:List Nat}{G:D->Option (List D)}{ft:Rho->M Bool}{fe:Rho->M D}{it:Rho->M (List D)}
theorem aEt (hclos:closureFor scope X.env=pure cl)(hcell:scope.names.all (fun y=>y.2 != .cell)=true)(hkind:scope.kind= .function)(hnames:scope.names.all (fun y=>y.2 != .local || scope.names.lookup y.1==some .local)=true)(hcl:aTl cl X.env=true)
  (hnm:bG2 X.N N' (relabel scope X.env)=true) (hf:bDy cl (relabel scope X.env)=true) (hl:N'.length=X.N.length+m) (hks:ks.all (fun k=>decide (X.N.length<=k))=true) (hcm:X.calm=true) (hi:PIt X B tg iter it)
  (hg: ∀C s₀ H₀ ex,PDH (cxC X scope cl N' C s₀ H₀ ex) tg ks G) (ht: ∀C s₀ H₀ ex B,PIf (cxC X scope cl N' C s₀ H₀ ex) B ifs ft) (he: ∀C s₀ H₀ ex B,PD (cxC X scope cl N' C s₀ H₀ ex) B elt fe)
  (hs: ∀x,Ys iter X.env x=pure x:=by intro _;rfl):PD X B (.ListComp elt [⟨tg,iter,ifs,0⟩] scope pos) (cmp m it ks G ft fe):=
 bLk hclos (fun y hy=>by have:=List.all_eq_true.mp hcell y hy;simpa using this) hkind
  (fun y hy z=>by have:=List.all_eq_true.mp hnames y hy;rw[z] at this;simpa using this) hcl hnm hf hl
  (fun k hk=>of_decide_eq_true (List.all_eq_true.mp hks k hk)) hcm hi hg ht he hs
end
section
variable {X:Cx}{B:Hp}{a b:Expr}{fa fb:Rho->M D}{pos:Pos}
theorem OpR.or {f:Qd->Qd->Sem Qd}{r r':R2}(h:OpR X f r)(h':OpR X f r'):OpR X f (fun x y H Q=>r x y H Q\/r' x y H Q):=by
 intro pins s σ H x y v u Q I rx ry q;rcases q with q | q
 ·exact h pins s σ H x y v u Q I rx ry q
 ·exact h' pins s σ H x y v u Q I rx ry q
def bOw (K:Qc):R2:=fun x y H Q=> ∃a b ys,x= .ref a/\y= .ref b/\SqT K H a []/\SqT K H b ys/\Q (.ref b) H
theorem bLu:OpR X (Jh .Add) (bOw X.K):=by
 intro pins s σ H x y v u Q I rx ry h;obtain⟨a,b,ys,rfl,rfl,ha,hb,q⟩:=h;cases rx;cases ry;obtain⟨its,r1,p1,_⟩:=I.tuple ha;obtain⟨its2,r2,p2,_⟩:=I.tuple hb;have e1:its=[]:=r1.aNs.mpr rfl;subst e1;obtain⟨⟨c1,d1,x1,l1⟩,o1,k1,n1,z1⟩:=p1;obtain⟨⟨c2,d2,x2,l2⟩,o2,k2,n2,z2⟩:=p2
 dsimp only at k1 z1 k2 z2
 subst k1 z1 k2 z2;exact concat_meets ⟨_,o1,rfl⟩ ⟨_,o2,rfl⟩ noFill_tuple_add seq_tuple_add Wk Wf (U7 _ _)
  (tuple_addW0 a b _ _ n1 n2 d1 d2 l1 l2 rfl) ⟨o1,o2,⟨.ref b,H,I,rfl,q⟩⟩
def bOv (K:Qc):R2:=fun x y H Q=> ∃a b xs ys,x= .ref a/\y= .ref b/\SqL K H a xs/\SqL K H b ys/\xs.length+ys.length<=Qy/\∀p,H p=none->Q (.ref p) (upd H p (.lst (xs++ys)))
theorem bLt:OpR X (Jh .Add) (bOv X.K):=by
 intro pins s σ H x y v u Q I rx ry h;obtain⟨a,b,xs,ys,rfl,rfl,ha,hb,hz,q⟩:=h;cases rx;cases ry;obtain⟨its,r1,p1,_⟩:=I.list ha;obtain⟨its2,r2,p2,_⟩:=I.list hb;have hl1:=r1.length;have hl2:=r2.length;obtain⟨⟨c1,d1,x1,l1⟩,n1,o1,k1,_,z1⟩:=p1;obtain⟨⟨c2,d2,x2,l2⟩,n2,o2,k2,_,z2⟩:=p2
 dsimp only at k1 z1 k2 z2
 subst k1 z1 k2 z2;refine concat_meets ⟨_,o1,rfl⟩ ⟨_,o2,rfl⟩ noFill_list_add seq_list_add PySem.F.slot_list_add PySem.F.entry_list_add (PySem.F.args_list_add_2 _ _)
  (list_addW a b _ _ n1 n2 d1 d2 l1 l2 (by rw[Qu,Qu,<-hl1,<-hl2];exact hz)) ⟨o1,o2,?_⟩
 have ea:its.toArray++its2.toArray=(its++its2).toArray:=by simp
 rw[ea];exact⟨.ref _,_,I.bVb (t':=s.toks) (r1.append r2) (by rw[Qq];exact hz),rfl,q _ I.fresh⟩
def aA4:D->D->M D
 | .int i,.int j=>ok (.int (i+j))
 | .str i,.str j=>if i.length+j.length<=100000 then ok (.str (i++j)) else none
 | .tup xs,.tup ys=>if xs.length+ys.length<=100000 then ok (.tup (xs++ys)) else none
 | .lst xs,.lst ys=>if xs.length+ys.length<=100000 then ok (.lst (xs++ys)) else none
 | _,_=>none
theorem bP1:aIi aA4:=by
 intro x y c h;unfold aA4 at h
 (repeat' split at h)<;>cases h
theorem bMe {n:Nat}(h:n<=100000):n<=Qy:=Zs h (by decide)
def bOs (K:Qc):R2:=fun x y H Q=>(∃i j,x= .int i/\y= .int j/\Q (.int (i+j)) H)\/(∃i j,x= .str i/\y= .str j/\i.length+j.length<=Qy/\Q (.str (i++j)) H)\/bOw K x y H Q\/bOu K x y H Q\/bOv K x y H Q
theorem bLn:OpR X (Jh .Add) (bOs X.K):=OpR.or bPw (OpR.or aY9 (OpR.or bLu (OpR.or bLs bLt)))
theorem bOq:aSa X (bOs X.K) aA4:=by
 intro H x y dx dy d Q ix iy e q;unfold aA4 at e;split at e
 ·cases ix;cases iy;cases e
  exact .inl ⟨_,_,rfl,rfl,q _ H (Same.refl H) (.int _)⟩
 ·split at e
  ·rename_i hz
   cases ix;cases iy;cases e;exact .inr (.inl ⟨_,_,rfl,rfl,bMe hz,q _ H (Same.refl H) (.str _)⟩)
  ·cases e
 ·split at e
  ·rename_i hz
   cases ix with
   | tup h1 r1=>
    cases iy with
    | tup h2 r2=>
     cases e;rw[r1.length,r2.length] at hz;cases r1 with
     | nil=>exact .inr (.inr (.inl ⟨_,_,_,rfl,rfl,h1,h2.sq,q _ H (Same.refl H) (.tup h2 r2)⟩))
     | cons i1 r1=>
      refine .inr (.inr (.inr (.inl ⟨_,_,_,_,rfl,rfl,h1,h2,by simp,bMe hz,fun z=> ?_,fun z p hp=> ?_⟩)))
      ·subst z
       cases r2;exact q _ H (Same.refl H) (by rw[Z9];exact .tup h1 (.cons i1 r1))
      ·exact q _ _ (aAp hp _) (.tup (TQ.of aAm) ((IsL.append (.cons i1 r1) r2).mono (aAp hp _)))
  ·cases e
 ·split at e
  ·rename_i hz
   cases ix with
   | lst h1 r1=>
    cases iy with
    | lst h2 r2=>
     cases e;rw[r1.length,r2.length] at hz;exact .inr (.inr (.inr (.inr ⟨_,_,_,_,rfl,rfl,h1,h2,bMe hz,fun p hp=>q _ _ (aAp hp _) (.lst (SqL.of aAm) ((IsL.append r1 r2).mono (aAp hp _)))⟩)))
  ·cases e
 ·cases e
theorem aBi (ha:PD X B a fa)(hb:PD X B b fb):PD X B (.BinOp a .Add b pos) (b2 aA4 fa fb):=aO6 bLn bOq bP1 ha hb
end
section
variable {X:Cx}{B:Hp}{a b:Expr}{fa fb:Rho->M D}{pos:Pos}
def aW4 (x:Str)(n:Nat):Str:=⟨(Zv n x.cps).foldl (· ++ ·) #[]⟩
def bSz:R2:=fun x y H Q=> ∃z k,x= .str z/\y= .int k/\0<=k/\z.length<=1000/\k<=1000/\Q (.str (aW4 z k.toNat)) H
theorem rep0 (x:Str):aW4 x 0=Jz:=rfl
theorem rep1 (x:Str):aW4 x 1=x:=by
 unfold aW4;simp
theorem bV5 {x:Str}(h:x.length=0)(n:Nat):aW4 x n=x:=by
 obtain⟨c⟩:=x;have e:c= #[]:=Array.size_eq_zero_iff.mp h;subst e;unfold aW4
 congr 1
 induction n with
 | zero=>rfl
 | succ n ih=>rw[Ev,J5];exact ih
theorem aQ3 (x:Str)(n:Nat):(aW4 x n).length=n*x.length:=by
 have g: ∀(m:Nat) (a:Array Nat),((Zv m x.cps).foldl (· ++ ·) a).size=a.size+m*x.cps.size:=by
  intro m
  induction m with
  | zero=>intro a;simp
  | succ m ih=>intro a;rw[Ev,J5,ih,Wb,Nat.succ_mul];omega
 show ((Zv n x.cps).foldl (· ++ ·) #[]).size=n*x.cps.size;rw[g];simp
theorem bLo:OpR X (Jh .Mult) bSz:=by
 intro pins s σ H x y v u Q I rx ry h;obtain⟨z,k,rfl,rfl,h0,hz,hk,q⟩:=h;obtain⟨t,rfl⟩:=rx;obtain⟨t',rfl⟩:=ry;refine P.mul_str ?_ (fun h1 h2=> ?_) (fun h1 h2=> ?_) ?_
 ·have e1:decide (k< -(2^63:Int))=false:=decide_eq_false (by omega)
  have e2:decide (k≥2^63)=false:=decide_eq_false (by omega);rw[e1,e2];rfl
 ·have h3:(1001:Int)<=(2^63-1)/k:=by
   refine Int.le_ediv_of_mul_le (by omega) ?_;have:(1001:Int)*k<=1001*1000:=by omega
   omega
  omega
 ·have h3:z.length*k.toNat<=1000*1000:=Nat.mul_le_mul hz (by omega)
  exact decide_eq_false (by unfold Qy;omega)
 ·by_cases k0:k<1
  ·have ek:k.toNat=0:=by omega
   rw[if_pos k0];rw[ek,rep0] at q;exact⟨by decide,⟨.str Jz,H,I.tok _,⟨_,rfl⟩,q⟩⟩
  ·rw[if_neg k0]
   split
   ·rename_i hh
    have e:aW4 z k.toNat=z:=by
     simp only[Yu,beq_iff_eq] at hh;rcases hh with hh | hh
     ·have ek:k.toNat=1:=by omega
      rw[ek,rep1]
     ·exact bV5 hh _
    rw[e] at q;exact⟨.str z,H,I,⟨t,rfl⟩,q⟩
   ·have hl:(aW4 z k.toNat).length<=Qy:=by
     rw[aQ3];have:k.toNat*z.length<=1000*1000:=Nat.mul_le_mul (by omega) hz;unfold Qy;omega
    exact⟨hl,⟨.str (aW4 z k.toNat),H,I.tok _,⟨_,rfl⟩,q⟩⟩
def aEn:D->D->M D
 | .int i,.int j=>bNv (.int i) (.int j)
 | .str z,.int k=>if 0<=k/\z.length<=1000/\k<=1000 then ok (.str (aW4 z k.toNat)) else none
 | _,_=>none
theorem bL3:aIi aEn:=by
 intro x y c h;unfold aEn bNv at h
 (repeat' split at h)<;>cases h
theorem aQ6 (ha:PD X B a fa)(hb:PD X B b fb):PD X B (.BinOp a .Mult b pos) (b2 aEn fa fb):=by
 refine aO6 (OpR.or bLp bLo) ?_ bL3 ha hb;intro H x y dx dy d Q ix iy e q;unfold aEn at e;split at e
 ·dsimp only[bNv] at e
  split at e
  ·rename_i h
   cases ix;cases iy;cases e;exact .inl ⟨_,_,rfl,rfl,h,q _ H (Same.refl H) (.int _)⟩
  ·cases e
 ·split at e
  ·rename_i h
   cases ix;cases iy;cases e;exact .inr ⟨_,_,rfl,rfl,h.1,h.2.1,h.2.2,q _ H (Same.refl H) (.str _)⟩
  ·cases e
 ·cases e
end
section
variable {K:Qc}{H₀ H:Hp}{ρ:Rho}{σ:St}
theorem Rel.bLm {i:Nat}{a:Addr}{ds:List D}{vs:List V}(r:Rel K H₀ ρ σ H)(hf:H a=none)(im:aIq ds=true)(iv:IsL K H ds vs):Rel K H₀ (ρ.set i (some (.own ds))) (σ.set i (some (.ref a))) (upd H a (.lst vs)):=by
 obtain⟨O,h1,ho,h2,hl,h3⟩:=id r;by_cases hi:i<σ.length
 case neg=>
  have s1: ∀x:Option SV,ρ.set i x=ρ:=fun x=>Yr (by omega)
  have s2: ∀x:Option V,σ.set i x=σ:=fun x=>Yr (by omega)
  rw[s1,s2];exact r.mono (aAp hf _)
 have na: ∀j b,O j=some b->b≠a:=fun j b q e=>by
  subst e;obtain⟨u,w,m⟩:=ho j b q;rw[w] at hf;cases hf
 let O':Nat->Option Addr:=fun j=>if j=i then some a else O j
 have Oi:O' i=some a:=if_pos rfl;have On: ∀j,j≠i->O' j=O j:=fun j e=>if_neg e
 have hO':aSe (upd H a (.lst vs)) O':=fun j b q=>by
  by_cases e:j=i
  ·subst e
   rw[Oi] at q;cases q;exact⟨_,aAm,rfl⟩
  ·rw[On j e] at q
   have nb:=na j b q;obtain⟨u,w,m⟩:=ho j b q;exact⟨u,by rw[aAo nb];exact w,m⟩
 have sm:Same (Off H O) (Off (upd H a (.lst vs)) O'):=fun b o q=>by
  have qh:=Off.same H O b o q;have nb:b≠a:=fun e=>by subst e;rw[hf] at qh;cases qh
  refine Off.of (by rw[aAo nb];exact qh) fun j z=> ?_
  by_cases e:j=i
  ·subst e
   rw[Oi] at z;cases z;exact nb rfl
  ·rw[On j e] at z
   exact Off.not q j z
 refine⟨O',fun j k b q1 q2=> ?_,hO',h2.trans sm,by rw[Q9,Q9,hl],fun j sv q=> ?_⟩
 ·by_cases e1:j=i
  ·by_cases e2:k=i
   ·rw[e1,e2]
   ·subst e1
    rw[Oi] at q1;cases q1;rw[On k e2] at q2;exact absurd rfl (na k _ q2)
  ·by_cases e2:k=i
   ·subst e2
    rw[Oi] at q2;cases q2;rw[On j e1] at q1;exact absurd rfl (na j _ q1)
   ·rw[On j e1] at q1
    rw[On k e2] at q2;exact h1 j k b q1 q2
 ·by_cases e:j=i
  ·subst e
   have hj:j<ρ.length:=by
    have:=(List.getElem?_eq_some_iff.mp q).1
    rwa [Q9] at this
   rw[Q4 hj] at q;have q':=Option.some.inj (Option.some.inj q);subst q';exact⟨a,vs,Oi,Q4 (by rw[<-hl];exact hj),aAm,aMw hO' im (iv.mono (aAp hf _))⟩
  ·rw[Qs (Ne.symm e)] at q
   have z:=h3 j sv q;cases sv with
   | sh d'=>obtain⟨v',e1,e2⟩:=z;exact⟨v',by rw[Qs (Ne.symm e)];exact e1,e2.mono sm⟩
   | own ds'=>
    obtain⟨b,ws,e1,e2,e3,e4⟩:=z;exact⟨b,ws,by rw[On j e];exact e1,by rw[Qs (Ne.symm e)];exact e2,by rw[aAo (na j b e1)];exact e3,e4.mono sm⟩
   | oin b C dx fs=>
    obtain⟨e1,e2,e3,ws,e4,e5⟩:=z;exact⟨by rw[On j e];exact e1,by rw[Qs (Ne.symm e)];exact e2,e3,ws,by rw[aAo (na j b e1)];exact e4,e5.mono sm⟩
   | ow o=>
    obtain⟨b,u,e1,e2,e3,e4⟩:=z;exact⟨b,u,by rw[On j e];exact e1,by rw[Qs (Ne.symm e)];exact e2,by rw[aAo (na j b e1)];exact e3,e4.mono sm⟩
   | tk ks=>obtain⟨b,e1,e2⟩:=z;exact⟨b,by rw[Qs (Ne.symm e)];exact e1,sm _ _ e2⟩
   | nl kd ls=>exact NL.move (by rw[Q9]) (Qs (Ne.symm e)) (fun m b w hm e1 e2=>⟨by rw[On m (by rcases hm with h | h<;>omega)];exact e1,by rw[aAo (na m b e1)];exact e2⟩) sm z
theorem Rel.aVb {i:Nat}{a:Addr}{ds ds':List D}{vs':List V}(O:Nat->Option Addr)(h1: ∀i j a,O i=some a->O j=some a->i=j)(ho:aSe H O)(h2:Same H₀ (Off H O))(hl:ρ.length=σ.length)
  (h3: ∀i sv,ρ[i]? =some (some sv)->Slot K H O σ i sv) (q:ρ[i]? =some (some (.own ds))) (z1:O i=some a) (z2:σ[i]? =some (some (.ref a))) (iv:IsL K (Off H O) ds' vs'):Rel K H₀ (ρ.set i (some (.own ds'))) σ (upd H a (.lst vs')):=by
 have eo:Off (upd H a (.lst vs')) O=Off H O:=Off.upd z1;refine⟨O,h1,fun j b qj=> ?_,by rw[eo];exact h2,by rw[Q9,hl],fun j sv qj=> ?_⟩
 ·by_cases e:b=a
  ·subst e;exact⟨_,aAm,rfl⟩
  ·obtain⟨u,w,m⟩:=ho j b qj
   exact⟨u,by rw[aAo e];exact w,m⟩
 ·by_cases e:j=i
  ·subst e
   have hj:j<ρ.length:=(List.getElem?_eq_some_iff.mp q).1;rw[Q4 hj] at qj;have q':=Option.some.inj (Option.some.inj qj);subst q';exact⟨a,vs',z1,z2,aAm,by rw[eo];exact iv⟩
  ·rw[Qs (Ne.symm e)] at qj
   have z:=h3 j sv qj;cases sv with
   | sh d'=>obtain⟨v',e1,e2⟩:=z;exact⟨v',e1,by rw[eo];exact e2⟩
   | own es=>
    obtain⟨b,ws,e1,e2,e3,e4⟩:=z;have nb:b≠a:=fun w=>e (h1 j i a (by rw[<-w];exact e1) z1)
    exact⟨b,ws,e1,e2,by rw[aAo nb];exact e3,by rw[eo];exact e4⟩
   | oin b C' dx' fs'=>
    obtain⟨e1,e2,e3,ws,e4,e5⟩:=z;have nb:b≠a:=fun w=>e (h1 j i a (by rw[<-w];exact e1) z1)
    exact⟨e1,e2,e3,ws,by rw[aAo nb];exact e4,by rw[eo];exact e5⟩
   | ow o=>
    obtain⟨b,u,e1,e2,e3,e4⟩:=z;have nb:b≠a:=fun w=>e (h1 j i a (by rw[<-w];exact e1) z1)
    exact⟨b,u,e1,e2,by rw[aAo nb];exact e3,by rw[eo];exact e4⟩
   | tk ks=>obtain⟨b,e1,e2⟩:=z;exact⟨b,e1,by rw[eo];exact e2⟩
   | nl kd ls=>
    have hi:i<σ.length:=by have:=(List.getElem?_eq_some_iff.mp q).1;omega
    exact NL.move rfl rfl (fun m b w hm e1 e2=>⟨e1,by rw[aAo (fun z=>absurd (h1 m i a (by rw[<-z];exact e1) z1) (by rcases hm with h | h<;>omega))];exact e2⟩) (by rw[eo];exact Same.refl _) z
end
section
variable {X:Cx}{B:Hp}{e e':Expr}{es:List Expr}{fa fb:Rho->M D}{ga:Rho->M (List D)}{pos pos' p p2 apos cpos:Pos}{x:Str}{i:Nat}
def sNew (i:Nat)(g:Rho->M (List D)):Rho->Option Out:=fun ρ=>lft (g ρ) ρ fun ds=>if aIq ds=true/\ds.length<=1000 then some (.nx (ρ.set i (some (.own ds)))) else none
theorem bB7 (hN:X.N.Nodup)(hi:X.N[i]? =some x)(hx:Loc X.env.scope x)(he:PDA X B es ga)(hs:Y3 (.List es p) (some (.Name x pos')) pos.line X.env=pure false:=by rfl)(hf:X.fn x=true\/X.env.scope.names.lookup x=some .local:=by first | exact .inl rfl | exact .inr rfl | assumption):
  PDS X B (.Assign [.Name x pos'] (.List es p) pos) (sNew i ga):=by
 refine PS.of (aS5 hN hi hx (aW6 he) hs hf) fun E σ H h=> ?_
 obtain⟨ρ,r,h⟩:=h;refine⟨ρ,r,(aBw r h).imp fun ds h1 vs H1 e1 i1=> ?_⟩;split at h1
 ·rename_i hh
  refine⟨by rw[<-i1.length];exact Zs hh.2 (by decide),fun l hl=> ?_⟩;exact h1 _ _ ((r.mono e1).bLm hl hh.1 i1)
 ·exact Qg h1
def bIy (G:List D->List D->Option (List D))(i:Nat)(g:Rho->M (List D)):Rho->Option Out:=fun ρ=>match ρ[i]? with
 | some (some (.own ds))=>lft (g ρ) ρ fun as=>if aIq as=true/\ds.length<100000 then (match G ds as with | some ds'=>some (.nx (ρ.set i (some (.own ds')))) | none=>none) else none
 | _=>none
def bVk (r:V->List V->Hp->VK->Prop)(G:List D->List D->Option (List D)):Prop:=
 ∀(K:Qc) (H0 H1:Hp) (l:Addr) (ds as ds':List D) (vs us:List V) (Q:VK),IsL K H0 ds vs->IsL K H0 as us->H1 l=some (.lst vs)->ds.length<100000->G ds as=some ds'->(∀vs',IsL K H0 ds' vs'->Q .non (upd H1 l (.lst vs')))->r (.ref l) us H1 Q
theorem bLd {id:String}{name:Str}{r:V->List V->Hp->VK->Prop}{G:List D->List D->Option (List D)}(slot:Vp "list" name id)(hty:typeOf (.builtin id)=pure (.type "method_descriptor"))(hm:MtM X id r)(hr:bVk r G)
  (hN:X.N[i]? =some x) (hv:Vis X.env.scope x) (ha:PDA X B (e::es) ga)
  (hfew:((backTo cpos (Zi (e::es) X.env)).all (fun x=> !x.1)&&(backToKw cpos (keywordEach [] X.env)).all (fun x=>x.1.isSome)
   &&decide ((e::es).length+([]:List Keyword).length+(if ([]:List Keyword).isEmpty then 0 else 1)<30))=true)
  (hs:Zi (e::es) X.env=(false,eval e X.env)::Zi es X.env) (hplain:(backTo cpos (Zi es X.env)).any (·.1)=false)
  (hline:(apos.endLine==cpos.line)=true:=by rfl)
  (hsw:Y3 (.Call (.Attribute (.Name x p) name apos) (e::es) [] cpos) none pos.line X.env=pure false:=by rfl)
  (hd:(x==("__debug__":Str))=false:=by decide) (hcd:(x==("__classdict__":Str))=false:=by decide):
  PDS X B (.Expr (.Call (.Attribute (.Name x p) name apos) (e::es) [] cpos) pos) (bIy G i ga):=by
 refine PS.of (aQ4 (bK7 Wd slot hty hm (aD5 hN hv hd hcd) ha (hbase:=rfl) (hfew:=hfew) (hline:=hline) (hs:=hs) (hplain:=hplain)) hsw) fun E σ H h=> ?_
 obtain⟨ρ,r1,h⟩:=h;unfold bIy at h;split at h
 ·rename_i ds q
  obtain⟨O,h1,ho,h2,hl,h3⟩:=(show Rel X.K B ρ σ H from r1);obtain⟨a,vs,z1,z2,z3,z4⟩:=h3 i _ q;refine⟨.ref a,z2,.inl ⟨rfl,_,SqL.of z3⟩,ρ,r1,(aBw r1 h).imp fun as k1 us H1 e1 i1=> ?_⟩;split at k1
  ·rename_i hh
   split at k1
   ·rename_i ds' hG
    have ho1:=ho.mono e1;refine hr X.K (Off H1 O) H1 a ds as ds' vs us _ (z4.mono (Off.mono e1)) (aMw ho1 hh.1 i1) (e1 _ _ z3) hh.2 hG fun vs' i'=> ?_
    exact k1 _ _ (Rel.aVb O h1 ho1 (h2.trans (Off.mono e1)) hl (fun j sv qj=>(h3 j sv qj).mono e1) q z1 z2 i')
   ·exact Qg k1
  ·exact Qg k1
 ·exact Qg h
def bJh (ds:List D):List D->Option (List D)
 | [d]=>some (ds++ [d])
 | _=>none
theorem bP9:bVk bBw bJh:=by
 intro K H0 H1 l ds as ds' vs us Q i1 i2 hl hn hG q;unfold bJh at hG;split at hG
 ·cases hG
  cases i2 with
  | cons id1 rest=>
   cases rest;exact⟨l,vs,_,rfl,rfl,hl,by rw[<-i1.length];exact Q3 hn (by decide),q _ (i1.append (.cons id1 .nil))⟩
 ·cases hG
theorem aY6 (hN:X.N[i]? =some x)(hv:Vis X.env.scope x)(ha:PD X B e fa)(hs:aBu e=true:=by rfl)(hline:(apos.endLine==cpos.line)=true:=by rfl)
  (hsw:Y3 (.Call (.Attribute (.Name x p) "append" apos) [e] [] cpos) none pos.line X.env=pure false:=by rfl)
  (hd:(x==("__debug__":Str))=false:=by decide) (hcd:(x==("__classdict__":Str))=false:=by decide):
  PDS X B (.Expr (.Call (.Attribute (.Name x p) "append" apos) [e] [] cpos) pos) (bIy bJh i (aAa fa aAg)):=
 bLd Vq PySem.F.type_list_append aN3 bP9 hN hv (aAc ha aAi (aAv hs)) (by rw[aLy hs];rfl) (aAv hs) rfl hline hsw hd hcd
end
section
variable {X:Cx}{B:Hp}{e:Expr}{fa:Rho->M D}{pos p:Pos}
def blL:List D->Option (List Bool)
 | []=>some []
 | .bl b::ds=>match blL ds with | some bs=>some (b::bs) | none=>none
 | _::_=>none
def bAd:D->M D
 | .lst ds=>match blL ds with | some bs=>ok (.bl (bs.all id)) | none=>none
 | _=>none
theorem bJy {K:Qc}{H:Hp}: ∀(ds:List D) {vs:List V} {bs:List Bool},IsL K H ds vs->blL ds=some bs->vs=bs.map V.bl
 | [],_,_,r,h=>by cases r;cases h;rfl
 | .bl b::ds,_,_,.cons i r,h=>by
  cases i;unfold blL at h;split at h
  ·rename_i bs hb
   cases h;rw[bJy ds r hb];rfl
  ·cases h
 | .non::_,_,_,_,h=>nomatch h
 | .int _::_,_,_,_,h=>nomatch h
 | .str _::_,_,_,_,h=>nomatch h
 | .tup _::_,_,_,_,h=>nomatch h
 | .lst _::_,_,_,_,h=>nomatch h
 | .obj _ _::_,_,_,_,h=>nomatch h
 | .dk _::_,_,_,_,h=>nomatch h
 | .dt _::_,_,_,_,h=>nomatch h
 | .exc _::_,_,_,_,h=>nomatch h
 | .set _::_,_,_,_,h=>nomatch h
theorem bFp {bs:List Bool}{its:List Qd}(r:Vals (bs.map V.bl) its){i:Nat}{v:Qd}(h:its.toArray[i]? =some v):v= .bool (bs.getD i false):=by
 rw[List.getElem?_toArray] at h
 induction bs generalizing its i with
 | nil=>cases r;simp at h
 | cons b bs ih=>
  cases r with
  | cons r1 r2=>
   cases i with
   | zero=>simp at h;subst h;cases r1;rfl
   | succ i=>rw[Jf] at h;exact ih r2 h
theorem range_all (bs:List Bool):(Zj bs.length).all (fun i=>bs.getD i false)=bs.all id:=by
 induction bs with
 | nil=>rfl
 | cons b bs ih=>rw[Qk,List.range_succ_eq_map,Yx,List.all_map,Yx,<-ih];rfl
def bKs (f:List Bool->Bool)(K:Qc):List V->Hp->VK->Prop:=fun xs H Q=> ∃p bs,xs=[.ref p]/\SqL K H p (bs.map V.bl)/\Q (.bl (f bs)) H
theorem bEo (hc:X.calm=true):aGh X (.builtin "all") (bKs (fun bs=>bs.all id) X.K):=by
 intro pins s σ H xs us Q I r h;obtain⟨p,bs,rfl,hq,q⟩:=h;obtain⟨u,rfl,rx⟩:=vals1 r;cases rx;obtain⟨its,r',pl,hz⟩:=I.list hq;have hlen:its.toArray.size=bs.length:=by rw[Qu,<-r'.length,Qh]
 have hlt:p<s.heap.objs.size:=by obtain⟨o,_,e,_⟩:=pl;exact Qn e
 refine call_all_walk (wpAny_pyIter_list pl.isList ?_);refine⟨s.heap.objs.size,_,_,_,_,_,fun i=>bs.getD i false,rfl,Walks.list (by simpa using I.ok.hd hc) _ p (Qz hlt) its.toArray,⟨⟨_,Ql _ rfl,rfl,rfl⟩,pl.isList.push _⟩,fun i v s Q E hP hQ=> ?_,fun h' tk hk=> ?_⟩
 ·rw[bFp r' hP];exact wpAny_truthy_bool hQ
 ·rw[hlen,range_all]
  exact⟨.bl _,H,I.kept (t':=tk) fun b ob e=>hk b ob (by simp;exact Qz (Qn e)) (Qb _ e),rfl,q⟩
theorem boot_all:Jn "all"=some (.builtin "all"):=by decide+kernel
theorem aP3 (hc:X.calm=true)(hg:Gl X "all")(hm:X.mg "all"=none)(ha:PD X B e fa)(hs:aBu e=true:=by rfl):PD X B (.Call (.Name "all" p) [e] [] pos) (f1 bAd fa):=by
 refine PE.of (aEr (bEo hc) hg hm boot_all (aB8 ha aDl (aAv hs)) (he:=aAv hs) (hpl:=by rfl)) fun σ H Q h=> ?_
 obtain⟨ρ,r1,h⟩:=h;refine⟨ρ,r1,(Res.bind h).imp fun d q1 v H1 e1 i1=> ?_⟩;cases i1 with
 | lst hh rr=>
  dsimp only[bAd] at q1
  split at q1
  ·rename_i bs hb
   exact⟨_,bs,rfl,by rw[<-bJy _ rr hb];exact hh,q1 _ H1 e1 (.bl _)⟩
  ·exact Qg q1
 | _=>exact Qg q1
end
section
variable {X:Cx}{B:Hp}{e a b:Expr}{fa fb:Rho->M D}{pos p p2 pos2:Pos}
def aIk:List D->Option (List Str)
 | []=>some []
 | .str x::ds=>match aIk ds with | some xs=>some (x::xs) | none=>none
 | _::_=>none
theorem aH2 (xs:List Str):aIk (xs.map D.str)=some xs:=by
 induction xs with
 | nil=>rfl
 | cons x r ih=>rw[Qv];unfold aIk;rw[ih]
theorem aIs: ∀(ds:List D) {xs:List Str},aIk ds=some xs->ds=xs.map D.str
 | [],_,h=>by cases h;rfl
 | .str x::ds,_,h=>by
  unfold aIk at h;split at h
  ·rename_i xs hx
   cases h;rw[aIs ds hx];rfl
  ·cases h
 | .non::_,_,h=>nomatch h
 | .bl _::_,_,h=>nomatch h
 | .int _::_,_,h=>nomatch h
 | .tup _::_,_,h=>nomatch h
 | .lst _::_,_,h=>nomatch h
 | .obj _ _::_,_,h=>nomatch h
 | .dk _::_,_,h=>nomatch h
 | .dt _::_,_,h=>nomatch h
 | .exc _::_,_,h=>nomatch h
 | .set _::_,_,h=>nomatch h
theorem bA4 {K:Qc}{H:Hp}: ∀{xs:List Str} {vs:List V} {its:List Qd},IsL K H (xs.map D.str) vs->Vals vs its->∀(i:Nat) (v:Qd),its[i]? =some v->∃t,v=Jk (xs.getD i Jz) t
 | [],_,_,.nil,r,i,v,h=>by cases r;simp at h
 | x::xs,_,_,.cons i1 r1,r,i,v,h=>by
  cases i1;cases r with
  | cons q r=>
   obtain⟨t,rfl⟩:=q;cases i with
   | zero=>simp at h;subst h;exact⟨t,rfl⟩
   | succ i=>rw[Jf] at h;exact bA4 r1 r i v h
def toS:D->M D
 | .tup ds=>match aIk ds with | some xs=>if xs.length<=2000 then ok (.set (aDh xs)) else none | none=>none
 | .lst ds=>match aIk ds with | some xs=>if xs.length<=2000 then ok (.set (aDh xs)) else none | none=>none
 | _=>none
def bWg (K:Qc):List V->Hp->VK->Prop:=fun vs H Q=> ∃p ys xs,vs=[.ref p]/\(SqL K H p ys\/SqT K H p ys)/\IsL K H (xs.map D.str) ys/\xs.length<=2000/\∀l,H l=none->Q (.ref l) (upd H l (.set (fun k=>(aDh xs).contains k) (aDh xs).length))
theorem bEm (hc:X.calm=true):aGh X (.type "set") (bWg X.K):=by
 intro pins s σ H vs us Q I r h;obtain⟨p,ys,xs,rfl,hq,ix,hz,q⟩:=h;obtain⟨u,rfl,rx⟩:=vals1 r;cases rx;have hl:=ix.length;rw[Qh] at hl;have fin: ∀(its:List Qd),Vals ys its->∀(o:Obj) (n:Nat) (T:String),(T="list"\/T="tuple")->s.heap.get? p=some o->o.cls= .type T->o.data= .seq its.toArray n->Qp (Qt X.prog X.w) X.A (call (.type "set") [.ref p]) (EP X pins σ Q) X.xe s:=by
  intro its r' o n T hT ho hcl hd;have hlen:xs.length=its.toArray.size:=by rw[Qu,<-r'.length,hl]
  refine aT6 hT (I.ok.hd hc) ho hcl hd (fun i v hv=>bA4 ix r' i v (by simpa using hv)) hlen (by rw[<-hlen];show xs.length+1<4096;omega) fun h' tk z zt kp=> ?_
  exact⟨.ref s.heap.objs.size,_,I.laid (t':=tk) kp (Qo _) (show aBn X.prog X.w _ h' _ (.set _ _) from⟨z,zt⟩),rfl,q _ (I.hok.fresh (Qo _))⟩
 rcases hq with hq | hq
 ·obtain⟨its,r',⟨o,n,ho,hcl,_,hd⟩,_⟩:=I.list hq
  exact fin its r' o n "list" (.inl rfl) ho hcl hd
 ·obtain⟨its,r',⟨o,ho,hcl,n,hd⟩,_⟩:=I.tuple hq
  exact fin its r' o n "tuple" (.inr rfl) ho hcl hd
theorem boot_set:Jn "set"=some (.type "set"):=by decide+kernel
theorem aXc (hc:X.calm=true)(hg:Gl X "set")(hm:X.mg "set"=none)(ha:PD X B e fa)(hs:aBu e=true:=by rfl):PD X B (.Call (.Name "set" p) [e] [] pos) (f1 toS fa):=by
 refine PE.of (aJe (bEm hc) hg hm boot_set (aB8 ha aDl (aAv hs)) (he:=aAv hs) (hpl:=by rfl)) fun σ H Q h=> ?_
 obtain⟨ρ,r1,h⟩:=h;refine⟨ρ,r1,(Res.bind h).imp fun d q1 v H1 e1 i1=> ?_⟩;cases i1 with
 | lst hh rr=>
  dsimp only[toS] at q1
  split at q1
  ·rename_i xs hx
   have ed:=aIs _ hx;subst ed;split at q1
   ·rename_i hz
    exact⟨_,_,xs,rfl,.inl hh,rr,hz,fun l hl=>q1 _ _ (e1.trans (aAp hl _)) (.set aAm)⟩
   ·exact Qg q1
  ·exact Qg q1
 | tup hh rr=>
  dsimp only[toS] at q1
  split at q1
  ·rename_i xs hx
   have ed:=aIs _ hx;subst ed;split at q1
   ·rename_i hz
    exact⟨_,_,xs,rfl,.inr hh,rr,hz,fun l hl=>q1 _ _ (e1.trans (aAp hl _)) (.set aAm)⟩
   ·exact Qg q1
  ·exact Qg q1
 | _=>exact Qg q1
def bQc:D->M D
 | .set ss=>ok (.int ss.length)
 | d=>aI3 d
theorem bEn:aGh X (.builtin "len") (fun xs H Q=> ∃p S n,xs=[.ref p]/\H p=some (.set S n)/\Q (.int n) H):=by
 intro pins s σ H xs us Q I r h;obtain⟨p,S,n,rfl,hp,q⟩:=h;obtain⟨u,rfl,rx⟩:=vals1 r;cases rx;obtain⟨⟨o,es,ep,t,ho,hex,hd,_,_,hb,hf,hn⟩,_⟩:=(show aBn X.prog X.w H s.heap p (.set S n) from I.hok p _ hp);refine call_len_set ho hex hd hf (by unfold scanBound at hb;omega) ⟨.int n,H,I.tok _,⟨_,by rw[hn]⟩,q⟩
theorem bLg (hg:Gl X "len")(hm:X.mg "len"=none)(ha:PD X B e fa)(hs:aBu e=true:=by rfl):PD X B (.Call (.Name "len" p) [e] [] pos) (f1 bQc fa):=by
 refine PE.of (aEr (aGh.or aLx bEn) hg hm Vo (aB8 ha aDl (aAv hs)) (he:=aAv hs) (hpl:=by rfl)) fun σ H Q h=> ?_
 obtain⟨ρ,r1,h⟩:=h;refine⟨ρ,r1,(Res.bind h).imp fun d h1 v H1 e1 i1=> ?_⟩;cases i1 with
 | lst hh r=>exact .inl ⟨_,_,rfl,.inl hh,by rw[<-r.length];exact h1 _ H1 e1 (.int _)⟩
 | tup hh r=>exact .inl ⟨_,_,rfl,.inr hh,by rw[<-r.length];exact h1 _ H1 e1 (.int _)⟩
 | set hh=>exact .inr ⟨_,_,_,rfl,hh,h1 _ H1 e1 (.int _)⟩
 | _=>exact Qg h1
end
section
variable {X:Cx}{B:Hp}{e a b:Expr}{fa fb:Rho->M D}{pos p p2 pos2:Pos}
theorem aM1 {pins:List (Addr×Obj)}{σ:List (Option V)}{H:Hp}{s:Qf}(I:Inv X pins σ H s)(d:Drawn):Inv X pins σ H {s with drawn:=d}:=⟨I.ok,I.os,I.bare,I.base,I.loc,I.cell,I.free,I.aMk,I.pin,I.hok,I.len⟩
theorem bFs {K:Qc}{H:Hp}: ∀{vs:List Qd} {xs:List Str},StrsAre vs xs->Vals (xs.map V.str) vs/\IsL K H (xs.map D.str) (xs.map V.str)
 | _,_,.nil=>⟨.nil,.nil⟩
 | _,_,.cons y t r=>⟨.cons ⟨t,rfl⟩ (bFs (K:=K) (H:=H) r).1,.cons (.str y) (bFs r).2⟩
def bIs:D->M D
 | .set ss=>if ss.length<64/\ss.Nodup then ok (.lst ((aGk ss).map .str)) else none
 | _=>none
theorem aT3 (hc:X.calm=true):aGh X (.builtin "sorted") (fun xs H Q=> ∃p ss,xs=[.ref p]/\H p=some (.set (fun k=>(ss:List Str).contains k) ss.length)/\ss.length<64/\ss.Nodup/\∀l,H l=none->Q (.ref l) (upd H l (.lst ((aGk ss).map V.str)))):=by
 intro pins s σ H xs us Q I r h;obtain⟨p,ss,rfl,hp,h64,hn,q⟩:=h;obtain⟨u,rfl,rx⟩:=vals1 r;cases rx;obtain⟨z,zt⟩:=(show aBn X.prog X.w H s.heap p (.set _ _) from I.hok p _ hp);refine aYr (I.ok.hd hc) h64 hn z zt fun out l h' tk d m hS hl ho kp=> ?_
 have hlen:(aGk ss).length=ss.length:=(aD3 ss).length_eq;have hs:Qy=16777216:=Z6;exact⟨.ref l,_,(aM1 I d).laid (t':=tk) kp hl (show aBn X.prog X.w _ h' _ (.lst _) from⟨by rw[Qh];omega,out,m,(bFs (K:=X.K) (H:=H) hS).1,ho⟩),rfl,q _ (I.hok.fresh hl)⟩
theorem boot_sorted:Jn "sorted"=some (.builtin "sorted"):=by decide+kernel
theorem aOh {K:Qc}{H:Hp}: ∀(xs:List Str),IsL K H (xs.map D.str) (xs.map V.str)
 | []=> .nil
 | x::xs=> .cons (.str x) (aOh xs)
theorem aTb (hc:X.calm=true)(hg:Gl X "sorted")(hm:X.mg "sorted"=none)(ha:PD X B e fa)(hs:aBu e=true:=by rfl):PD X B (.Call (.Name "sorted" p) [e] [] pos) (f1 bIs fa):=by
 refine PE.of (aEr (aT3 hc) hg hm boot_sorted (aB8 ha aDl (aAv hs)) (he:=aAv hs) (hpl:=by rfl)) fun σ H Q h=> ?_
 obtain⟨ρ,r1,h⟩:=h;refine⟨ρ,r1,(Res.bind h).imp fun d q1 v H1 e1 i1=> ?_⟩;cases i1 with
 | set hh=>
  dsimp only[bIs] at q1
  split at q1
  ·rename_i hz
   exact⟨_,_,rfl,hh,hz.1,hz.2,fun l hl=>q1 _ _ (e1.trans (aAp hl _)) (.lst (SqL.of aAm) (aOh _))⟩
  ·exact Qg q1
 | _=>exact Qg q1
end
def aIj (n:Nat)(f:List D->M D):List D->M D:=fun ds=>if ds.length=n then (match f ds with | some (.ok d)=>some (.ok d) | _=>none) else none
theorem bFl {n:Nat}{f:List D->M D}: ∀ds r,aIj n f ds=some r->ds.length=n:=fun ds r h=>by
 unfold aIj at h;split at h
 ·assumption
 ·cases h
theorem bN3 {n:Nat}{f:List D->M D}: ∀ds r,aIj n f ds=some r->∃d,r= .ok d/\f ds=ok d:=fun ds r h=>by
 unfold aIj at h;split at h
 ·split at h
  ·rename_i d hd
   cases h;exact⟨d,rfl,hd⟩
  ·cases h
 ·cases h
theorem aBe {n:Nat}{f:List D->M D}{ds:List D}{d:D}(hl:ds.length=n)(h:f ds=ok d):aIj n f ds=ok d:=by unfold aIj;rw[if_pos hl,h];rfl
abbrev tS (xs:List Str):D:= .tup (xs.map D.str)
theorem bDk (xs:List Str):aIq (xs.map D.str)=true:=by
 induction xs with
 | nil=>rfl
 | cons x r ih=>rw[Qv,aIq,ih];rfl
theorem aJr (xs:List Str):(tS xs).imm=true:=bDk xs
theorem bE1 {f g:Rho->M Bool}{ρ:Rho}{a b:Bool}(h1:f ρ=ok a)(h2:g ρ=ok b):bR2 f g ρ=ok (a&&b):=by
 unfold bR2;rw[h1,aB0];cases a
 ·rfl
 ·rw[if_pos rfl,h2];rfl
theorem len_app (a b:Str):(a++b).length=a.length+b.length:=PySem.strLen_append a b
theorem aTk {l:List Str}(h:l.Nodup):aDh l=l:=by
 have g: ∀(vs σ:List Str),(σ++vs).Nodup->vs.foldl aG0 σ=σ++vs:=by
  intro vs
  induction vs with
  | nil=>intro σ _;simp
  | cons v vs ih=>
   intro σ hn;rw[J5];have hv:σ.contains v=false:=by
    cases hc:σ.contains v with
    | false=>rfl
    | true=>
     have hm:=List.contains_iff_mem.mp hc;rw[W6] at hn;exact absurd rfl (hn.2.2 v hm v Qm)
   have e:aG0 σ v=σ++ [v]:=by unfold aG0;rw[hv];rfl
   rw[e,ih (σ++ [v]) (by rw[Z1];exact hn),Z1];rfl
 have:=g l [] (by simpa using h)
 simpa[aDh] using this
theorem bRu (ds:List D){j:Nat}(h:j<=ds.length):cutD ds none (some (j:Int))=ds.take j:=by
 unfold cutD;rw[HT.aW1,HT.bBk,List.drop_zero,Nat.sub_zero,Nat.min_eq_left h]
theorem aX8 (ds:List D){j:Nat}(h:j<=ds.length):cutD ds (some (j:Int)) none=ds.drop j:=by
 unfold cutD;rw[HT.aW1,HT.bBk,Nat.min_eq_left h];exact List.take_of_length_le (by rw[Ub];exact Qo _)
abbrev L (s:Str):List Nat:=s.cps.toList
theorem bIe (a b:Str):L (a++b)=L a++L b:=by
 show (a.cps++b.cps).toList=_;rw[Array.toList_append]
theorem bQb (s:Str):s.length=(L s).length:=by simp[Str.length]
theorem aR1 (z:Str)(lo hi:Option Int):(aFy z lo hi).length<=z.length:=by
 rw[bQb,bQb];have e:L (aFy z lo hi)=(z.cps.toList.drop (HT.sIx z.length 0 lo)).take (HT.sIx z.length z.length hi-HT.sIx z.length 0 lo):=by simp[aFy]
 rw[e,Yv,Ub];show _<=z.cps.toList.length;omega
def chs:Str:="aXq 0~zB-c!_dEf.gH1i(jK"
theorem aWa:(L chs).length=23:=by decide+kernel
theorem bRv:(L chs).Nodup:=by decide+kernel
def chr (i:Nat):Str:=⟨#[(L chs).getD i 0]⟩
def nam (st k:Int):Str:=
 if st/23%3=1 then aFy "zz" none (some (st%3))++aW4 "a" ((5*k+st)%23).toNat
 else aFy "zyzy" none (some (st/69%4))++chr ((5*k+st)%23).toNat++aFy "yzzy" none (some (st/276%4))
theorem bRw {i:Nat}(h:i<23):(L chs)[i]? =some ((L chs).getD i 0):=by
 have h':i<(L chs).length:=by rw[aWa];exact h
 rw[Q0,Qj h'];rfl
theorem bL2 {st k k':Int}(h1:0<=k)(h2:k<23)(h3:0<=k')(h4:k'<23)(e:nam st k=nam st k'):k=k':=by
 have lo: ∀z:Int,0<=z%23/\z%23<23:=fun z=>by omega
 obtain⟨a1,a2⟩:=lo (5*k+st);obtain⟨b1,b2⟩:=lo (5*k'+st);have key:((5*k+st)%23).toNat=((5*k'+st)%23).toNat->k=k':=fun q=>by omega
 unfold nam at e;split at e
 ·have el:=congrArg Str.length e
  rw[len_app,len_app,aQ3,aQ3] at el;have e1:(("a":Str)).length=1:=by decide+kernel
  rw[e1] at el;exact key (by omega)
 ·have el:=congrArg L e
  rw[bIe,bIe,bIe,bIe] at el;have el2:=List.append_cancel_right el;have el3:=Ec el2;have ec:(L chs).getD ((5*k+st)%23).toNat 0=(L chs).getD ((5*k'+st)%23).toNat 0:=by
   have:[(L chs).getD ((5*k+st)%23).toNat 0]=[(L chs).getD ((5*k'+st)%23).toNat 0]:=by simpa[chr] using el3
   injection this
  have n1:((5*k+st)%23).toNat<(L chs).length:=by rw[aWa];omega
  have n2:((5*k'+st)%23).toNat<(L chs).length:=by rw[aWa];omega
  rw[Q0,Q0,Qj n1,Qj n2] at ec;exact key ((List.getElem_inj bRv).mp ec)
theorem aRp {i j:Int}(h1:0<=i)(h2:i<1000000000000000000000000000000)(h3:0<=j)(h4:j<1000000000000000000000000000000):bFc i j=true:=by
 have q: ∀z:Int,0<=z->z<1000000000000000000000000000000->z.natAbs<2^1048576:=fun z a b=>bGj (m:=100) (by omega) (by decide)
 exact bL6 (q i h1 h2) (q j h3 h4)
def mix (c:Int):Int:=(c%1000000000+1)*2862933555777941757%1000000000000000000000007
theorem p9:(10:Int)^(9:Int).toNat=1000000000:=by decide
theorem p24:(10:Int)^(24:Int).toNat=1000000000000000000000000:=by decide
def bJu:Rho->Option Out:=
  (aAn (aC4 (b2 aEa (b2 aEn (b2 aA4 (b2 aEa (look 0) (b2 aOn (con (.int 10)) (con (.int 9)))) (con (.int 1))) (con (.int 2862933555777941757))) (b2 aA4 (b2 aOn (con (.int 10)) (con (.int 24))) (con (.int 7)))))
  aAz)
theorem bJd (c:Int):aBd (bJu [some (.sh (.int c))])=ok (.int (mix c)):=by
 have hm:bFc (c%1000000000+1) 2862933555777941757=true:=aRp (by omega) (by omega) (by omega) (by omega);simp[bJu,aAn,aC4,b2,look,con,bnd,ok,lft,aEa,aA4,aEn,bNv,aOn,p9,p24,aBd,SV.cur,hm,mix]
def aV6:Rho->Option Out:=
  (aAn (aC7 2 (b2 aEa (b2 aA4 (b2 aEn (con (.int 5)) (look 1)) (look 0)) (con (.int 23))))
  (aAn (sIf (aA9 (b2 gEq (b2 aEa (b2 aEe (look 0) (con (.int 23))) (con (.int 3))) (con (.int 1)))) (aAn (aC4 (b2 aA4 (aPl (con (.str "zz")) aGr (aFm (b2 aEa (look 0) (con (.int 3))))) (b2 aEn (con (.str "a")) (look 2))))
  aAz) aAz)
  (aAn (aC4 (b2 aA4 (b2 aA4 (aPl (con (.str "zyzy")) aGr (aFm (b2 aEa (b2 aEe (look 0) (con (.int 69))) (con (.int 4))))) (b2 gIx (con (.str "aXq 0~zB-c!_dEf.gH1i(jK")) (look 2))) (aPl (con (.str "yzzy")) aGr (aFm (b2 aEa (b2 aEe (look 0) (con (.int 276))) (con (.int 4)))))))
  aAz)))
theorem bL1 {st k:Int}(h1:0<=st)(h2:st<2000)(h3:0<=k)(h4:k<1000):aBd (aV6 [some (.sh (.int st)),some (.sh (.int k)),none])=ok (.str (nam st k)):=by
 have hm:bFc 5 k=true:=aRp (by omega) (by omega) (by omega) (by omega);have a1:0<=(5*k+st)%23/\(5*k+st)%23<23:=by omega
 have s1:aC7 2 (b2 aEa (b2 aA4 (b2 aEn (con (.int 5)) (look 1)) (look 0)) (con (.int 23))) [some (.sh (.int st)),some (.sh (.int k)),none]=some (.nx [some (.sh (.int st)),some (.sh (.int k)),some (.sh (.int ((5*k+st)%23)))]):=by
  simp[aC7,b2,look,con,bnd,ok,lft,aEa,aA4,aEn,bNv,SV.cur,hm,aMs,D.imm]
 have l1:(("zz":Str)).length=2:=by decide+kernel
 have l2:(("zyzy":Str)).length=4:=by decide+kernel
 have l3:(("yzzy":Str)).length=4:=by decide+kernel
 have l4:(("a":Str)).length=1:=by decide+kernel
 have l5:chs.length=23:=by decide+kernel
 have d2:b2 gEq (b2 aEa (b2 aEe (look 0) (con (.int 23))) (con (.int 3))) (con (.int 1)) [some (.sh (.int st)),some (.sh (.int k)),some (.sh (.int ((5*k+st)%23)))]=ok (.bl (decide (st/23%3=1))):=by
  simp[b2,look,con,bnd,ok,aEa,aEe,gEq,eqF,SV.cur]
 have cut: ∀(z:Str) (f:Rho->M D) (i:Int) (ρ:Rho),z.length<=1000->f ρ=ok (.int i)->aPl (con (.str z)) aGr (aFm f) ρ=ok (.str (aFy z none (some i))):=fun z f i ρ hz hf=>by
  unfold aPl aFm aGr con;rw[hf];simp only[aB0];show (if z.length<=1000 then ok (D.str (aFy z none (some i))) else none)=_;rw[if_pos hz]
 have plus: ∀(f g:Rho->M D) (x y:Str) (ρ:Rho),x.length<=1000->y.length<=1000->f ρ=ok (.str x)->g ρ=ok (.str y)->b2 aA4 f g ρ=ok (.str (x++y)):=fun f g x y ρ hx hy hf hg=>by
  refine aB2 hf hg ?_;show (if x.length+y.length<=100000 then ok (D.str (x++y)) else none)=_;rw[if_pos (by omega)]
 have md: ∀(d:Int),0<d->b2 aEa (look 0) (con (.int d)) [some (.sh (.int st)),some (.sh (.int k)),some (.sh (.int ((5*k+st)%23)))]=ok (.int (st%d)):=fun d hd=>by
  simp[b2,look,con,bnd,ok,aEa,SV.cur,hd]
 have mf: ∀(d e:Int),0<d->0<e->d<1000->b2 aEa (b2 aEe (look 0) (con (.int d))) (con (.int e)) [some (.sh (.int st)),some (.sh (.int k)),some (.sh (.int ((5*k+st)%23)))]=ok (.int (st/d%e)):=fun d e hd he hd2=>by
  have hd3:d<1073741824:=by omega
  simp[b2,look,con,bnd,ok,aEa,aEe,SV.cur,hd,he,hd3]
 unfold aV6;rw[aAe s1];by_cases hb:st/23%3=1
 ·rw[decide_eq_true hb] at d2
  have t2:b2 aEn (con (.str "a")) (look 2) [some (.sh (.int st)),some (.sh (.int k)),some (.sh (.int ((5*k+st)%23)))]=ok (.str (aW4 "a" ((5*k+st)%23).toNat)):=by
   refine aB2 (x:= .str "a") (y:= .int ((5*k+st)%23)) rfl rfl ?_;show (if 0<=(5*k+st)%23/\(("a":Str)).length<=1000/\(5*k+st)%23<=1000 then ok (D.str (aW4 "a" ((5*k+st)%23).toNat)) else none)=_;rw[if_pos ⟨a1.1,by rw[l4];decide,by omega⟩]
  have c1:=cut "zz" (b2 aEa (look 0) (con (.int 3))) _ _ (by rw[l1];decide) (md 3 (by decide));have p1:=plus _ _ _ _ _ (by have:=aR1 "zz" none (some (st%3));omega) (by rw[aQ3,l4];omega) c1 t2;rw[aBa ((aS1 (aDy d2)).trans (aBa (aBl p1)))];unfold nam;rw[if_pos hb];rfl
 ·rw[decide_eq_false hb] at d2
  rw[aAe ((aHl (aDy d2)).trans rfl)];have c1:=cut "zyzy" (b2 aEa (b2 aEe (look 0) (con (.int 69))) (con (.int 4))) _ _ (by rw[l2];decide) (mf 69 4 (by decide) (by decide) (by decide));have c2:=cut "yzzy" (b2 aEa (b2 aEe (look 0) (con (.int 276))) (con (.int 4))) _ _ (by rw[l3];decide) (mf 276 4 (by decide) (by decide) (by decide));have i1:b2 gIx (con (.str "aXq 0~zB-c!_dEf.gH1i(jK")) (look 2) [some (.sh (.int st)),some (.sh (.int k)),some (.sh (.int ((5*k+st)%23)))]=ok (.str (chr ((5*k+st)%23).toNat)):=by
   refine aB2 (x:= .str chs) (y:= .int ((5*k+st)%23)) rfl rfl ?_;show (if chs.length<=1000 then (match atI (L chs) ((5*k+st)%23) with | some c=>ok (D.str ⟨#[c]⟩) | none=>none) else none)=_;have ea:atI (L chs) ((5*k+st)%23)=some ((L chs).getD ((5*k+st)%23).toNat 0):=by
    have e:(5*k+st)%23=(((5*k+st)%23).toNat:Int):=by omega
    rw[e,Zc];exact aR7 (bRw (by omega))
   rw[if_pos (by rw[l5];decide),ea];rfl
  have p1:=plus _ _ _ _ _ (by have:=aR1 "zyzy" none (some (st/69%4));omega) (show (chr ((5*k+st)%23).toNat).length<=1000 from (show 1<=1000 by decide)) c1 i1;have p2:=plus _ _ _ _ _ (by rw[len_app];have:=aR1 "zyzy" none (some (st/69%4));have e:(chr ((5*k+st)%23).toNat).length=1:=rfl;omega) (by have:=aR1 "yzzy" none (some (st/276%4));omega) p1 c2;rw[aBa (aBl p2)];unfold nam;rw[if_neg hb];rfl
def bSe:List D->M D
 | [.int c]=>ok (.int (mix c))
 | _=>none
def fName:List D->M D
 | [.int st,.int k]=>if 0<=st/\st<2000/\0<=k/\k<1000 then ok (.str (nam st k)) else none
 | _=>none
theorem bD3: ∀ds r,fName ds=some r->ds.length=2:=by
 intro ds r h;unfold fName at h;split at h
 ·rfl
 ·cases h
theorem bG4 (N:List Str)(hN:N.length=3): ∀ds r,fName ds=some r->∃d,r= .ok d/\aBd (aV6 (aC0 N ds))=ok d:=by
 intro ds r h;unfold fName at h;split at h
 ·rename_i st k
  split at h
  ·rename_i q
   cases h;refine⟨_,rfl,?_⟩;have e0:aC0 N [.int st,.int k]=[some (.sh (.int st)),some (.sh (.int k)),none]:=by unfold aC0;rw[hN];rfl
   rw[e0];exact bL1 q.1 q.2.1 q.2.2.1 q.2.2.2
  ·cases h
 ·cases h
theorem aX4 {st k:Int}(h:0<=st/\st<2000/\0<=k/\k<1000):fName [.int st,.int k]=ok (.str (nam st k)):=if_pos h
theorem aQl {ns:List Int}{rest:Rho}(k:Nat):app fAt (aAa (look 0) (aAa (con (.int (k:Int))) aAg)) (some (.sh (.lst (ns.map D.int)))::rest)=ok (.int (atZ ns k)):=by
 rw[aBo (aAf (d:= .lst (ns.map D.int)) rfl (aAf (d:= .int (k:Int)) rfl aAq))];exact bHt ns k
theorem aHd {f g:Rho->M D}{ρ:Rho}{i j:Int}(h1:f ρ=ok (.int i))(h2:g ρ=ok (.int j))(hj:0<j):b2 aEa f g ρ=ok (.int (i%j)):=by
 refine aB2 h1 h2 ?_;show (if 0<j then ok (D.int (i%j)) else none)=_;rw[if_pos hj]
theorem aRv {f g:Rho->M D}{ρ:Rho}{i j:Int}(h1:f ρ=ok (.int i))(h2:g ρ=ok (.int j))(hj:0<j)(hj2:j<1073741824):b2 aEe f g ρ=ok (.int (i/j)):=by
 refine aB2 h1 h2 ?_;simp[aEe,hj,hj2]
theorem aHx {f g:Rho->M D}{ρ:Rho}{i j:Int}(h1:f ρ=ok (.int i))(h2:g ρ=ok (.int j)):b2 aA4 f g ρ=ok (.int (i+j)):=aB2 h1 h2 rfl
theorem bJs {f g:Rho->M D}{ρ:Rho}{i j:Int}(h1:f ρ=ok (.int i))(h2:g ρ=ok (.int j)):b2 gEq f g ρ=ok (.bl (decide (i=j))):=aB2 h1 h2 rfl
theorem aA5 {i:Nat}{f:Rho->M D}{ρ:Rho}{d:D}(h:f ρ=ok d)(hd:d.imm=true):aC7 i f ρ=some (.nx (ρ.set i (some (.sh d)))):=by rw[bBi h,aI7 hd]
theorem aQ2 {i:Nat}{f:Rho->M D}{ρ:Rho}{d:D}(h:f ρ=ok d)(hf:free ρ=ρ):aC7 i f ρ=some (.nx (ρ.set i (some (.sh d)))):=by
 rw[bBi h];unfold aMs;split
 ·rfl
 ·rw[hf]
theorem aT2 {k:Nat}{fe:Rho->M D}{ρ:Rho}{g:Nat->D}: ∀(l:List Nat),(∀j∈l,fe (ρ.set k (some (.sh (.int (j:Int)))))=ok (g j)/\(g j).imm=true)->
  aO2 [k] h1 (fun _=>ok true) fe (l.map fun (j:Nat)=>D.int (0+(j:Int))) ρ=ok (l.map g)
 | [],_=>rfl
 | x::l,h=>by
  have ih:=aT2 (g:=g) l (fun y hy=>h y (Qr _ hy));obtain⟨e1,e2⟩:=h x Qm;rw[Qv];unfold aO2;show (match fe (ρ.set k (some (.sh (.int (0+(x:Int)))))) with
    | some (.ok r)=>if r.imm=true then bnd (aO2 [k] h1 (fun _=>ok true) fe (l.map fun (j:Nat)=>D.int (0+(j:Int))) ρ) fun rs=>ok (r::rs) else none
    | _=>none)=_
  rw[Int.zero_add,e1,ih];show (if (g x).imm=true then bnd (ok (l.map g)) fun rs=>ok (g x::rs) else none)=_;rw[if_pos e2];rfl
theorem bNc {m k n:Nat}{f:Rho->M D}{fe:Rho->M D}{ρ:Rho}{g:Nat->D}(hf:f ρ=ok (.int (n:Int)))(hn:n<=1000000)(h: ∀j,j<n->fe ((ext m (free ρ)).set k (some (.sh (.int (j:Int)))))=ok (g j)/\(g j).imm=true):
  cmp m (itR f) [k] h1 (fun _=>ok true) fe ρ=ok (.lst ((Zj n).map g)):=by
 have e:itR f ρ=ok (rng 0 n):=by
  unfold itR;rw[hf];rw[aB0];simp only[bSx];rw[if_pos ⟨by omega,by omega⟩,Zc]
 unfold cmp;rw[e,aB0,if_pos (by unfold rng;rw[Qh,Zo];exact hn)];unfold rng;rw[aT2 (Zj n) (fun j hj=>h j (List.mem_range.mp hj))];rfl
def nms (n:Nat)(st:Int):List Str:=(Zj n).map fun (j:Nat)=>nam st (j:Int)
theorem aXp {m k n:Nat}{f fs:Rho->M D}{ρ:Rho}{st:Int}(hf:f ρ=ok (.int (n:Int)))(hn:n<=1000)(hst:0<=st/\st<2000)(hs: ∀v,fs ((ext m (free ρ)).set k v)=ok (.int st))(hk:k<(ext m (free ρ)).length):
  cmp m (itR f) [k] h1 (fun _=>ok true) (app fName (aAa fs (aAa (look k) aAg))) ρ=ok (.lst ((nms n st).map D.str)):=by
 rw[bNc (g:=fun j=> .str (nam st (j:Int))) hf (by omega) (fun j hj=>⟨?_,rfl⟩)]
 ·unfold nms
  rw[Zr];rfl
 ·have lk:look k ((ext m (free ρ)).set k (some (.sh (.int (j:Int)))))=ok (.int (j:Int)):=by
   unfold look;rw[Q4 hk];rfl
  rw[aBo (aAf (hs _) (aAf lk aAq))];exact aX4 ⟨hst.1,hst.2,by omega,by omega⟩
theorem aWb {α:Type}(f:α->Bool): ∀(l:List α),blL (l.map fun c=>D.bl (f c))=some (l.map f)
 | []=>rfl
 | x::l=>by rw[Qv,blL,aWb f l];rfl
def Pw (m:Nat):Prop:=m=8\/m=16\/m=32\/m=64\/m=128
theorem above {n:Nat}(h:n<128):Pw (Y0 n)/\n<Y0 n:=by
 have g:(Zj 128).all (fun n=>decide ((Y0 n=8\/Y0 n=16\/Y0 n=32\/Y0 n=64\/Y0 n=128)/\n<Y0 n))=true:=by decide+kernel
 rw[Uc] at g;have:=g n (List.mem_range.mpr h);rw[decide_eq_true_eq] at this;exact this
section
variable {prog:Qx}{w:Zb}{A:Ze}{E:Qd->Qf->Prop}{s:Qf}
theorem bGd {sets:List Addr}{Q:Bool->Qf->Prop}(hz: ∀a∈sets,∃x:List Str,s.heap.SetOf (Qi prog w) a (fun k=>x.contains k) x.length)(q:Q true s):Qp (Qt prog w) A (setsQuiet sets) Q E s:=by
 unfold setsQuiet;refine Qa (wpAny_forIn_list _ (fun rest st s'=>s'=s/\st=(none,())/\∀a∈rest,∃x:List Str,s.heap.SetOf (Qi prog w) a (fun k=>x.contains k) x.length) _ (fun a rest st s' ⟨e1,e2,he⟩=> ?_) (fun st s' ⟨e1,e2,_⟩=> ?_) _ _ ⟨rfl,rfl,hz⟩)
 ·subst e1 e2
  obtain⟨x,o,es,ep,t,ho,hex,hd,hel,hmem,hb,hf,hn⟩:=he a Qm;refine Qa (Y2 ho hd hf ?_);refine Qa (wpAny_forIn_array' _ (fun rest st s2=>s2=s'/\st=(none,())/\∀e∈rest,e∈es.toList) _ (fun e rest st s2 ⟨e1,e2,he2⟩=> ?_) (fun st s2 ⟨e1,e2,_⟩=> ?_) _ _ ⟨rfl,rfl,fun _ q=>q⟩)
  ·subst e1 e2
   obtain⟨⟨z,hz,hh⟩,sc⟩:=hel e (he2 e Qm);obtain⟨u,ez⟩:=Ye hz;obtain⟨i,v⟩:=e
   dsimp only at ez
   subst ez;exact Qe ⟨rfl,rfl,fun e q=>he2 e (Qr _ q)⟩
  ·subst e1 e2
   exact Qe ⟨rfl,rfl,fun a q=>he a (Qr _ q)⟩
 ·subst e1 e2
  exact Qe q
theorem bAq {o:Addr}{ob:Obj}{es:Array (Int×Qd)}{ep:Nat}{t:Yq}{y:List Str}{others:List Addr}{f:Addr}{x:List Str}{Q:Array (Int×Qd)->Qf->Prop}
  (zy:s.heap.SetOf (Qi prog w) o (fun k=>y.contains k) y.length) (zt:aJ3 w s.heap o) (ho:s.heap.get? o=some ob) (hd:ob.data= .set es ep t)
  (hz: ∀a∈others,∃x:List Str,s.heap.SetOf (Qi prog w) a (fun k=>x.contains k) x.length) (zf:s.heap.SetOf (Qi prog w) f (fun k=>x.contains k) x.length) (zft:aJ3 w s.heap f)
  (h: ∀es' h',es'.toList.Perm es.toList->Z3 f s.heap h'->h'.SetOf (Qi prog w) f (fun k=>x.contains k) x.length->aJ3 w h' f->Q es' {s with heap:=h'}):
  Qp (Qt prog w) A (setWalkUnseen o others (some f)) Q E s:=by
 obtain⟨ob',es',ep',t',ho',hex,hd',hel,hmem,hb,hf,hn⟩:=id zy;rw[ho] at ho';cases ho';rw[hd] at hd';cases hd';obtain⟨ob',ho',es',ep',t',hd',bNu,hpl⟩:=id zt;rw[ho] at ho';cases ho';rw[hd] at hd';cases hd';have same:Q es s:=by
  have:=h es s.heap (List.Perm.refl _) (Heap.SameBut.refl f s.heap) zf zft;exact this
 unfold setWalkUnseen;refine Qa (Yk ho hd hf ?_)
 dsimp only
 refine Qa (show Qp _ _ setsByText _ _ _ from Qa (Yw (Qe ?_)));show Qp _ _ (if (w.params.followText "set-order" || t.led&&t.plain || decide (es.size<=1))=true then _ else _) _ _ _;have walk:(w.params.followText "set-order"=true\/es.size<=1)->Qp (Qt prog w) A (setWalk o) Q E s:=fun hc=>by
  unfold setWalk;refine Qa (Yk ho hd hf ?_)
  dsimp only
  refine Qa (show Qp _ _ setsByText _ _ _ from Qa (Yw (Qe ?_)));show Qp _ _ (if w.params.followText "set-order"=true then _ else _) _ _ _;cases hw:w.params.followText "set-order" with
  | true=>
   rw[if_pos rfl];refine Qa (Yw (Qe ?_));have:=h (pickOrder (w.params.setOrder o ep) es) s.heap (aH4 _ es) (Heap.SameBut.refl f s.heap) zf zft;exact this
  | false=>
   rw[hw] at hc;have hs1:es.size<=1:=hc.resolve_left (by decide);rw[if_neg (by decide)];have hdec:(decide (es.size>1))=false:=decide_eq_false (by omega);show Qp _ _ (if (!t.plain&&decide (es.size>1))=true then _ else _) _ _ _;rw[hdec,Jw,if_neg (by decide)];refine Qa (show Qp _ _ (if (!t.led&&decide (es.size>1))=true then _ else pure ()) _ _ _ from ?_);rw[hdec,Jw,if_neg (by decide)];exact Qe (Qe same)
 cases hc:(w.params.followText "set-order" || t.led&&t.plain || decide (es.size<=1)) with
 | true=>
  rw[if_pos rfl];refine walk ?_;rw[Yu,Yu] at hc;rcases hc with (hc | hc) | hc
  ·exact .inl hc
  ·rw[Zg] at hc
   rcases hpl with q | q
   ·exact .inr (by omega)
   ·rw[q] at hc;exact absurd hc.2 (by decide)
  ·exact .inr (of_decide_eq_true hc)
 | false=>
  rw[if_neg (by decide)];rw[Es,Es] at hc;obtain⟨⟨c1,c2⟩,c3⟩:=hc;have c3':1<es.size:=by have:=of_decide_eq_false c3;omega
  have ll:t.led=true:=bNu.resolve_left (by rw[c1];decide);have lp:t.plain=false:=by rw[ll] at c2;simpa using c2
  refine Qa (bGd (fun a ha=> ?_) ?_)
  ·rcases List.mem_cons.mp ha with rfl | ha
   ·exact⟨y,zy⟩
   ·exact hz a ha
  rw[if_neg (by decide)];refine Qa (wpAny_rule ?_);obtain⟨of,ef,epf,tf,hof,bW9,hdf,bXc,bT0,hbf,hff,hnf⟩:=id zf;obtain⟨of',bVe,ef',bX2,tf',bVh,bT1,bXv⟩:=id zft;rw[hof] at bVe;cases bVe;rw[hdf] at bVh;cases bVh;refine Qa (Yk hof hdf hff ?_)
  dsimp only
  split
  ·refine Qa (wpAny_storeSet_of hof hdf (Qe ?_) (fits_of_scanBound hbf))
   obtain⟨o2,z2⟩:=SetOf_store (knd:=Qi prog w) hof bW9 hdf (es':=ef) (t':={tf with led:=tf.led&&t.led,plain:=tf.plain&&t.plain}) (S':=fun k=>x.contains k) bXc bT0 hbf hff;rw[hnf] at z2;refine h es _ (List.Perm.refl _) (Zw _ f _) z2 ⟨_,o2,_,_,_,rfl,?_,.inr (by show (tf.plain&&t.plain)=false;rw[lp,Jw])⟩;show _\/(tf.led&&t.led)=true;rw[ll,V9];exact bT1
  ·exact Qe same
end
def aQt (x y:List Str):List Str:=y.foldl aG0 x
theorem bAr {x:List Str}(h:x.Nodup)(y:List Str):(aQt x y).Nodup:=aHp y x h
theorem bAs: ∀(y x:List Str) (k:Str),(aQt x y).contains k=(x.contains k || y.contains k)
 | [],x,k=>by simp[aQt]
 | v::y,x,k=>by
  have:aQt x (v::y)=aQt (aG0 x v) y:=rfl;rw[this,bAs y,aM3,E7,V8]
  congr 2
theorem bJ7 {x y:List Str}{k:Str}:k∈aQt x y↔k∈x\/k∈y:=by
 have:=bAs y x k;rw[<-Q5,this,Yu,Q5,Q5]
theorem bN5 (x y:List Str):(aQt x y).length<=x.length+y.length:=by
 induction y generalizing x with
 | nil=>simp[aQt]
 | cons v y ih=>
  have e:aQt x (v::y)=aQt (aG0 x v) y:=rfl;have:=ih (aG0 x v);rw[e,Qk];have h2:=aH6 x v;split at h2<;>omega
section
variable {prog:Qx}{w:Zb}{A:Ze}{E:Qd->Qf->Prop}{s:Qf}
def aSj:Int×Qd->Str
 |(_,.str k _)=>k
 | _=>Jz
theorem aUq {e:Int×Qd}{l:List (Int×Qd)}(hel:ElemsOf (Qi prog w) l)(he:e∈l): ∃t,e=((Qi prog w).hash (aSj e),.str (aSj e) t):=by
 obtain⟨⟨z,hz,hh⟩,sc⟩:=hel e he;obtain⟨u,ez⟩:=Ye hz;obtain⟨i,v⟩:=e
 dsimp only at ez hh
 subst ez hh;exact⟨u,rfl⟩
theorem bJ8 {l:List (Int×Qd)}{y:List Str}(hel:ElemsOf (Qi prog w) l)(hm: ∀k,y.contains k=true↔∃e∈l,(Qi prog w).is k e.2=true)(k:Str):k∈l.map aSj↔k∈y:=by
 rw[<-Q5 (as:=y),hm k,List.mem_map]
 constructor
 ·rintro⟨e,he,rfl⟩
  obtain⟨t,et⟩:=aUq hel he;refine⟨e,he,?_⟩;rw[et];simp[Qi,Value.isStrOf,aSj]
 ·rintro⟨e,he,q⟩
  refine⟨e,he,?_⟩;obtain⟨t,et⟩:=aUq hel he;rw[et] at q;obtain⟨u,eu⟩:=Ye (x:=k) (show Value.isStrOf k (Jk (aSj e) t)=true from q)
  injection eu
end
theorem aRy:entryFor table "set.__sub__"=some Builtin.«frozenset.__sub__»:=
 entryFor_alias (id':="frozenset.__sub__") (by kernel_rfl) rfl (by decide+kernel) (by kernel_rfl)
section
variable {prog:Qx}{w:Zb}{A:Ze}{E:Qd->Qf->Prop}{s:Qf}
theorem bJj {a:Addr}{S:Str->Bool}{n:Nat}{Q:Bool->Qf->Prop}(z:s.heap.SetOf (Qi prog w) a S n)(q:Q true s):Qp (Qt prog w) A (isInstance (.ref a) (.type "set")) Q E s:=by
 obtain⟨⟨c1,d1,x1,l1⟩,es1,ep1,t1,o1,⟨k1,_,_⟩,e1,_⟩:=z
 dsimp only at k1 e1
 subst k1 e1;have hs:=sub_set_self
 wp_walk using Zq o1
 exact q
theorem bLz {Q:Qd->Qf->Prop}(q:Q (.ref s.heap.objs.size) {s with heap:=s.heap.push (aSw (aZj w))}):Qp (Qt prog w) A (newSet (.type "set")) Q E s:=by
 unfold newSet;refine Qa (show Qp _ _ setsByText _ _ _ from Qa (Yw (Qe ?_)))
 dsimp only
 simp only[newObj];exact Qa (wpAny_alloc (Qe q))
theorem aWg {a:Addr}{S:Str->Bool}{n:Nat}{Q:Bool->Qf->Prop}(z:s.heap.SetOf (Qi prog w) a S n)(q:Q true s):Qp (Qt prog w) A (Y9 (.ref a)) Q E s:=by
 unfold Y9;exact Qa (bJj z (Qe q))
theorem bH4 {a b:Addr}{S S':Str->Bool}{n n':Nat}{Q:Bool->Qf->Prop}(z:s.heap.SetOf (Qi prog w) a S n)(z':s.heap.SetOf (Qi prog w) b S' n')(q:Q true s):Qp (Qt prog w) A (Y9 (.ref a)<&&>Y9 (.ref b)) Q E s:=
 Qa (aWg z (show Qp _ _ (Y9 (.ref b)) _ _ _ from aWg z' q))
theorem aSh {id:String}{o:Addr}{ob:Obj}{es:Array (Int×Qd)}{ep:Nat}{t:Yq}(ho:s.heap.get? o=some ob)(hd:ob.data= .set es ep t)(hf:t.fits es.size=true):
  ∀(s':Qf) (Q':Unit->Qf->Prop),(∀ob,s.heap.get? o=some ob->s'.heap.get? o=some ob)->Q' () s'->Qp (Qt prog w) A (Builtin.Frozenset.unchanged id o ep) Q' E s':=fun s' Q' k q=>by
 unfold Builtin.Frozenset.unchanged;refine Qa (wpAny_setEpoch_of (k _ ho) hd hf ?_);rw[if_neg (by simp)];exact Qe q
end
def aX7 (x y:List Str):List Str:=x.filter fun k=> !y.contains k
section
variable {prog:Qx}{w:Zb}{A:Ze}{E:Qd->Qf->Prop}{s:Qf}
theorem bHs {ks z x:List Str}{p:Str->Bool}(hz:z.Nodup)(hk: ∀k,k∈ks↔k∈x)(hx:x.Nodup)(e: ∀k,k∈z↔k∈x/\p k=true):(∀k,(aQt [] (ks.filter p)).contains k=z.contains k)/\(aQt [] (ks.filter p)).length=z.length:=by
 have m: ∀k,k∈aQt [] (ks.filter p)↔k∈z:=fun k=>by
  rw[bJ7,Vl,hk k,e k];simp
 refine⟨fun k=>by rw[Yd,Q5,Q5];exact m k,?_⟩;exact ((U4 (bAr Vu _) hz).mpr m).length_eq
theorem bD0 {r:Addr}{x z:List Str}{pr:Str->Bool}{es:Array (Int×Qd)}{f:Int×Qd->PUnit->Sem (ForInStep PUnit)}{Q:Unit->Qf->Prop}(hx:x.Nodup)(hxl:x.length<=100)(hz:z.Nodup)(he: ∀k,k∈z↔k∈x/\pr k=true)
  (hel:ElemsOf (Qi prog w) es.toList) (hm: ∀k,x.contains k=true↔∃e∈es.toList,(Qi prog w).is k e.2=true) (hn:es.size=x.length)
  (z0:s.heap.SetOf (Qi prog w) r (fun k=>([]:List Str).contains k) 0) (t0:aJ3 w s.heap r)
  (hf: ∀(k:Str) (u:Tok) (s':Qf) (R:ForInStep PUnit->Qf->Prop) (v:List Str),Z3 r s.heap s'.heap->s'.heap.SetOf (Qi prog w) r (fun k=>v.contains k) v.length->aJ3 w s'.heap r->v.length<=100->
   (pr k=false->R (.yield ⟨⟩) s')->(pr k=true->∀h',Z3 r s'.heap h'->h'.SetOf (Qi prog w) r (fun k'=>(aG0 v k).contains k') (aG0 v k).length->aJ3 w h' r->R (.yield ⟨⟩) {s' with heap:=h'})->Qp (Qt prog w) A (f ((Qi prog w).hash k,.str k u) ⟨⟩) R E s')
  {es':Array (Int×Qd)} (hp:es'.toList.Perm es.toList)
  (h: ∀h',Z3 r s.heap h'->h'.SetOf (Qi prog w) r (fun k=>z.contains k) z.length->aJ3 w h' r->Q () {s with heap:=h'}):
  Qp (Qt prog w) A (forIn es' PUnit.unit f) (fun _ s'=>Q () s') E s:=by
 refine wpAny_forIn_array' _ (fun rest _ s'=> ∃(p:List (Int×Qd)) (h3:Heap),s'={s with heap:=h3}/\es'.toList=p++rest/\Z3 r s.heap h3/\h3.SetOf (Qi prog w) r (fun k=>(aQt [] ((p.map aSj).filter pr)).contains k) (aQt [] ((p.map aSj).filter pr)).length/\aJ3 w h3 r) _ (fun e rest b s' ⟨p,h3,e1,e2,sb3,z3,t3⟩=> ?_) (fun b s' ⟨p,h3,e1,e2,sb3,z3,t3⟩=> ?_) es' _ ⟨[],s.heap,rfl,rfl,Heap.SameBut.refl r s.heap,z0,t0⟩
 ·subst e1
  have hem:e∈es'.toList:=by rw[e2];exact Zh _ Qm
  obtain⟨u,eu⟩:=aUq hel (hp.mem_iff.mp hem);generalize aSj e=k at eu;subst eu;have hlen:p.length<x.length:=by
   have:=congrArg Uu e2;rw[Qq,Qk,hp.length_eq,Q6] at this;omega
  have hle:=bN5 [] ((p.map aSj).filter pr);have bW7:=List.length_filter_le pr (p.map aSj);rw[Qh] at bW7;rw[Uw,Uf] at hle;have ek:(p++ [((Qi prog w).hash k,Jk k u)]).map aSj=p.map aSj++ [k]:=by rw[Zd];rfl
  refine hf k u _ _ (aQt [] ((p.map aSj).filter pr)) sb3 z3 t3 (by omega) (fun q=>⟨p++ [((Qi prog w).hash k,.str k u)],h3,rfl,by rw[e2,Z1];rfl,sb3,?_,t3⟩) (fun q h4 sb4 z4 t4=>⟨p++ [((Qi prog w).hash k,.str k u)],h4,rfl,by rw[e2,Z1];rfl,sb3.trans sb4,?_,t4⟩)
  ·rw[ek,E6,List.filter_cons_of_neg (by rw[q];decide),List.filter_nil,Z9]
   exact z3
  ·have e5:aQt [] ((p.map aSj++ [k]).filter pr)=aG0 (aQt [] ((p.map aSj).filter pr)) k:=by
    rw[E6,List.filter_cons_of_pos q,List.filter_nil];unfold aQt;rw[W7];rfl
   rw[ek,e5];exact z4
 ·subst e1
  rw[Z9] at e2;have hk: ∀k,k∈p.map aSj↔k∈x:=fun k=>by
   rw[<-e2,<-bJ8 hel hm k];exact (hp.map aSj).mem_iff
  obtain⟨c1,c2⟩:=bHs (p:=pr) hz hk hx he;exact h h3 sb3 (aFz (σ:=[]) z3 c1 c2) t3
theorem bM7 {q:Addr}{y:List Str}{k:Str}{u:Tok}{Q:Option Nat->Qf->Prop}(zy:s.heap.SetOf (Qi prog w) q (fun k=>y.contains k) y.length)(h: ∀r:Option Nat,r.isSome=y.contains k->Q r s):Qp (Qt prog w) A (setFind q (.str k u) ((Qi prog w).hash k)) Q E s:=
 wpAny_setFind_of (by simp[Qi,Value.isStrOf]) rfl zy h
theorem bNo {r:Addr}{v:List Str}{k:Str}{u:Tok}{Q:Bool->Qf->Prop}(z:s.heap.SetOf (Qi prog w) r (fun k=>v.contains k) v.length)(t:aJ3 w s.heap r)(hl:v.length<=100)
  (h: ∀h',Z3 r s.heap h'->h'.SetOf (Qi prog w) r (fun k'=>(aG0 v k).contains k') (aG0 v k).length->aJ3 w h' r->∀b,Q b {s with heap:=h'}):Qp (Qt prog w) A (setAddHashed r (.str k u) ((Qi prog w).hash k)) Q E s:=by
 have hsb:scanBound=4096:=rfl;exact aYg z t (by omega) fun h' sb z' t'=>h h' sb (aFz (σ:=[]) z' (fun k'=>by rw[aM3]) (by rw[aH6])) t' _
theorem aSv {a b:Addr}{x y:List Str}{Q:Qd->Qf->Prop}(zx:s.heap.SetOf (Qi prog w) a (fun k=>x.contains k) x.length)(zxt:aJ3 w s.heap a)(zy:s.heap.SetOf (Qi prog w) b (fun k=>y.contains k) y.length)(hx:x.Nodup)(hxl:x.length<=63)(hq4:x.length/4<=y.length)
  (h: ∀h',(∀b o,s.heap.get? b=some o->h'.get? b=some o)->h'.SetOf (Qi prog w) s.heap.objs.size (fun k=>(aX7 x y).contains k) (aX7 x y).length->aJ3 w h' s.heap.objs.size->Q (.ref s.heap.objs.size) {s with heap:=h'}):
  Qp (Qt prog w) A (Builtin.«frozenset.__sub__» ⟨[.ref a,.ref b],[]⟩) (fun fin s'=> ∃r,fin= .done (.ret r)/\Q r s') E s:=by
 have hla:a<s.heap.objs.size:=by obtain⟨o,_,_,_,ho,_⟩:=zx;exact Qn ho
 have hlb:b<s.heap.objs.size:=by obtain⟨o,_,_,_,ho,_⟩:=zy;exact Qn ho
 obtain⟨oa0,ea0,bXk,ta0,bQ0,bXb,bSa,bT5,bW5,bX1,bT4,bW4⟩:=id zx;obtain⟨ob0,eb0,bX3,tb0,bW3,bXa,bXe,bXd,bXx,bX0,bW8,bXw⟩:=id zy;unfold Builtin.«frozenset.__sub__»;show Qp _ _ (Builtin.Frozenset.slot1 "__sub__" ⟨[.ref a,.ref b],[]⟩>>=_) _ _ _;refine Qa (show Qp _ _ (pure (Q1 a,Q1 b)) _ _ _ from Qe ?_)
 dsimp only
 refine Qa (bH4 zx zy ?_);rw[if_neg (by decide)];refine Qa (show Qp _ _ (pure a) _ _ _ from Qe ?_);refine Qa ?_;show Qp _ _ (Builtin.Frozenset.difference (toString "frozenset."++toString "__sub__") a (.ref b)) _ _ _;unfold Builtin.Frozenset.difference
 dsimp only
 refine Qa (aWg zy ?_);rw[if_neg (by decide)];refine Qa (show Qp _ _ (pure b) _ _ _ from Qe ?_);rw[if_neg (show ¬(!true&&b==Jj)=true from by simp),if_pos rfl];unfold Builtin.Frozenset.sizeOf;refine Qa (Qa (Y2 bW3 bXe bW8 (Qe ?_)));refine Qa (Qa (Y2 bQ0 bSa bT4 (Qe ?_)));rw[if_neg (by omega)];unfold Builtin.Frozenset.baseOf;refine Qa (Qa (bJj zx (Qe ?_)));rw[if_pos rfl];refine Qa (bLz ?_);have zS:(s.heap.push (aSw (aZj w))).get? s.heap.objs.size=some (aSw (aZj w)):=Ql _ rfl;refine Qa (show Qp _ _ (pure s.heap.objs.size) _ _ _ from Qe ?_);have kp: ∀c o,s.heap.get? c=some o->(s.heap.push (aSw (aZj w))).get? c=some o:=fun b o e=>Qb _ e
 have z0:(s.heap.push (aSw (aZj w))).SetOf (Qi prog w) s.heap.objs.size (fun k=>([]:List Str).contains k) ([]:List Str).length:=aFz (σ:=[]) ((W3 (knd:=Qi prog w) (aZj w)).setOf zS (by decide)) (fun _=>rfl) rfl;have zx1:=aF0 zx (fun o e=>kp a o e);have zy1:=aF0 zy (fun o e=>kp b o e);have tx1:=aM5 zxt fun o e=>kp a o e
 refine Qa (wpAny_setEpoch_of (kp _ _ bQ0) bSa bT4 ?_);have fin: ∀(h':Heap),Z3 s.heap.objs.size (s.heap.push (aSw (aZj w))) h'->∀c o,s.heap.get? c=some o->h'.get? c=some o:=fun h' sb c o e=>by
  rw[sb.2 c (Qz (Qn e))];exact kp c o e
 refine Qa (Yh ?_);refine Qa (bAq (x:=[]) zx1 tx1 (kp _ _ bQ0) bSa (fun c hc=> ?_) z0 (aWn zS) fun es' h2 hpm sb2 z2 t2=> ?_)
 ·rcases List.mem_cons.mp hc with rfl | hc
  ·exact⟨y,zy1⟩
  ·rw[U5] at hc
   subst hc;exact⟨[],z0⟩
 have hcap:(aX7 x y).Nodup:=List.Sublist.nodup List.filter_sublist hx;have c0: ∀k,k∈aX7 x y↔k∈x/\(!y.contains k)=true:=fun k=>by unfold aX7;rw[Vl]
 refine Qa (Y1 (bD0 (s:={s with heap:=h2}) (x:=x) (z:=aX7 x y) (pr:=fun k=> !y.contains k) (Q:=fun _ s'=>Q (.ref s.heap.objs.size) s') hx (by omega) hcap c0 bT5 bW5 bW4 z2 t2 (fun k tk s' R w' sbw zw tw hwl c1 c2=> ?_) hpm (fun h3 sb3 z3 t3=>h h3 (fun c o e=>fin h3 (sb2.trans sb3) c o e) z3 t3)) (fun _ s' q=>Qe (Qe (Qe ⟨_,rfl,q⟩))) (fun _ _ q=>q));have hk: ∀c,c≠s.heap.objs.size->s'.heap.get? c=(s.heap.push (aSw (aZj w))).get? c:=fun c hc=>(sbw.2 c hc).trans (sb2.2 c hc)
 have zv':s'.heap.SetOf (Qi prog w) b (fun k=>y.contains k) y.length:=aF0 zy1 fun o e=>by rw[hk b (Qz hlb)];exact e
 have hp:=Qz hla;have un: ∀(s2:Qf) (Q':Unit->Qf->Prop),s2.heap.get? a=some oa0->Q' () s2->Qp (Qt prog w) A (Builtin.Frozenset.unchanged (toString "frozenset."++toString "__sub__") a bXk) Q' E s2:=fun s2 Q' e q=>aSh (s:=s2) e bSa bT4 s2 Q' (fun _ e=>e) q
 dsimp only
 refine Qa (Yh ?_);rw[if_pos rfl];refine Qa (bM7 zv' fun fr hfr=>Qa (Qe ?_));cases hc:y.contains k with
 | true=>
  rw[hc] at hfr;rw[hfr,if_neg (by decide)];exact Qe (Qa (un _ _ ((hk a hp).trans (kp _ _ bQ0)) (Qe (c1 (by rw[hc];rfl)))))
 | false=>
  rw[hc] at hfr;rw[hfr,if_pos (by decide)];refine Qa (bNo zw tw hwl fun h4 sb4 z4 t4 bb=>Qe (Qa (un _ _ ?_ (Qe (c2 (by rw[hc];rfl) h4 sb4 z4 t4)))));show h4.get? a=some oa0;rw[sb4.2 a hp];exact (hk a hp).trans (kp _ _ bQ0)
end
section
variable {X:Cx}{B:Hp}{e a b:Expr}{fa fb:Rho->M D}{pos p p2 pos2:Pos}
def aV0:D->D->M D
 | .set x,.set y=>if x.Nodup/\x.length<=63/\x.length/4<=y.length then ok (.set (aX7 x y)) else none
 | _,_=>none
def rS2 (ok:List Str->List Str->Prop)(f:List Str->List Str->List Str):R2:=fun x y H Q=> ∃a b xs ys,x= .ref a/\y= .ref b/\H a=some (.set (fun k=>(xs:List Str).contains k) xs.length)/\H b=some (.set (fun k=>(ys:List Str).contains k) ys.length)/\ok xs ys/\∀l,H l=none->Q (.ref l) (upd H l (.set (fun k=>(f xs ys).contains k) (f xs ys).length))
theorem bTf {op:Operator}{okp:List Str->List Str->Prop}{f:List Str->List Str->List Str}{id:String}{Bt:Builtin}(fills:fillsNumberSlot (.type "set") op.info.2=pure true)(slot:Vp "set" (dunder op.info.2) id)(entry:entryFor table id=some Bt)(args: ∀a b,argsOk id ⟨[a,b],[]⟩)
  (body: ∀{A:Ze} {E:Qd->Qf->Prop} {s:Qf} {a b:Addr} {x y:List Str} {Q:Qd->Qf->Prop},s.heap.SetOf (Qi X.prog X.w) a (fun k=>x.contains k) x.length->aJ3 X.w s.heap a->s.heap.SetOf (Qi X.prog X.w) b (fun k=>y.contains k) y.length->aJ3 X.w s.heap b->okp x y->
   (∀h',(∀b o,s.heap.get? b=some o->h'.get? b=some o)->h'.SetOf (Qi X.prog X.w) s.heap.objs.size (fun k=>(f x y).contains k) (f x y).length->aJ3 X.w h' s.heap.objs.size->Q (.ref s.heap.objs.size) {s with heap:=h'})->
   Qp (Qt X.prog X.w) A (Bt ⟨[.ref a,.ref b],[]⟩) (fun fin s'=> ∃r,fin= .done (.ret r)/\Q r s') E s):OpR X (Jh op) (rS2 okp f):=by
 intro pins s σ H x y v u Q I rx ry h;obtain⟨a,b,xs,ys,rfl,rfl,ha,hb,hok,q⟩:=h;cases rx;cases ry;obtain⟨za,ta⟩:=(show aBn X.prog X.w H s.heap a (.set _ _) from I.hok a _ ha);obtain⟨zb,tb⟩:=(show aBn X.prog X.w H s.heap b (.set _ _) from I.hok b _ hb);have ya:s.TypeIs (.ref a) "set":=by obtain⟨o,_,_,_,ho,hex,_⟩:=za;exact⟨o,ho,hex.1⟩
 have yb:s.TypeIs (.ref b) "set":=by obtain⟨o,_,_,_,ho,hex,_⟩:=zb;exact⟨o,ho,hex.1⟩
 refine wpAny_binaryOp_same ya yb fills slot (Za slot ya entry (body za ta zb tb hok fun h' kp z' t'=> ?_) (args _ _));exact And.intro (fun z=>nomatch z) ⟨.ref _,_,I.laid (t':=s.toks) kp (Qo _) (show aBn X.prog X.w _ h' _ (.set _ _) from⟨z',t'⟩),rfl,q _ (I.hok.fresh (Qo _))⟩
theorem bV6 {okp:List Str->List Str->Prop}{f:List Str->List Str->List Str}{g:D->D->M D}(hg: ∀dx dy d,g dx dy=ok d->∃x y,dx= .set x/\dy= .set y/\okp x y/\d= .set (f x y)):aSa X (rS2 okp f) g:=by
 intro H x y dx dy d Q ix iy e q;obtain⟨xs,ys,rfl,rfl,hok,rfl⟩:=hg _ _ _ e;cases ix with
 | set h1=>
  cases iy with
  | set h2=>exact⟨_,_,_,_,rfl,rfl,h1,h2,hok,fun l hl=>q _ _ (aAp hl _) (.set aAm)⟩
theorem bLe (ha:PD X B a fa)(hb:PD X B b fb):PD X B (.BinOp a .Sub b pos) (b2 aV0 fa fb):=
 aO6 (bTf (op:= .Sub) (okp:=fun x y=>x.Nodup/\x.length<=63/\x.length/4<=y.length) F.fills_set_sub F.slot_set_sub aRy F.args_set_sub_2 (fun zx tx zy ty hok h=>aSv zx tx zy hok.1 hok.2.1 hok.2.2 h))
  (bV6 fun dx dy d e=>by
   unfold aV0 at e;split at e<;>first |(cases e;done) | skip
   split at e
   ·rename_i hh;cases e;exact⟨_,_,rfl,rfl,hh,rfl⟩
   ·cases e)
  (by intro x y c h;unfold aV0 at h;(repeat' split at h)<;>cases h) ha hb
end
section
variable {prog:Qx}{w:Zb}{A:Ze}{E:Qd->Qf->Prop}{s:Qf}
theorem aI2 {l:Addr}{vs:List Qd}{T:String}{o:Obj}{nn:Nat}{Q:List Qd->Qf->Prop}(hT:T="list"\/T="tuple")(ho:s.heap.get? l=some o)(hc:o.cls= .type T)(hd:o.data= .seq vs.toArray nn)(hz:vs.length<=100000)
  (h:Q vs {s with heap:=(s.heap.push (Yb "list" #[] 0)).update s.heap.objs.size (Zz (· ++vs.toArray))}):Qp (Qt prog w) A (collect (.ref l)) Q E s:=by
 have hs:Qy=16777216:=Z6;unfold collect;refine Qa (wpAny_runValue (Ym entry_proto_collect' ?_));refine Qa (wpAny_newList (Qe ⟨Code.quiet_builtin _ (by decide+kernel),Ym entry_list_iadd' ?_⟩));have ho':(s.heap.push (Yb "list" #[] 0)).get? l=some o:=Qb _ ho;show Qp _ _ (Z0 (.ref s.heap.objs.size) (.ref l) (.ref s.heap.objs.size)) _ _ _;unfold Z0;refine Qa (wpAny_typeOf (T:=T) ⟨o,ho',hc⟩ ?_);have ht:(Jd T==Jd "list" || Jd T==Jd "tuple")=true:=by rcases hT with rfl | rfl<;>rfl
 rw[if_pos (by rw[V8,ht,Eh])];refine Qa (listItems_at ho' hd ?_);have hnew:(s.heap.push (Yb "list" #[] 0)).get? s.heap.objs.size=some (Yb "list" #[] 0):=Ql _ rfl;refine Qa (listItems_at (xs:= #[]) (n:=0) hnew rfl ?_);rw[if_neg (by simp)];have hz2:(#[]++vs.toArray:Array Qd).size<=Qy+1:=by rw[Wb,Qu];simp;omega
 refine Qa (listUpdate_at (xs:= #[]) (n:=0) hnew rfl (Qe ?_) (Zy _) hz2);refine Qa (wpAny_load (Y5 hnew _) ?_);have e:((#[]:Array Qd)++vs.toArray).toList=vs:=by simp
 show Qp _ _ (pure ((#[]:Array Qd)++vs.toArray).toList) Q E _;rw[e];exact Qe h
end
section
variable {X:Cx}{B:Hp}{e a b:Expr}{fa fb:Rho->M D}{pos p p2 pos2:Pos}
theorem aWt {K:Qc}{H:Hp}: ∀{xs:List Str} {vs:List V} {its:List Qd},IsL K H (xs.map D.str) vs->Vals vs its->StrsAre its xs
 | [],_,_,.nil,r=>by cases r;exact .nil
 | x::xs,_,_,.cons h q,r=>by
  cases h;cases r with
  | cons r1 r2=>
   obtain⟨t,rfl⟩:=r1;exact .cons x t (aWt q r2)
def bAn:D->M D
 | .lst ds=>match aIk ds with | some xs=>if xs.length<64 then ok (.lst ((aGk xs).map .str)) else none | none=>none
 | .tup ds=>match aIk ds with | some xs=>if xs.length<64 then ok (.lst ((aGk xs).map .str)) else none | none=>none
 | _=>none
theorem aT4 (hc:X.calm=true):aGh X (.builtin "sorted") (fun xs H Q=> ∃p ys ss,xs=[.ref p]/\(SqL X.K H p ys\/SqT X.K H p ys)/\IsL X.K H ((ss:List Str).map D.str) ys/\ss.length<64/\∀l,H l=none->Q (.ref l) (upd H l (.lst ((aGk ss).map V.str)))):=by
 intro pins s σ H xs us Q I r h;obtain⟨p,ys,ss,rfl,hp,hi,h64,q⟩:=h;obtain⟨u,rfl,rx⟩:=vals1 r;cases rx;have hs:Qy=16777216:=Z6;have key: ∃(its:List Qd) (T:String) (o:Obj) (nn:Nat),Vals ys its/\(T="list"\/T="tuple")/\s.heap.get? p=some o/\o.cls= .type T/\o.data= .seq its.toArray nn:=by
  rcases hp with hp | hp
  ·obtain⟨its,r1,⟨o,nn,e1,e2,_,e3⟩,_⟩:=I.list hp
   exact⟨its,"list",o,nn,r1,.inl rfl,e1,e2,e3⟩
  ·obtain⟨its,r1,⟨o,e1,e2,nn,e3⟩,_⟩:=I.tuple hp
   exact⟨its,"tuple",o,nn,r1,.inr rfl,e1,e2,e3⟩
 obtain⟨its,T,o,nn,r1,hT,ho,hcl,hd⟩:=key;have hS:=aWt hi r1;have hlen:its.length=ss.length:=hS.len_eq;refine aSo (xs:=ss) (I.ok.hd hc) h64 (fun B' Q' hB q'=>aI2 hT ho hcl hd (by omega) (q' its ss _ s.toks s.drawn hS (List.Perm.refl _) ?_ fun b ob eb=> ?_)) fun out l h' tk d m hS' hl ho' kp=> ?_
 ·rw[Heap.size_update,Z2]
  exact J2 _
 ·rw[Q8 _ _ (Yc (Qn eb))]
  exact Qb _ eb
 ·have hl2:(aGk ss).length=ss.length:=(aD3 ss).length_eq
  exact⟨.ref l,_,(aM1 I d).laid (t':=tk) kp hl (show aBn X.prog X.w _ h' _ (.lst _) from⟨by rw[Qh];omega,out,m,(bFs (K:=X.K) (H:=H) hS').1,ho'⟩),rfl,q _ (I.hok.fresh hl)⟩
theorem aF7 (hc:X.calm=true)(hg:Gl X "sorted")(hm:X.mg "sorted"=none)(ha:PD X B e fa)(hs:aBu e=true:=by rfl):PD X B (.Call (.Name "sorted" p) [e] [] pos) (f1 bAn fa):=by
 refine PE.of (aEr (aT4 hc) hg hm boot_sorted (aB8 ha aDl (aAv hs)) (he:=aAv hs) (hpl:=by rfl)) fun σ H Q h=> ?_
 obtain⟨ρ,r1,h⟩:=h;refine⟨ρ,r1,(Res.bind h).imp fun d q1 v H1 e1 i1=> ?_⟩;cases i1 with
 | lst hh rr=>
  dsimp only[bAn] at q1
  split at q1
  ·rename_i xs hx
   split at q1
   ·rename_i hz
    have ex:=aIs _ hx;subst ex;exact⟨_,_,xs,rfl,.inl hh,rr,hz,fun l hl=>q1 _ _ (e1.trans (aAp hl _)) (.lst (SqL.of aAm) (aOh _))⟩
   ·exact Qg q1
  ·exact Qg q1
 | tup hh rr=>
  dsimp only[bAn] at q1
  split at q1
  ·rename_i xs hx
   split at q1
   ·rename_i hz
    have ex:=aIs _ hx;subst ex;exact⟨_,_,xs,rfl,.inr hh,rr,hz,fun l hl=>q1 _ _ (e1.trans (aAp hl _)) (.lst (SqL.of aAm) (aOh _))⟩
   ·exact Qg q1
  ·exact Qg q1
 | _=>exact Qg q1
end
theorem aGz {f g:Rho->M D}{ρ:Rho}{a b:Bool}(h1:f ρ=ok (.bl a))(h2:g ρ=ok (.bl b)):aO3 f g ρ=ok (.bl (a&&b)):=by
 unfold aO3;rw[h1];show (if a=true then g ρ else ok (.bl false))=_;cases a
 ·rfl
 ·rw[if_pos rfl,h2];rfl
theorem bI7 {f g:Rho->M D}{ρ:Rho}{a b:Bool}(h1:f ρ=ok (.bl a))(h2:g ρ=ok (.bl b)):orV f g ρ=ok (.bl (a || b)):=by
 unfold orV;rw[h1];show (if a=true then ok (.bl true) else g ρ)=_;cases a
 ·rw[if_neg (by decide),h2];rfl
 ·rfl
theorem aFt {g:D->M D}{f:Rho->M D}{ρ:Rho}{d:D}{r:M D}(h:f ρ=ok d)(h2:g d=r):f1 g f ρ=r:=by unfold f1;rw[h];exact h2
theorem aXv {ds:List D}{j:Nat}{d:D}(h:ds[j]? =some d):gIx (.tup ds) (.int (j:Int))=ok d:=by
 show (match atI ds (j:Int) with | some d=>ok d | none=>none)=_;rw[aR7 h]
theorem bQm {ds:List D}{j:Nat}{d:D}(h:ds[j]? =some d):gIx (.lst ds) (.int (j:Int))=ok d:=by
 show (match atI ds (j:Int) with | some d=>ok d | none=>none)=_;rw[aR7 h]
theorem bP3 {f g:Rho->M D}{ρ:Rho}{i j:Int}(h1:f ρ=ok (.int i))(h2:g ρ=ok (.int j))(hm:bFc i j=true):b2 aEn f g ρ=ok (.int (i*j)):=aB2 h1 h2 (by simp[aEn,bNv,hm])
theorem aD7 {G:D->Rho->Option Rho}{F:Rho->Option Out}{d:D}{ds:List D}{ρ ρ1 ρ2:Rho}(h1:G d ρ=some ρ1)(h2:F ρ1=some (.nx ρ2)):loop G F (d::ds) ρ=loop G F ds ρ2:=by
 (conv=>lhs;unfold loop)
 rw[h1]
 dsimp only
 rw[h2]
theorem bIr {z u:List Str}(hz:z.Pairwise (fun a b=>leS a b=true))(hp:z.Perm u):aGk u=z:=
 (List.Perm.eq_of_pairwise (fun a b _ _ h1 h2=>aRr a b h1 h2) (aI6 u) hz ((aD3 u).trans hp.symm))
theorem bOc (xs:List Str)(hl:xs.length<=2000):toS (.lst (xs.map D.str))=ok (.set (aDh xs)):=by
 show (match aIk (xs.map D.str) with | some xs=>if xs.length<=2000 then ok (D.set (aDh xs)) else none | none=>none)=_;rw[aH2];show (if xs.length<=2000 then ok (D.set (aDh xs)) else none)=_;rw[if_pos hl]
theorem aWx {ss:List Str}(hn:ss.Nodup)(hl:ss.length<64):bIs (.set ss)=ok (.lst ((aGk ss).map D.str)):=by
 show (if ss.length<64/\ss.Nodup then _ else _)=_;rw[if_pos ⟨hl,hn⟩]
theorem aUu {xs:List Str}(hl:xs.length<64):bAn (.lst (xs.map D.str))=ok (.lst ((aGk xs).map D.str)):=by
 show (match aIk (xs.map D.str) with | some xs=>if xs.length<64 then ok (D.lst ((aGk xs).map .str)) else none | none=>none)=_;rw[aH2];show (if xs.length<64 then _ else _)=_;rw[if_pos hl]
def SIt (b:Bool)(h:Heap)(it l:Addr)(i:Nat):Prop:=match b with
 | true=>h.IsListIter it l i
 | false=>h.IsTupleIter it l i
def SSq (b:Bool)(h:Heap)(l:Addr)(items:Array Qd):Prop:=match b with
 | true=>h.IsList l items
 | false=>h.IsTuple l items
theorem SIt.kept {b:Bool}{h h':Heap}{it l:Addr}{i:Nat}(x:SIt b h it l i)(e: ∀o,h.get? it=some o->h'.get? it=some o):SIt b h' it l i:=by
 cases b<;>(obtain⟨o,ho,r⟩:=x;exact⟨o,e o ho,r⟩)
theorem SSq.kept {b:Bool}{h h':Heap}{l:Addr}{items:Array Qd}(x:SSq b h l items)(e: ∀o,h.get? l=some o->h'.get? l=some o):SSq b h' l items:=by
 cases b<;>(obtain⟨o,ho,r⟩:=x;exact⟨o,e o ho,r⟩)
theorem SIt.obj {b:Bool}{h:Heap}{it l:Addr}{i:Nat}(x:SIt b h it l i): ∃o,h.get? it=some o/\∀v,o.data≠ .cell v:=by
 cases b<;>(obtain⟨o,ho,_,d⟩:=x;exact⟨o,ho,fun v z=>by rw[d] at z;cases z⟩)
section
variable {prog:Qx}{w:Zb}{A:Ze}{E:Qd->Qf->Prop}{s:Qf}
theorem bN8 {it t:Addr}{i:Nat}{items:Array Qd}{x:Qd}{Q:Qd->Qf->Prop}(hi:s.heap.IsTupleIter it t i)(ht:s.heap.IsTuple t items)(hx:items[i]? =some x)
  (q: ∀h',h'.IsTupleIter it t (i+1)->Z3 it s.heap h'->Q x {s with heap:=h'}):Qp (Qt prog w) A (Zk (.ref it)) Q E s:=by
 obtain⟨o,ho,hc,hd⟩:=id hi;obtain⟨ot,hot,_,nt,hdt⟩:=ht;unfold Zk;refine Qa (Zm (name:=Yz "__next__") hi.typeIs Uh (Za Uh hi.typeIs F.entry_tuple_iterator_next ?_ (F.args_tuple_iterator_next_1 _)));refine Qa (show Qp _ _ (pure (Q1 it,[])) _ _ _ from Qe ?_)
 dsimp only
 refine Qa (Z5 ho hd (x:= .ref t) rfl ?_);rw[if_neg (show ¬(Q1 t==Zn)=true from Q2)];refine Qa (Z5 ho hd (x:= .int i 0) rfl ?_);refine Qa (Jg hot hdt ?_);simp only[Zc,hx];refine Qa (wpAny_setField ho hd (by simp) (Qe ⟨x,rfl,Qe (q _ ⟨_,Yg _ ho (Obj.isFreed_of_fields (Y8 hd _)),(Obj.cls_mapFields ..).trans hc,?_⟩ (Zw ..))⟩));rw[Y8 hd];simp[Z7]
theorem bKa {it t:Addr}{i:Nat}{items:Array Qd}{Q:Qd->Qf->Prop}(hh:A.handled=none)(hi:s.heap.IsTupleIter it t i)(ht:s.heap.IsTuple t items)(hx:items[i]? =none)
  (q: ∀h' e,Heap.ExtBut it s.heap h'->(∃o,h'.get? e=some o/\o.cls= .type "StopIteration")->E (.ref e) {s with heap:=h'}):Qp (Qt prog w) A (Zk (.ref it)) Q E s:=by
 obtain⟨o,ho,hc,hd⟩:=id hi;obtain⟨ot,hot,_,nt,hdt⟩:=ht;unfold Zk;refine Qa (Zm (name:=Yz "__next__") hi.typeIs Uh (Za Uh hi.typeIs F.entry_tuple_iterator_next ?_ (F.args_tuple_iterator_next_1 _)));refine Qa (show Qp _ _ (pure (Q1 it,[])) _ _ _ from Qe ?_)
 dsimp only
 refine Qa (Z5 ho hd (x:= .ref t) rfl ?_);rw[if_neg (show ¬(Q1 t==Zn)=true from Q2)];refine Qa (Z5 ho hd (x:= .int i 0) rfl ?_);refine Qa (Jg hot hdt ?_);simp only[Zc,hx];refine Qa (wpAny_rule (Qa (wpAny_setField ho hd (by simp) ?_)));refine Qa ?_;simp only[newExc,newTuple];refine Qa (Zx ?_ (by size_fits));refine Qa (m:=firstArgMember _ _) (wpAny_of_eq (a:=Zn) (by first | rfl |(simp only[firstArgMember];rfl)) (Zx ?_ (by size_fits)));simp only[raiseNew];refine Qa (wpAny_handled ?_)
 first | rw[show A.in1.handled=none by simp[hh]] | rw[hh]
 exact Qa (Qe (wpAny_throw (q _ _ (((Zw ..).extBut.push _).push _) ⟨_,Ql _ rfl,rfl⟩)))
theorem aVj {b:Bool}{it l:Addr}{i:Nat}{items:Array Qd}{x:Qd}{Q:Qd->Qf->Prop}(hi:SIt b s.heap it l i)(hl:SSq b s.heap l items)(hx:items[i]? =some x)
  (q: ∀h',SIt b h' it l (i+1)->Z3 it s.heap h'->Q x {s with heap:=h'}):Qp (Qt prog w) A (Zk (.ref it)) Q E s:=by
 cases b
 ·exact bN8 hi hl hx q
 ·exact wpAny_nextOf_list_item hi hl hx q
theorem bI9 {b:Bool}{it l:Addr}{i:Nat}{items:Array Qd}{Q:Qd->Qf->Prop}(hh:A.handled=none)(hi:SIt b s.heap it l i)(hl:SSq b s.heap l items)(hx:items[i]? =none)
  (q: ∀h' e,Heap.ExtBut it s.heap h'->(∃o,h'.get? e=some o/\o.cls= .type "StopIteration")->E (.ref e) {s with heap:=h'}):Qp (Qt prog w) A (Zk (.ref it)) Q E s:=by
 cases b
 ·exact bKa hh hi hl hx q
 ·exact wpAny_nextOf_list_end hh hi hl hx q
end
section
variable {prog:Qx}{w:Zb}{A:Ze}{E:Qd->Qf->Prop}{s:Qf}
structure ZOk (b1 b2:Bool)(h:Heap)(z TI TO i1 i2 l1 l2:Addr)(i:Nat):Prop where
 z:IsZip h z TI TO .none
 ti:IsPair h TI (.ref i1) (.ref i2)
 to: ∃a b,IsPair h TO a b
 s1:SIt b1 h i1 l1 i
 s2:SIt b2 h i2 l2 i
theorem ZOk.kept {b1 b2:Bool}{h h':Heap}{z TI TO i1 i2 l1 l2:Addr}{i:Nat}(x:ZOk b1 b2 h z TI TO i1 i2 l1 l2 i)(e: ∀c∈[z,TI,TO,i1,i2],∀o,h.get? c=some o->h'.get? c=some o):ZOk b1 b2 h' z TI TO i1 i2 l1 l2 i:=by
 obtain⟨a,b,h1⟩:=x.to;exact⟨e z (by simp) _ x.z,e TI (by simp) _ x.ti,⟨a,b,e TO (by simp) _ h1⟩,x.s1.kept fun o q=>e i1 (by simp) o q,x.s2.kept fun o q=>e i2 (by simp) o q⟩
structure ZAp (z TI TO i1 i2 l1 l2:Addr):Prop where
 a1:TI≠z
 a2:TO≠z
 a3:i1≠z
 a4:i2≠z
 a5:TI≠TO
 a6:TI≠i1
 a7:TI≠i2
 a8:TO≠i1
 a9:TO≠i2
 a10:i1≠i2
 b1: ∀c∈[z,TO,i1,i2],l1≠c
 b2: ∀c∈[z,TO,i1,i2],l2≠c
theorem bVn {b1 b2:Bool}{z TI TO i1 i2 l1 l2:Addr}{i:Nat}{xs ys:Array Qd}{x y:Qd}{elts:List Expr}{ct:Nat}{pos:Pos}{Q:Qd->Qf->Prop}(D:ZAp z TI TO i1 i2 l1 l2)(Z:ZOk b1 b2 s.heap z TI TO i1 i2 l1 l2 i)(hl1:SSq b1 s.heap l1 xs)(hl2:SSq b2 s.heap l2 ys)(hx:xs[i]? =some x)(hy:ys[i]? =some y)
  (q: ∀h',ZOk b1 b2 h' z TI TO i1 i2 l1 l2 (i+1)->IsPair h' s.heap.objs.size x y->h'.objs.size=s.heap.objs.size+1->(∀c o,c∉[z,TO,i1,i2]->s.heap.get? c=some o->h'.get? c=some o)->Q (.ref s.heap.objs.size) {s with heap:=h'}):
  Qp (Qt prog w) A (Jx (.ref z)) (fun r s1=> ∃u,r=some u/\Qp (Qt prog w) A (letOwnedTupleGo (.Tuple elts ct pos) (.ref z) u) (fun _ s2=>Q u s2) E s1) E s:=by
 obtain⟨hz,hTI,⟨a,b,hTO⟩,h1,h2⟩:=Z;have hT:s.TypeIs (.ref z) "zip":=⟨_,hz,rfl⟩;unfold Jx;refine Qa (wpAny_attempt (Zm (name:=Yz "__next__") hT F.slot_zip_next (Za F.slot_zip_next hT F.entry_zip_next ?_ (F.args_zip_next_1 _))));refine Qa (show Qp _ _ (pure (Q1 z,[])) _ _ _ from Qe ?_)
 dsimp only
 refine Qa (Z5 hz rfl (x:= .bool false) rfl (Qa (Z5 hz rfl (x:= .ref TI) rfl (Qa (Jg hTI rfl ?_)))))
 dsimp only
 rw[if_neg (by simp)];refine Qa (show Qp _ _ (Builtin.SmallTypes.ownedTupleIsFree (.ref z)) _ _ _ from Qa (Z5 hz rfl (x:= .none) rfl (Qe ?_)));rw[if_pos rfl];refine Qa (wpAny_rule (Qa (Z5 hz rfl (x:= .ref TO) rfl ?_)))
 dsimp only
 refine Qa (Z8 hz (by simp) fun k1 zk1 sb1=>Qa ?_);have g1:IsZip k1 z TI TO .ellipsis:=zk1;simp only[List.zipIdx_cons,List.zipIdx_nil,List.forIn_cons,List.forIn_nil];have m1: ∀c o,c≠z->s.heap.get? c=some o->k1.get? c=some o:=fun c o n e=>sb1.extBut c o n e
 have nl1:=D.b1;have nl2:=D.b2;refine Qa (Qa (wpAny_onRaise (show Qp _ _ (Zk (.ref i1)>>=_) _ _ _ from Qa (aVj (h1.kept fun o e=>m1 _ o D.a3 e) (hl1.kept fun o e=>m1 _ o (nl1 z (by simp)) e) hx fun k2 t2 sb2=>Qe ?_))));have m2: ∀c o,c≠z->c≠i1->s.heap.get? c=some o->k2.get? c=some o:=fun c o n1 n2 e=>sb2.extBut c o n2 (m1 c o n1 e)
 have p2:IsPair k2 TO a b:=m2 _ _ D.a2 D.a8 hTO;refine Qa (Jg p2 rfl (Qa (wpAny_updateSeq_pair p2 fun k3 p3 sb3=>Qa (wpAny_letGo (Qe ?_)))));have p3':IsPair k3 TO x b:=p3;have m3: ∀c o,c≠z->c≠i1->c≠TO->s.heap.get? c=some o->k3.get? c=some o:=fun c o n1 n2 n3 e=>sb3.extBut c o n3 (m2 c o n1 n2 e)
 refine Qa (Qa (wpAny_onRaise (show Qp _ _ (Zk (.ref i2)>>=_) _ _ _ from Qa (aVj (h2.kept fun o e=>m3 _ o D.a4 (Ne.symm D.a10) (Ne.symm D.a9) e) (hl2.kept fun o e=>m3 _ o (nl2 z (by simp)) (nl2 i1 (by simp)) (nl2 TO (by simp)) e) hy fun k4 t4 sb4=>Qe ?_))));have p4:IsPair k4 TO x b:=sb4.extBut _ _ D.a9 p3';refine Qa (Jg p4 rfl (Qa (wpAny_updateSeq_pair p4 fun k5 p5 sb5=>Qa (wpAny_letGo (Qe (Qe ?_))))));have p5':IsPair k5 TO x y:=p5;refine Qa (Jg p5' rfl (Qa (wpAny_newTuple ?_)));have sz:k5.objs.size=s.heap.objs.size:=by rw[sb5.1,sb4.1,sb3.1,sb2.1,sb1.1]
 have m5: ∀c o,c∉[z,TO,i1,i2]->s.heap.get? c=some o->k5.get? c=some o:=fun c o n e=>by
  simp only[Zt,Zf,or_false,not_or] at n;exact sb5.extBut c o n.2.1 (sb4.extBut c o n.2.2.2 (m3 c o n.1 n.2.2.1 n.2.1 e))
 have z5:IsZip k5 z TI TO .ellipsis:=sb5.extBut _ _ (Ne.symm D.a2) (sb4.extBut _ _ (Ne.symm D.a4) (sb3.extBut _ _ (Ne.symm D.a2) (sb2.extBut _ _ (Ne.symm D.a3) g1)));have t1':SIt b1 k5 i1 l1 (i+1):=t2.kept fun o e=>sb5.extBut _ _ (Ne.symm D.a8) (sb4.extBut _ _ D.a10 (sb3.extBut _ _ (Ne.symm D.a8) e))
 have t2':SIt b2 k5 i2 l2 (i+1):=t4.kept fun o e=>sb5.extBut _ _ (Ne.symm D.a9) e
 have ti5:IsPair k5 TI (.ref i1) (.ref i2):=m5 _ _ (by simp[D.a1,D.a5,D.a6,D.a7]) hTI;have hzlt:z<k5.objs.size:=Qn z5;refine Qa (show Qp _ _ (Builtin.SmallTypes.ownedTupleHandOut (.ref z) (.ref k5.objs.size)) _ _ _ from ?_);unfold Builtin.SmallTypes.ownedTupleHandOut
 dsimp only
 have z6:IsZip (k5.push {cls:= .type "tuple",data:= .seq #[x,y]}) z TI TO .ellipsis:=Qb _ z5;refine Qa (Z8 z6 (by simp) fun k7 zk7 sb7=> ?_);have z7:IsZip k7 z TI TO (Z7 k5.objs.size):=zk7;refine Z8 z7 (by simp) fun k8 zk8 sb8=> ?_
 have z8:IsZip k8 z TI TO (Z7 k5.objs.size):=zk8;refine Qe ⟨_,rfl,Qe ⟨_,rfl,?_⟩⟩;refine wpAny_letOwnedTupleGo_zip z8 fun k9 z9 sb9=> ?_
 have up: ∀c o,c≠z->(k5.push {cls:= .type "tuple",data:= .seq #[x,y]}).get? c=some o->k9.get? c=some o:=fun c o n e=>sb9.extBut c o n (sb8.extBut c o n (sb7.extBut c o n e))
 have up5: ∀c o,c≠z->k5.get? c=some o->k9.get? c=some o:=fun c o n e=>up c o n (Qb _ e)
 have sz9:k9.objs.size=s.heap.objs.size+1:=by
  have e8:k8.objs.size=k7.objs.size:=sb8.1;have e9:k9.objs.size=k8.objs.size:=sb9.1;have e7:k7.objs.size=(k5.push {cls:= .type "tuple",data:= .seq #[x,y]}).objs.size:=sb7.1;rw[e9,e8,e7,Z2,sz]
 have pr:IsPair k9 k5.objs.size x y:=up _ _ (Yc hzlt) (Ql _ rfl);rw[sz] at pr;show Q (.ref k5.objs.size) _;rw[sz];refine q k9 ⟨z9,up5 _ _ D.a1 ti5,⟨_,_,up5 _ _ D.a2 p5'⟩,t1'.kept fun o e=>up5 _ o D.a3 e,t2'.kept fun o e=>up5 _ o D.a4 e⟩ pr sz9 fun c o n e=> ?_
 have n':=n;simp only[Zt,Zf,or_false,not_or] at n';exact up5 c o n'.1 (m5 c o n e)
theorem z_end {b1 b2:Bool}{z TI TO i1 i2 l1 l2:Addr}{i:Nat}{xs ys:Array Qd}{Q:Option Qd->Qf->Prop}(hh:A.handled=none)(D:ZAp z TI TO i1 i2 l1 l2)(Z:ZOk b1 b2 s.heap z TI TO i1 i2 l1 l2 i)(hl1:SSq b1 s.heap l1 xs)(hl2:SSq b2 s.heap l2 ys)(he:xs[i]? =none\/ys[i]? =none)
  (q: ∀h',(∀c o,c∉[z,TO,i1,i2]->s.heap.get? c=some o->h'.get? c=some o)->Q none {s with heap:=h'}):Qp (Qt prog w) A (Jx (.ref z)) Q E s:=by
 obtain⟨hz,hTI,⟨a,b,hTO⟩,h1,h2⟩:=Z;have hT:s.TypeIs (.ref z) "zip":=⟨_,hz,rfl⟩;unfold Jx;have fin: ∀(k:Heap) (e:Addr),(∀c o,c∉[z,TO,i1,i2]->s.heap.get? c=some o->k.get? c=some o)->(∃o,k.get? e=some o/\o.cls= .type "StopIteration")->Qp (Qt prog w) A (do if<-isInstance (.ref e) (.type "StopIteration") then pure none else throw (.ref e)) Q E {s with heap:=k}:=fun k e kp ⟨o,ho,hc⟩=>
  Qa (wpAny_isInstance (T:="StopIteration") (b:=true) ⟨o,ho,hc⟩ isSubtype_stop (Qe (q k kp)))
 refine Qa (wpAny_attempt (Zm (name:=Yz "__next__") hT F.slot_zip_next (Za F.slot_zip_next hT F.entry_zip_next ?_ (F.args_zip_next_1 _))));refine Qa (show Qp _ _ (pure (Q1 z,[])) _ _ _ from Qe ?_)
 dsimp only
 refine Qa (Z5 hz rfl (x:= .bool false) rfl (Qa (Z5 hz rfl (x:= .ref TI) rfl (Qa (Jg hTI rfl ?_)))))
 dsimp only
 rw[if_neg (by simp)];refine Qa (show Qp _ _ (Builtin.SmallTypes.ownedTupleIsFree (.ref z)) _ _ _ from Qa (Z5 hz rfl (x:= .none) rfl (Qe ?_)));rw[if_pos rfl];refine Qa (wpAny_rule (Qa (Z5 hz rfl (x:= .ref TO) rfl ?_)))
 dsimp only
 refine Qa (Z8 hz (by simp) fun k1 zk1 sb1=>Qa ?_);have g1:IsZip k1 z TI TO .ellipsis:=zk1;simp only[List.zipIdx_cons,List.zipIdx_nil,List.forIn_cons,List.forIn_nil];have m1: ∀c o,c≠z->s.heap.get? c=some o->k1.get? c=some o:=fun c o n e=>sb1.extBut c o n e
 have nl1:=D.b1;have nl2:=D.b2;have hin:A.in1.handled=none:=by simp[hh]
 cases hx:xs[i]? with
 | none=>
  refine Qa (Qa (wpAny_onRaise (show Qp _ _ (Zk (.ref i1)>>=_) _ _ _ from Qa (bI9 hin (h1.kept fun o e=>m1 _ o D.a3 e) (hl1.kept fun o e=>m1 _ o (nl1 z (by simp)) e) hx fun k2 ea eb hst=> ?_))));obtain⟨oe,hoe,hce⟩:=hst;have z2:IsZip k2 z TI TO .ellipsis:=eb _ _ (Ne.symm D.a3) g1;have nz:ea≠z:=fun e=>by subst e;rw[z2] at hoe;cases hoe;simp at hce
  refine Z8 z2 (by simp) fun k3 _ sb3=>fin k3 ea (fun c o n e=> ?_) ⟨oe,sb3.extBut _ _ nz hoe,hce⟩
  simp only[Zt,Zf,or_false,not_or] at n;exact sb3.extBut c o n.1 (eb c o n.2.2.1 (m1 c o n.1 e))
 | some x=>
  have hy:ys[i]? =none:=he.resolve_left (by rw[hx];simp);refine Qa (Qa (wpAny_onRaise (show Qp _ _ (Zk (.ref i1)>>=_) _ _ _ from Qa (aVj (h1.kept fun o e=>m1 _ o D.a3 e) (hl1.kept fun o e=>m1 _ o (nl1 z (by simp)) e) hx fun k2 t2 sb2=>Qe ?_))));have m2: ∀c o,c≠z->c≠i1->s.heap.get? c=some o->k2.get? c=some o:=fun c o n1 n2 e=>sb2.extBut c o n2 (m1 c o n1 e)
  have p2:IsPair k2 TO a b:=m2 _ _ D.a2 D.a8 hTO;refine Qa (Jg p2 rfl (Qa (wpAny_updateSeq_pair p2 fun k3 p3 sb3=>Qa (wpAny_letGo (Qe ?_)))));have m3: ∀c o,c≠z->c≠i1->c≠TO->s.heap.get? c=some o->k3.get? c=some o:=fun c o n1 n2 n3 e=>sb3.extBut c o n3 (m2 c o n1 n2 e)
  refine Qa (Qa (wpAny_onRaise (show Qp _ _ (Zk (.ref i2)>>=_) _ _ _ from Qa (bI9 hin (h2.kept fun o e=>m3 _ o D.a4 (Ne.symm D.a10) (Ne.symm D.a9) e) (hl2.kept fun o e=>m3 _ o (nl2 z (by simp)) (nl2 i1 (by simp)) (nl2 TO (by simp)) e) hy fun k4 ea eb hst=> ?_))));obtain⟨oe,hoe,hce⟩:=hst;have z4:IsZip k4 z TI TO .ellipsis:=eb _ _ (Ne.symm D.a4) (sb3.extBut _ _ (Ne.symm D.a2) (sb2.extBut _ _ (Ne.symm D.a3) g1));have nz:ea≠z:=fun e=>by subst e;rw[z4] at hoe;cases hoe;simp at hce
  refine Z8 z4 (by simp) fun k5 _ sb5=>fin k5 ea (fun c o n e=> ?_) ⟨oe,sb5.extBut _ _ nz hoe,hce⟩
  simp only[Zt,Zf,or_false,not_or] at n;exact sb5.extBut c o n.1 (eb c o n.2.2.2 (m3 c o n.1 n.2.2.1 n.2.1 e))
end
section
variable {X:Cx}{pins:List (Addr×Obj)}{σ:List (Option V)}{H:Hp}{s:Qf}{h':Heap}
theorem aTr {t':Nat}{fp:List Addr}(I:Inv X pins σ H s)(k: ∀b o,b∉fp->s.heap.get? b=some o->h'.get? b=some o)(hf: ∀b∈fp,bFi X pins H b):Inv X pins σ H {s with heap:=h',toks:=t'}:=by
 have nit: ∀b u,H b=some u->b∉fp:=fun b u e z=>by rw[(hf b z).1] at e;cases e
 refine I.step (g':=s.gens) (d':=s.drawn) (ch:=fp) (fun b hb=> ?_) (fun b o _ _ hc e _=>k b o hc e) (fun b o _ _ hc e _=>⟨o.slots,k b o hc e⟩) (fun _ _ _ _ n=>n)
  (fun b o hc e=>⟨o,k b o hc e⟩) (fun _ _ e=>e) (fun _ _ _ e=>e) (fun b ps e=>⟨#[],by rw[e];simp⟩) (fun m hm=> ?_) (fun b u e=> ?_) I.bare
 ·obtain⟨f0,f1,f2,f3,f4,f5⟩:=hf b hb
  exact⟨f3,f1,f4,f5⟩
 ·obtain⟨o,es,ep,ho,r⟩:=hm
  exact⟨o,es,ep,k _ o (fun z=>(hf _ z).2.1 rfl) ho,r⟩
 ·refine (I.hok b u e).stay (fun c v hc q=>k c v ?_ q) (fun _ q=>q) fun _ _ q=>q
  rcases hc with z | z
  ·rw[z];exact nit b u e
  ·exact nit c _ z
end
def SqB (K:Qc)(b:Bool)(H:Hp)(a:Addr)(xs:List V):Prop:=match b with
 | true=>SqL K H a xs
 | false=>SqT K H a xs
theorem SqB.mono {K:Qc}{b:Bool}{H H':Hp}{a:Addr}{xs:List V}(e:Same H H')(h:SqB K b H a xs):SqB K b H' a xs:=by
 cases b
 ·exact SqT.mono e h
 ·exact e.seq h
section
variable {X:Cx}{pins:List (Addr×Obj)}{σ:List (Option V)}{H:Hp}{s:Qf}
theorem aKz {b:Bool}{a:Addr}{xs:List V}(I:Inv X pins σ H s)(h:SqB X.K b H a xs): ∃its:List Qd,Vals xs its/\SSq b s.heap a its.toArray:=by
 cases b
 ·obtain⟨its,r,⟨o,e1,e2,n,e3⟩,_⟩:=I.tuple h
  exact⟨its,r,⟨o,e1,e2,n,e3⟩⟩
 ·obtain⟨its,r,p,_⟩:=I.list h
  exact⟨its,r,p.isList⟩
theorem aOj {b:Bool}{a:Addr}{xs ys:List V}(I:Inv X pins σ H s)(h1:SqB X.K b H a xs)(h2:SqB X.K b H a ys):xs=ys:=by
 cases b
 ·exact I.aSl h1 h2
 ·exact I.aXt h1 h2
end
def Itz (K:Qc)(b1 b2:Bool)(l1 l2:Addr):It:=
 ⟨fun i H=> ∃xs ys v u,SqB K b1 H l1 xs/\SqB K b2 H l2 ys/\xs[i]? =some v/\ys[i]? =some u,
  fun i H x H'=> ∃p v u,x= .ref p/\H p=none/\H'=upd H p (.tup [v,u])/\(∀xs,SqB K b1 H l1 xs->xs[i]? =some v)/\∀ys,SqB K b2 H l2 ys->ys[i]? =some u,
  fun i H=> ∃xs ys,SqB K b1 H l1 xs/\SqB K b2 H l2 ys/\(xs.length<=i\/ys.length<=i)⟩
theorem bFo {P:Qx}{w:Zb}{K:Qc}{elts:List Expr}{ct:Nat}{pos:Pos}{b1 b2:Bool}{z TI TO i1 i2 l1 l2:Addr}(D:ZAp z TI TO i1 i2 l1 l2):Turn P w K (.Tuple elts ct pos) (Itz K b1 b2 l1 l2) [z,TI,TO,i1,i2] z (fun i h=>ZOk b1 b2 h z TI TO i1 i2 l1 l2 i) where
 mem:=by simp
 obj:=fun i h st b hb=>by
  simp only[Zt,Zf,or_false] at hb;rcases hb with rfl | rfl | rfl | rfl | rfl
  ·exact⟨_,st.z,fun v q=>by cases q⟩
  ·exact⟨_,st.ti,fun v q=>by cases q⟩
  ·obtain⟨a,b,h1⟩:=st.to
   exact⟨_,h1,fun v q=>by cases q⟩
  ·exact st.s1.obj
  ·exact st.s2.obj
 keep:=fun i h h' st k=>st.kept fun c hc o e=>k c hc o e
 item:=by
  intro X hP hw hK hc i pins s σ H E I hf st hg;subst hP hw hK;obtain⟨xs,ys,v,u,q1,q2,e1,e2⟩:=hg;obtain⟨its,r1,s1⟩:=aKz I q1;obtain⟨jts,r2,s2⟩:=aKz I q2;obtain⟨x,hx,rx⟩:=r1.get e1;obtain⟨y,hy,ry⟩:=r2.get e2;have fin:=bVn (prog:=X.prog) (w:=X.w) (A:=X.A) (E:=E) (elts:=elts) (ct:=ct) (pos:=pos) (x:=x) (y:=y) (Q:=fun uu s2=> ∃x' H',Inv X pins σ H' s2/\RelV x' uu/\(Itz X.K b1 b2 l1 l2).yld i H x' H'/\ZOk b1 b2 s2.heap z TI TO i1 i2 l1 l2 (i+1)/\∀b∈[z,TI,TO,i1,i2],H' b=none) D st s1 s2 (by simpa using hx) (by simpa using hy) (fun h' Z' pr sz kp=> ?_)
  ·refine Y1 fin (fun r s3 ⟨uu,er,h3⟩=>⟨uu,er,h3⟩) (fun _ _ q=>q)
  ·have hp:H s.heap.objs.size=none:=I.hok.fresh (Qo _)
   have I1:Inv X pins σ (upd H s.heap.objs.size (.tup [v,u])) {s with heap:=s.heap.push {cls:= .type "tuple",data:= .seq #[x,y]},toks:=s.toks}:=
    I.laid (fun b o e=>Qb _ e) (Qo _) (show aBn X.prog X.w _ _ _ (.tup _) from⟨by rw[Z6];simp,[x,y],.cons rx (.cons ry .nil),_,Ql _ rfl,rfl,⟨0,rfl⟩,rfl⟩)
   have lt: ∀b∈[z,TI,TO,i1,i2],b<s.heap.objs.size:=fun b hb=>by
    simp only[Zt,Zf,or_false] at hb;rcases hb with rfl | rfl | rfl | rfl | rfl
    ·exact Qn st.z
    ·exact Qn st.ti
    ·obtain⟨a,b,h1⟩:=st.to
     exact Qn h1
    ·obtain⟨o,ho,_⟩:=st.s1.obj
     exact Qn ho
    ·obtain⟨o,ho,_⟩:=st.s2.obj
     exact Qn ho
   have hn: ∀b∈[z,TI,TO,i1,i2],upd H s.heap.objs.size (.tup [v,u]) b=none:=fun b hb=>by
    rw[aAo (Qz (lt b hb))];exact (hf b hb).1
   have I2:Inv X pins σ (upd H s.heap.objs.size (.tup [v,u])) {s with heap:=h',toks:=s.toks}:=aTr (s:={s with heap:=s.heap.push {cls:= .type "tuple",data:= .seq #[x,y]},toks:=s.toks}) (fp:=[z,TI,TO,i1,i2]) I1 (fun b o nb e=> ?_) (fun b hb=>⟨hn b hb,(hf b hb).2⟩)
   ·refine⟨.ref s.heap.objs.size,_,I2,rfl,⟨_,v,u,rfl,hp,rfl,fun xs' q=>by rw[aOj I q q1];exact e1,fun ys' q=>by rw[aOj I q q2];exact e2⟩,Z',hn⟩
   ·by_cases eb:b=s.heap.objs.size
    ·subst eb
     have e':(s.heap.push {cls:= .type "tuple",data:= .seq #[x,y]}).get? s.heap.objs.size=some {cls:= .type "tuple",data:= .seq #[x,y]}:=Ql _ rfl;have e2':(s.heap.push {cls:= .type "tuple",data:= .seq #[x,y]}).get? s.heap.objs.size=some o:=e;rw[e'] at e2';cases e2';exact pr
    ·have e':(s.heap.push {cls:= .type "tuple",data:= .seq #[x,y]}).get? b=some o:=e
     rw[Heap.get?_push_ne _ _ _ eb] at e';refine kp b o (fun q=>nb ?_) e';simp only[Zt,Zf,or_false] at q⊢;rcases q with q | q | q | q<;>simp[q]
 done:=by
  intro X hP hw hK hc i pins s σ H E I hf st hg;subst hP hw hK;obtain⟨xs,ys,q1,q2,e⟩:=hg;obtain⟨its,r1,s1⟩:=aKz I q1;obtain⟨jts,r2,s2⟩:=aKz I q2;have l1:=r1.length;have l2:=r2.length;refine z_end (I.ok.hd hc) D st s1 s2 (by rcases e with e | e;(left;simp;omega);(right;simp;omega)) fun h' kp=>⟨rfl,aTr (t':=s.toks) (fp:=[z,TI,TO,i1,i2]) I (fun b o nb e=>kp b o (fun q=>nb ?_) e) hf⟩
  simp only[Zt,Zf,or_false] at q⊢;rcases q with q | q | q | q<;>simp[q]
 self:=fun _ _ _ _ _ st h=>wpAny_pyIter_zip st.z h
def aWk:List D->List D->List D
 | a::as,b::bs=> .tup [a,b]::aWk as bs
 | _,_=> []
theorem aQo: ∀(as bs:List D),(aWk as bs).length=min as.length bs.length
 | [],_=>by simp[aWk]
 | _::_,[]=>by simp[aWk]
 | a::as,b::bs=>by rw[aWk,Qk,aQo as bs,Qk,Qk];omega
theorem aWj: ∀(as bs:List D) (i:Nat) (a b:D),as[i]? =some a->bs[i]? =some b->(aWk as bs)[i]? =some (.tup [a,b])
 | [],_,_,_,_,h,_=>by simp at h
 | _::_,[],_,_,_,_,h=>by simp at h
 | a::as,b::bs,0,x,y,h1,h2=>by simp at h1 h2;subst h1 h2;rfl
 | a::as,b::bs,i+1,x,y,h1,h2=>by
  rw[aWk,Jf];exact aWj as bs i x y (by simpa using h1) (by simpa using h2)
theorem bMn {K:Qc}{b1 b2:Bool}{l1 l2:Addr}{as bs:List D}{xs ys:List V}{B:Hp}(h1:SqB K b1 B l1 xs)(h2:SqB K b2 B l2 ys)(r1:IsL K B as xs)(r2:IsL K B bs ys):ItD K (Itz K b1 b2 l1 l2) (aWk as bs) B where
 go:=fun j H e q=>by
  rw[aQo] at q;have q1:j<xs.length:=by rw[<-r1.length];omega
  have q2:j<ys.length:=by rw[<-r2.length];omega
  exact⟨xs,ys,xs[j],ys[j],h1.mono e,h2.mono e,Qj q1,Qj q2⟩
 yld:=fun j H x H' e y q=>by
  obtain⟨p,v,u,rfl,hp,rfl,y1,y2⟩:=y;obtain⟨a,a1,a2⟩:=r1.bQ7 (y1 xs (h1.mono e));obtain⟨b,b1',b2'⟩:=r2.bQ7 (y2 ys (h2.mono e));have s1:Same H (upd H p (.tup [v,u])):=aAp hp _;exact⟨s1,.tup [a,b],aWj as bs j a b a1 b1',.tup (TQ.of aAm) (.cons (a2.mono (e.trans s1)) (.cons (b2'.mono (e.trans s1)) .nil))⟩
 stop:=fun j H e q=>by
  rw[aQo] at q;refine⟨xs,ys,h1.mono e,h2.mono e,?_⟩;rw[<-r1.length,<-r2.length];omega
def aBs (b:Bool)(l:Addr):Obj:=match b with
 | true=>{cls:= .type "list_iterator",data:= .fields #[.ref l,.int 0 0]}
 | false=>{cls:= .type "tuple_iterator",data:= .fields #[.ref l,.int 0 0]}
section
variable {prog:Qx}{w:Zb}{A:Ze}{E:Qd->Qf->Prop}{s:Qf}
theorem aXw {b:Bool}{l:Addr}{items:Array Qd}{Q:Qd->Qf->Prop}(hl:SSq b s.heap l items)(q:Q (.ref s.heap.objs.size) {s with heap:=s.heap.push (aBs b l)}):Qp (Qt prog w) A (pyIter (.ref l)) Q E s:=by
 cases b
 ·exact wpAny_pyIter_tuple hl q
 ·exact wpAny_pyIter_list hl q
theorem aXx {b:Bool}{h:Heap}{it l:Addr}(e:h.get? it=some (aBs b l)):SIt b h it l 0:=by
 cases b
 ·exact⟨_,e,rfl,rfl⟩
 ·exact⟨_,e,rfl,rfl⟩
theorem aOg (b:Bool)(l:Addr):(aBs b l).isFreed=false:=by cases b<;>rfl
end
abbrev zk5 (b1 b2:Bool)(h:Heap)(l1 l2:Addr):Heap:=
 ((((h.push (aBs b1 l1)).push (aBs b2 l2)).push {cls:= .type "tuple",data:= .seq #[.ref h.objs.size,.ref (h.push (aBs b1 l1)).objs.size]}).push {cls:= .type "tuple",data:= .seq #[.none,.none]}).push
  {cls:= .type "zip",data:= .fields #[.none,.bool false,.bool false,.ref ((h.push (aBs b1 l1)).push (aBs b2 l2)).objs.size,.ref (((h.push (aBs b1 l1)).push (aBs b2 l2)).push {cls:= .type "tuple",data:= .seq #[.ref h.objs.size,.ref (h.push (aBs b1 l1)).objs.size]}).objs.size]}
theorem aQn (b1 b2:Bool)(l1 l2:Addr)(xs ys:Array Qd):
  Meets (Builtin.«zip.__new__» ⟨[.type "zip",.ref l1,.ref l2],[]⟩) (fun _ R s=>SSq b1 s.heap l1 xs/\SSq b2 s.heap l2 ys/\
   R (.ok (.ret (.ref (s.heap.objs.size+4)))) {s with heap:=zk5 b1 b2 s.heap l1 l2}):=
 .of_wp fun prog w A R s h=>by
  obtain⟨hp,g,d,tk,os⟩:=s;obtain⟨hl1,hl2,h⟩:=h;have hsub:=sub_zip;have k1:SSq b1 (Shared.heap ⟨hp,g,d,tk,os⟩) l1 xs:=hl1;have k2:SSq b2 (Shared.heap ⟨hp.push (aBs b1 l1),g,d,tk,os⟩) l2 ys:=hl2.kept fun o e=>Qb _ e
  wp_walk using aXw k1,aXw k2
  refine⟨_,rfl,?_⟩;have e:((((hp.push (aBs b1 l1)).push (aBs b2 l2)).push {cls:= .type "tuple",data:= .seq #[.ref hp.objs.size,.ref (hp.push (aBs b1 l1)).objs.size]}).push {cls:= .type "tuple",data:= .seq #[.none,.none]}).objs.size=hp.objs.size+4:=by
   rw[Z2,Z2,Z2,Z2]
  have h':=h;rw[<-e] at h';exact h'
section
variable {prog:Qx}{w:Zb}{A:Ze}{E:Qd->Qf->Prop}{s:Qf}
theorem bH3 {b1 b2:Bool}{l1 l2:Addr}{xs ys:Array Qd}{Q:Qd->Qf->Prop}(hl1:SSq b1 s.heap l1 xs)(hl2:SSq b2 s.heap l2 ys)
  (q: ∀h',ZOk b1 b2 h' (s.heap.objs.size+4) (s.heap.objs.size+2) (s.heap.objs.size+3) s.heap.objs.size (s.heap.objs.size+1) l1 l2 0->(∀c o,s.heap.get? c=some o->h'.get? c=some o)->Q (.ref (s.heap.objs.size+4)) {s with heap:=h'}):
  Qp (Qt prog w) A (call (.type "zip") [.ref l1,.ref l2]) Q E s:=by
 refine callType_new F.called_zip (by decide) (F.typeCall_zip_2 _ _) (F.newCall_zip_2 _ _) (fun obj=>F.args_object_init_3 obj _ _) F.entry_zip_new (aQn b1 b2 l1 l2 xs ys) ⟨hl1,hl2,?_⟩;show _/\_;unfold zk5;have n1:(s.heap.push (aBs b1 l1)).objs.size=s.heap.objs.size+1:=Z2 ..;have n2:((s.heap.push (aBs b1 l1)).push (aBs b2 l2)).objs.size=s.heap.objs.size+2:=by rw[Z2,n1]
 generalize hT:({cls:= .type "tuple",data:= .seq #[.ref s.heap.objs.size,.ref (s.heap.push (aBs b1 l1)).objs.size]}:Obj)=T1;have n3:(((s.heap.push (aBs b1 l1)).push (aBs b2 l2)).push T1).objs.size=s.heap.objs.size+3:=by rw[Z2,n2]
 generalize hO:({cls:= .type "tuple",data:= .seq #[.none,.none]}:Obj)=T2;have n4:((((s.heap.push (aBs b1 l1)).push (aBs b2 l2)).push T1).push T2).objs.size=s.heap.objs.size+4:=by rw[Z2,n3]
 have fT:T1.isFreed=false:=by rw[<-hT];rfl
 have fO:T2.isFreed=false:=by rw[<-hO];rfl
 rw[n2,n3];generalize hZ:({cls:= .type "zip",data:= .fields #[.none,.bool false,.bool false,.ref (s.heap.objs.size+2),.ref (s.heap.objs.size+3)]}:Obj)=Z;have fZ:Z.isFreed=false:=by rw[<-hZ];rfl
 have up: ∀{h:Heap} {c:Addr} {o o':Obj},h.get? c=some o->(h.push o').get? c=some o:=fun e=>Qb _ e
 have g1:(s.heap.push (aBs b1 l1)).get? s.heap.objs.size=some (aBs b1 l1):=Ql _ (aOg b1 l1);have g2:((s.heap.push (aBs b1 l1)).push (aBs b2 l2)).get? (s.heap.objs.size+1)=some (aBs b2 l2):=by rw[<-n1];exact Ql _ (aOg b2 l2)
 have g3:(((s.heap.push (aBs b1 l1)).push (aBs b2 l2)).push T1).get? (s.heap.objs.size+2)=some T1:=by rw[<-n2];exact Ql _ fT
 have g4:((((s.heap.push (aBs b1 l1)).push (aBs b2 l2)).push T1).push T2).get? (s.heap.objs.size+3)=some T2:=by rw[<-n3];exact Ql _ fO
 have g5:(((((s.heap.push (aBs b1 l1)).push (aBs b2 l2)).push T1).push T2).push Z).get? (s.heap.objs.size+4)=some Z:=by rw[<-n4];exact Ql _ fZ
 have z5:IsZip (((((s.heap.push (aBs b1 l1)).push (aBs b2 l2)).push T1).push T2).push Z) (s.heap.objs.size+4) (s.heap.objs.size+2) (s.heap.objs.size+3) .none:=by rw[<-hZ] at g5⊢;exact g5
 have t1:IsPair (((((s.heap.push (aBs b1 l1)).push (aBs b2 l2)).push T1).push T2).push Z) (s.heap.objs.size+2) (.ref s.heap.objs.size) (.ref (s.heap.objs.size+1)):=by
  have:=up (o':=Z) (up (o':=T2) g3);rw[<-hT,n1] at this;rw[<-hT,n1];exact this
 have t2:IsPair (((((s.heap.push (aBs b1 l1)).push (aBs b2 l2)).push T1).push T2).push Z) (s.heap.objs.size+3) .none .none:=by
  have:=up (o':=Z) g4;rw[<-hO] at this⊢;exact this
 have zo:ZOk b1 b2 (((((s.heap.push (aBs b1 l1)).push (aBs b2 l2)).push T1).push T2).push Z) (s.heap.objs.size+4) (s.heap.objs.size+2) (s.heap.objs.size+3) s.heap.objs.size (s.heap.objs.size+1) l1 l2 0:=
  ⟨z5,t1,⟨_,_,t2⟩,aXx (up (up (up (up g1)))),aXx (up (up (up g2)))⟩
 exact⟨⟨_,g5,by rw[<-hZ]⟩,q _ zo fun c o e=>up (up (up (up (up e))))⟩
end
section
variable {X:Cx}{B:Hp}{a b:Expr}{fa fb:Rho->M D}{pos p:Pos}{elts:List Expr}{ct:Nat}{tp:Pos}
def itZ (fa fb:Rho->M D):Rho->M (List D):=fun ρ=>bnd (aAa fa (aAa fb aAg) ρ) fun ds=>match ds with
 | [x,y]=>bnd (itD x) fun as=>bnd (itD y) fun bs=>ok (aWk as bs)
 | _=>none
theorem bN2 {n l1 l2:Nat}(h1:l1<n)(h2:l2<n):ZAp (n+4) (n+2) (n+3) n (n+1) l1 l2:=by
 have g: ∀c∈[n+4,n+3,n,n+1],n<=c:=fun c hc=>by
  simp only[Zt,Zf,or_false] at hc;rcases hc with rfl | rfl | rfl | rfl<;>first | exact Qo _ | exact Nat.le_add_right _ _
 have e: ∀{a b:Nat},a<b->a≠b:=fun h=>Qz h
 have e': ∀{a b:Nat},b<a->a≠b:=fun h=>Yc h
 exact⟨e (by omega),e (by omega),e (by omega),e (by omega),e (by omega),e' (by omega),e' (by omega),e' (by omega),e' (by omega),e (by omega),fun c hc=>e (Q3 h1 (g c hc)),fun c hc=>e (Q3 h2 (g c hc))⟩
theorem boot_zip:Jn "zip"=some (.type "zip"):=by decide+kernel
theorem bIx {K:Qc}{H:Hp}{d:D}{v:V}{ds:List D}(i:Is K H d v)(h:itD d=ok ds): ∃(k:Bool) (l:Addr) (vs:List V),v= .ref l/\SqB K k H l vs/\IsL K H ds vs:=by
 cases i with
 | lst hh rr=>cases h;exact⟨true,_,_,rfl,hh,rr⟩
 | tup hh rr=>cases h;exact⟨false,_,_,rfl,hh.sq,rr⟩
 | _=>cases h
theorem bB2 (hg:Gl X "zip")(hm:X.mg "zip"=none)(ha:PD X B a fa)(hb:PD X B b fb)(hs:aBu a=true:=by rfl)(hs2:aBu b=true:=by rfl):PIt X B (.Tuple elts ct tp) (.Call (.Name "zip" p) [a,b] [] pos) (itZ fa fb):=by
 intro pins s σ H R ρ I r q;have st1:Zi [a,b] X.env=[(false,eval a X.env),(false,eval b X.env)]:=by rw[aAv hs,aLy hs2]
 refine Call_ (aP9 I hg hm boot_zip (Uo (thn (aAc ha (aAc hb aAi (aAv hs2)) (aAv hs) pos pins s σ H (fun vs H1=> ∃ds,IsL X.K H1 ds vs/\Same H H1/\Res X σ H1 (fun es=> ∀J H2,Same H H2->ItD X.K J es H2->R J H2) (match ds with | [x,y]=>bnd (itD x) fun as=>bnd (itD y) fun bs=>ok (aWk as bs) | _=>none)) I ⟨ρ,r,(Res.bind q).imp fun ds q1 vs H1 e1 i1=>⟨ds,i1,e1,q1.mono e1 fun _ z=>z⟩⟩) fun us s1 ⟨vs,H1,I1,r1,ds,i1,e1,q1⟩=> ?_) (by rw[st1,aLy hs2]) (by rw[aLy hs2];rfl)));split at q1
 ·rename_i x y
  cases i1 with
  | cons ix i1=>
   cases i1 with
   | cons iy i1=>
    cases i1;have qx:=Res.bind q1;cases hx:itD x with
    | none=>rw[hx] at qx;exact Qg qx
    | some z=>
     cases z with
     | error c=>cases x<;>cases hx
     | ok as=>
      rw[hx] at qx;have qy:=Res.bind (show Res X σ H1 _ (bnd (itD y) fun bs=>ok (aWk as bs)) from qx);cases hy:itD y with
      | none=>rw[hy] at qy;exact Qg qy
      | some z=>
       cases z with
       | error c=>cases y<;>cases hy
       | ok bs=>
        rw[hy] at qy;obtain⟨k1,l1,xs,rfl,s1',r1'⟩:=bIx ix hx;obtain⟨k2,l2,ys,rfl,s2',r2'⟩:=bIx iy hy;cases r1 with
        | cons rx rr=>
         cases rr with
         | cons ry rr=>
          cases rr;cases rx;cases ry;obtain⟨its,v1,t1⟩:=aKz I1 s1';obtain⟨jts,v2,t2⟩:=aKz I1 s2';refine bH3 t1 t2 fun h' Z kp=> ?_
          refine wpAny_pyIter_zip Z.z ?_;have I2:Inv X pins σ H1 {s1 with heap:=h'}:=I1.kept (t':=s1.toks) fun b o e=>kp b o e
          have lt1:l1<s1.heap.objs.size:=by cases k1<;>(obtain⟨o,ho,_⟩:=t1;exact Qn ho)
          have lt2:l2<s1.heap.objs.size:=by cases k2<;>(obtain⟨o,ho,_⟩:=t2;exact Qn ho)
          have ap:ZAp (s1.heap.objs.size+4) (s1.heap.objs.size+2) (s1.heap.objs.size+3) s1.heap.objs.size (s1.heap.objs.size+1) l1 l2:=by
           exact bN2 lt1 lt2
          refine⟨s1.heap.objs.size+4,[s1.heap.objs.size+4,s1.heap.objs.size+2,s1.heap.objs.size+3,s1.heap.objs.size,s1.heap.objs.size+1],_,_,H1,rfl,I2,bFo ap,Z,fun b hb=> ?_,qy _ H1 e1 (bMn s1' s2' r1' r2')⟩;have hb':s1.heap.objs.size<=b:=by
           simp only[Zt,Zf,or_false] at hb;rcases hb with rfl | rfl | rfl | rfl | rfl<;>first | exact Qo _ | exact Nat.le_add_right _ _
          exact I1.bJq hb' (I1.hok.fresh hb')
 ·exact Qg q1
end
def ItI (h:Heap)(it d:Addr)(i n ep:Nat):Prop:= ∃f0 f1 k v,h.get? it=some {cls:= .type "dict_itemiterator",dict:=none,data:= .fields #[f0,f1,.ref d,.int i 0,.int n 0,.int ep 0,k,v],slots:= #[]}/\(f0=Zn\/∃(a:Addr) (o:Obj),f0=Z7 (a:Int)/\h.get? a=some o/\a≠it)
section
variable {prog:Qx}{w:Zb}{A:Ze}{E:Qd->Qf->Prop}{s:Qf}
theorem bMy {it d:Addr}{i ep:Nat}{od:Obj}{es:Array Jc}{e:Jc}{Q:Option Qd->Qf->Prop}(hit:ItI s.heap it d i es.size ep)(hod:s.heap.get? d=some od)(hdd:od.data= .dict es ep)(hx:es[i]? =some e)
  (q: ∀h',ItI h' it d (i+1) es.size ep->h'.get? s.heap.objs.size=some {cls:= .type "tuple",data:= .seq #[e.key,e.val]}->(∀b o,b≠it->s.heap.get? b=some o->h'.get? b=some o)->Q (some (.ref s.heap.objs.size)) {s with heap:=h'}):
  Qp (Qt prog w) A (Jx (.ref it)) Q E s:=by
 obtain⟨f0,f1,k,v,hi,hf⟩:=hit;have hT:s.TypeIs (.ref it) "dict_itemiterator":=⟨_,hi,rfl⟩;have hown:Builtin.Dict_items.ownsTuple "dict_itemiterator"=true:=by decide
 have lti:=Qn hi;unfold Jx;refine Qa (wpAny_attempt (Zm (name:=Yz "__next__") hT Ji (Za Ji hT Wu ?_ (Wr _))));refine Qa (Qe ?_);refine Qa ?_;refine Qa ?_;refine Qa (J3 hT (Qe ?_));refine Qa (wpAny_fieldsOf hi rfl ?_);simp only[hown,if_true];show Qp _ _ (if (Q1 d==Zn)=true then _ else _) _ _ _;rw[if_neg (show ¬((Q1 d==Zn)=true) from Q2)];refine Qa (Qe ?_);refine Qa (wpAny_dictEntries hod hdd ?_);rw[if_neg (by simp)];refine Qa (Qe ?_);refine Qa (wpAny_dictEpoch hod hdd ?_);rw[if_neg (by simp)];refine Qe ?_;simp only[show ¬((i:Int)<0) from by omega,if_false,Zc,hx];refine Qa ?_;refine Qa (J3 hT (Qe ?_));refine Qa (wpAny_isOneOf_itemiter hT ?_);show Qp _ _ (setField (.ref it) 3 (Z7 ((i:Int)+1))>>=_) _ _ _;refine Qa (Z8 hi (by simp) fun h₁ he₁ hs₁=> ?_);have ei:((i:Int)+1)=((i+1:Nat):Int):=by omega
 replace he₁:h₁.get? it=some {cls:= .type "dict_itemiterator",dict:=none,data:= .fields #[f0,f1,.ref d,.int ((i+1:Nat):Int) 0,.int es.size 0,.int ep 0,k,v],slots:= #[]}:=by
  rw[he₁,ei];rfl
 have hT1: ∀h',h'.get? it=some {cls:= .type "dict_itemiterator",dict:=none,data:= .fields #[f0,f1,.ref d,.int ((i+1:Nat):Int) 0,.int es.size 0,.int ep 0,k,v],slots:= #[]}->Shared.TypeIs {s with heap:=h'} (.ref it) "dict_itemiterator":=fun h' e=>⟨_,e,rfl⟩
 refine Qa (Yh ?_);refine Qa (wpAny_isOneOf_itemiter (hT1 _ he₁) ?_);rw[if_neg (by decide)];refine Qa (wpAny_isOneOf_itemiter (hT1 _ he₁) ?_);rw[if_neg (by decide)];unfold Builtin.Dict_items.pairFromOwner;simp only[newTuple];refine Qa (Zx ?_ (by size_fits));have sz1:h₁.objs.size=s.heap.objs.size:=hs₁.1;have he₂:(h₁.push {cls:= .type "tuple",data:= .seq #[e.key,e.val]}).get? it=some {cls:= .type "dict_itemiterator",dict:=none,data:= .fields #[f0,f1,.ref d,.int ((i+1:Nat):Int) 0,.int es.size 0,.int ep 0,k,v],slots:= #[]}:=Qb _ he₁;have bIm:(h₁.push {cls:= .type "tuple",data:= .seq #[e.key,e.val]}).get? h₁.objs.size=some {cls:= .type "tuple",data:= .seq #[e.key,e.val]}:=Ql _ rfl;have kp2: ∀b o,b≠it->s.heap.get? b=some o->(h₁.push {cls:= .type "tuple",data:= .seq #[e.key,e.val]}).get? b=some o:=fun b o nb eb=>Qb _ ((hs₁.2 b nb).trans eb)
 have nsz:h₁.objs.size≠it:=by rw[sz1];exact Yc lti
 dsimp only
 generalize (h₁.push {cls:= .type "tuple",data:= .seq #[e.key,e.val]})=h₂ at he₂ bIm kp2⊢;rcases hf with rfl |⟨a,oa,rfl,ha,na⟩
 ·refine Qa ?_
  unfold Builtin.Dict_items.ownedTupleIsFree;refine Qa (Z5 he₂ rfl (x:= .none) rfl (Qe ?_));rw[if_pos rfl];refine Qa (Z5 he₂ rfl (x:=k) rfl ?_);refine Qa (Z5 he₂ rfl (x:=v) rfl ?_);refine Qa (Z8 he₂ (by simp) fun h₃ he₃ hs₃=> ?_);refine Qa (Z8 he₃ (by simp) fun h₄ he₄ hs₄=> ?_);refine Qa (Z8 he₄ (by simp) fun h₅ he₅ hs₅=> ?_);refine Qa (Z8 he₅ (by simp) fun h₆ he₆ hs₆=> ?_);refine Qa (wpAny_letGo (Qe (Qe ⟨_,rfl,Qe ?_⟩)));have up: ∀b o,b≠it->h₂.get? b=some o->h₆.get? b=some o:=fun b o nb eb=>(hs₆.2 b nb).trans ((hs₅.2 b nb).trans ((hs₄.2 b nb).trans ((hs₃.2 b nb).trans eb)))
  rw[sz1] at bIm nsz⊢;refine q h₆ ⟨Z7 ((s.heap.objs.size:Nat):Int),.bool false,e.key,e.val,he₆.trans (by rw[sz1];rfl),.inr ⟨s.heap.objs.size,_,rfl,up _ _ nsz bIm,nsz⟩⟩ (up _ _ nsz bIm) fun b o nb eb=>up b o nb (kp2 b o nb eb)
 ·refine Qa ?_
  unfold Builtin.Dict_items.ownedTupleIsFree;refine Qa (Z5 he₂ rfl (x:=Z7 (a:Int)) rfl ?_);have ha2:=kp2 a oa na ha;show Qp _ _ (loadIfAlive (a:Int).toNat>>=_) _ _ _;rw[Zc];refine Qa (PySem.W.kdx_alive ha2 ?_);rw[if_neg (by simp)];refine Qa (Z5 he₂ rfl (x:=f1) rfl ?_);by_cases hf1:(f1 !=Value.bool true)=true
  ·rw[if_pos hf1]
   refine Qa (Z8 he₂ (by simp) fun h₃ he₃ hs₃=>Qe ?_);rw[if_neg (by decide)];refine Qe (Qe ⟨_,rfl,Qe ?_⟩);have up: ∀b o,b≠it->h₂.get? b=some o->h₃.get? b=some o:=fun b o nb eb=>(hs₃.2 b nb).trans eb
   rw[sz1] at bIm nsz⊢;exact q h₃ ⟨Z7 (a:Int),.bool true,k,v,he₃,.inr ⟨a,oa,rfl,up _ _ na ha2,na⟩⟩ (up _ _ nsz bIm) fun b o nb eb=>up b o nb (kp2 b o nb eb)
  ·rw[if_neg hf1]
   refine Qe ?_;rw[if_neg (by decide)];refine Qe (Qe ⟨_,rfl,Qe ?_⟩);rw[sz1] at bIm nsz⊢;exact q h₂ ⟨Z7 (a:Int),f1,k,v,he₂,.inr ⟨a,oa,rfl,ha2,na⟩⟩ bIm kp2
theorem bQp {it d:Addr}{i ep:Nat}{od:Obj}{es:Array Jc}{Q:Option Qd->Qf->Prop}(hh:A.handled=none)(hit:ItI s.heap it d i es.size ep)(hod:s.heap.get? d=some od)(hdd:od.data= .dict es ep)(hx:es[i]? =none)
  (q: ∀h',Heap.ExtBut it s.heap h'->Q none {s with heap:=h'}):Qp (Qt prog w) A (Jx (.ref it)) Q E s:=by
 obtain⟨f0,f1,k,v,hi,hf⟩:=hit;have hT:s.TypeIs (.ref it) "dict_itemiterator":=⟨_,hi,rfl⟩;have hown:Builtin.Dict_items.ownsTuple "dict_itemiterator"=true:=by decide
 unfold Jx;refine Qa (wpAny_attempt (Zm (name:=Yz "__next__") hT Ji (Za Ji hT Wu ?_ (Wr _))));refine Qa (Qe ?_);refine Qa ?_;refine Qa ?_;refine Qa (J3 hT (Qe ?_));refine Qa (wpAny_fieldsOf hi rfl ?_);simp only[hown,if_true];show Qp _ _ (if (Q1 d==Zn)=true then _ else _) _ _ _;rw[if_neg (show ¬((Q1 d==Zn)=true) from Q2)];refine Qa (Qe ?_);refine Qa (wpAny_dictEntries hod hdd ?_);rw[if_neg (by simp)];refine Qa (Qe ?_);refine Qa (wpAny_dictEpoch hod hdd ?_);rw[if_neg (by simp)];refine Qe ?_;simp only[show ¬((i:Int)<0) from by omega,if_false,Zc,hx];refine Qa ?_;refine Qa (J3 hT (Qe ?_));show Qp _ _ (setField (.ref it) 2 .none>>=_) _ _ s;refine Qa (wpAny_setField hi rfl (by simp) ?_)
 wp_walk
 simp only[raiseNew];refine Qa (wpAny_handled ?_);rw[show A.in1.handled=none by simp[hh]];refine Qa (Qe (wpAny_throw ?_));refine Qa (wpAny_isInstance (T:="StopIteration") (b:=true) ⟨_,Ql _ rfl,rfl⟩ isSubtype_stop (Qe (q _ ?_)));exact (((Zw ..).extBut.push _).push _)
def GI (es:Array Jc)(I:Addr)(h:Heap)(as:List Addr):Prop:= ∀(j:Nat) (a:Addr),as[j]? =some a->I<a/\∃e,es[j]? =some e/\h.get? a=some {cls:= .type "tuple",data:= .seq #[e.key,e.val]}
theorem bMw {S I d:Addr}{ep:Nat}{od:Obj}{es:Array Jc}{R:Result->Qf->Prop}(hh:A.handled=none)(hSI:S<I)(hSd:d≠S)(hId:d≠I)(hdd:od.data= .dict es ep)(hn:es.size<=Qy)(res:Qd){h₁:Heap}
  (hR: ∀h' tk acc c as,(∀b o,b≠S->b≠I->h₁.get? b=some o->h'.get? b=some o)->h'.get? S=some {cls:= .type "list",dict:=none,data:= .seq acc c,slots:= #[]}->as.length=es.size->GI es I h' as->as.Nodup->acc.toList=as.map Q1->R (.ok (.ret res)) {s with heap:=h',toks:=tk}):
  ∀(k i:Nat) (h:Heap) (tk c:Nat) (acc:Array Qd) (as:List Addr),es.size-i=k->i<=es.size->ItI h I d i es.size ep->h.get? d=some od->(∀b o,b≠S->b≠I->h₁.get? b=some o->h.get? b=some o)->
   h.get? S=some {cls:= .type "list",dict:=none,data:= .seq acc c,slots:= #[]}->acc.toList=as.map Q1->as.length=i->GI es I h as->as.Nodup->I<h.objs.size->
   codeAny (Qt prog w) A (.builtin "list.extend.loop" ⟨[.ref S,.ref I,res],[]⟩) R {s with heap:=h,toks:=tk}:=by
 have hne:S≠I:=Qz hSI;intro k
 induction k with
 | zero=>
  intro i h tk c acc as hk hi hst hD hkeep hS hacc hal hG hnd hq;refine Ym Vj ?_;rw[Yj Uy _];show Qp _ A.in1 (Jx (.ref I)>>=_) _ _ _;refine Qa (bQp (s:={s with heap:=h,toks:=tk}) (A:=A.in1) (by simp[hh]) hst hD hdd (Wn (by omega)) fun h' he=> ?_);refine Qe (hR h' tk acc c as (fun b o h1 h2 e=>he b o h2 (hkeep b o h1 h2 e)) (he S _ hne hS) (by omega) (fun j a hj=> ?_) hnd hacc);obtain⟨e1,e,e2,e3⟩:=hG j a hj;exact⟨e1,e,e2,he a _ (Yc e1) e3⟩
 | succ k ih=>
  intro i h tk c acc as hk hi hst hD hkeep hS hacc hal hG hnd hIs;have hlt:i<es.size:=by omega
  have hx:es[i]? =some es[i]:=Jp hlt;have hsz:acc.size=i:=by rw[<-Q6,hacc,Qh,hal]
  have hSl:S<h.objs.size:=Qn hS;refine Ym Vj ?_;rw[Yj Uy _];show Qp _ A.in1 (Jx (.ref I)>>=_) _ _ _;refine Qa (bMy (s:={s with heap:=h,toks:=tk}) hst hD hdd hx fun h' hst' ht hkp=> ?_)
  dsimp only at ht hkp⊢
  have hS':=hkp S _ hne hS;have up: ∀b o,b≠S->h'.get? b=some o->(h'.update S (Zz (·.push (Q1 h.objs.size)))).get? b=some o:=fun b o hb e=>(Q8 _ _ (Ne.symm hb)).trans e
  have hSn:=Yg (Zz (·.push (Q1 h.objs.size))) hS' rfl;have st2:ItI (h'.update S (Zz (·.push (Q1 h.objs.size)))) I d (i+1) es.size ep:=by
   obtain⟨f0,f1,kk,v,g1,g2⟩:=hst';refine⟨f0,f1,kk,v,up _ _ (Ne.symm hne) g1,?_⟩;rcases g2 with g2 |⟨a,o,e1,e2,e3⟩
   ·exact .inl g2
   ·by_cases ea:a=S
    ·subst ea;exact .inr ⟨a,_,e1,hSn,e3⟩
    ·exact .inr ⟨a,o,e1,up _ _ ea e2,e3⟩
  have nd2:(as++ [h.objs.size]).Nodup:=by
   refine List.nodup_append.mpr ⟨hnd,by simp,fun x hx y hy=> ?_⟩;rw[U5] at hy;subst hy;obtain⟨j,hj⟩:=List.mem_iff_getElem?.mp hx;obtain⟨_,e,_,e3⟩:=hG j x hj;exact Qz (Qn e3)
  show Qp _ A.in1 (updateSeq S (·.push (Q1 h.objs.size))>>=_) _ _ _;refine Qa ?_;refine wpAny_updateSeq hS' rfl (Qe ⟨plainId_quiet Uy _,ih (i+1) _ tk _ (acc.push (Q1 h.objs.size)) (as++ [h.objs.size]) (by omega) hlt st2 (up d _ hSd (hkp d _ hId hD))
   (fun b o h1 h2 e=>up b o h1 (hkp b o h2 (hkeep b o h1 h2 e))) hSn (by rw[W5,hacc,Zd];rfl) (by rw[Qq,hal];rfl) (fun j b hj=> ?_) nd2 (by obtain⟨_,_,_,_,g1,_⟩:=st2;exact Qn g1)⟩)
   (by rw[hsz];omega) (by show (acc.push _).size<=Qy+1;rw[Array.size_push,hsz];omega)
  rcases Nat.lt_trichotomy j as.length with h1 | h1 | h1
  ·rw[Yo h1] at hj
   obtain⟨e1,e,e2,e3⟩:=hG j b hj;exact⟨e1,e,e2,up b _ (Yc (Uz hSI e1)) (hkp b _ (Yc e1) e3)⟩
  ·subst h1
   have hb:h.objs.size=b:=by simpa using hj
   subst hb;exact⟨hIs,es[i],by rw[hal];exact hx,up _ _ (Yc hSl) ht⟩
  ·have hnone:(as++ [h.objs.size])[j]? =none:=Y4 (by rw[Qq,Up];omega)
   rw[hnone] at hj;cases hj
theorem bMx {r d:Addr}{ep:Nat}{od:Obj}{es:Array Jc}{Q:Qd->Qf->Prop}(hv:s.heap.IsItemsView r d)(hod:s.heap.get? d=some od)(hdd:od.data= .dict es ep)
  (q: ∀h',ItI h' s.heap.objs.size d 0 es.size ep->(∀b o,s.heap.get? b=some o->h'.get? b=some o)->s.heap.objs.size<h'.objs.size->Q (.ref s.heap.objs.size) {s with heap:=h'}):Qp (Qt prog w) A (pyIter (.ref r)) Q E s:=by
 obtain⟨ov,hov,hcv,hdv⟩:=id hv;refine wpAny_pyIter_slot hv.typeIs Vc (Za Vc hv.typeIs PySem.F.entry_dict_items_iter ?_ (PySem.F.args_dict_items_iter_1 _));unfold Builtin.«dict_items.__iter__»;refine Qa (Qe ?_);refine Qa ?_;unfold Builtin.Dict_items.dictOf;refine Qa (Z5 hov hdv (x:= .ref d) rfl (Qe ?_));refine Qa ?_;unfold Builtin.Dict_items.newIterator;refine Qa (wpAny_dictEntries hod hdd ?_);refine Qa (wpAny_dictEpoch hod hdd ?_);have hown:Builtin.Dict_items.ownsTuple "dict_itemiterator"=true:=by decide
 simp only[hown,if_true];have fin:(s.heap.push {cls:= .type "dict_itemiterator",data:= .fields #[.none,.bool false,.ref d,.int 0 0,.int es.size 0,.int ep 0,.none,.none]}).get? s.heap.objs.size=some {cls:= .type "dict_itemiterator",dict:=none,data:= .fields #[.none,.bool false,.ref d,.int 0 0,.int es.size 0,.int ep 0,.none,.none],slots:= #[]}:=Ql _ rfl;refine Zx (Qe ⟨_,rfl,"dict_itemiterator",_,⟨_,Ql _ rfl,rfl⟩,PySem.F.slot_dict_itemiterator_next.lookup,?_⟩) (by simp only[sizeOk,Builtin.Dict_items.ownedTupleFields,Qu,Qq,Qk,Uw,Z6];omega);refine q _ ⟨.none,.bool false,.none,.none,fin,.inl rfl⟩ (fun b o e=>Qb _ e) (Qn fin)
theorem aZn {d:Addr}{ep:Nat}{od:Obj}{es:Array Jc}{Q:Qd->Qf->Prop}(hT:s.TypeIs (.ref d) "dict")(hd:(d==Jj)=false)
  (q:Q (.ref s.heap.objs.size) {s with heap:=s.heap.push {cls:= .type "dict_items",data:= .fields #[.ref d]}}):Qp (Qt prog w) A (call (.builtin "dict.items") [.ref d]) Q E s:=by
 refine Za Vr hT PySem.F.entry_dict_items ?_ (PySem.F.args_dict_items_1 _);unfold Builtin.«dict.items»;refine Qa ?_;unfold Builtin.Dict.noArgs;refine Qa (wpAny_notOrdered_dict hT ?_);show Qp _ _ (pure d) _ _ s;refine Qe ?_;show Qp _ _ (Builtin.Dict.showsAll d>>=_) _ _ s;unfold Builtin.Dict.showsAll;rw[if_neg (by rw[hd];exact Q2)];refine Qa (Qe ?_);exact Qa (Zx (Qe ⟨_,rfl,q⟩))
theorem aR2 {r d:Addr}{ep:Nat}{od:Obj}{es:Array Jc}{Q:List Qd->Qf->Prop}(hh:A.handled=none)(hv:s.heap.IsItemsView r d)(hod:s.heap.get? d=some od)(hdd:od.data= .dict es ep)(hn:es.size<=Qy)
  (hQ: ∀h' tk as,(∀b o,s.heap.get? b=some o->h'.get? b=some o)->as.length=es.size->GI es s.heap.objs.size h' as->as.Nodup->s.heap.objs.size<h'.objs.size->Q (as.map Q1) {s with heap:=h',toks:=tk}):Qp (Qt prog w) A (collect (.ref r)) Q E s:=by
 obtain⟨ov,hov,hcv,hdv⟩:=id hv;have ltr:=Qn hov;have ltd:=Qn hod;have nr:s.heap.objs.size≠r:=Yc ltr;have h1:Builtin.List.listSameRef (.ref s.heap.objs.size) (.ref r)=false:=by simp[Builtin.List.listSameRef,nr]
 unfold collect;refine Qa (wpAny_runValue (Ym F.entry_proto_collect ?_));rw[Yj F.plain_proto_collect _];show Qp _ A.in1 (newList []>>=fun l=>again (.builtin "list.__iadd__" ⟨[l,.ref r],[]⟩)) _ _ s;refine Qa (Zx (Qe ⟨plainId_quiet F.plain_list_iadd _,Ym F.entry_list_iadd ?_⟩));rw[Yj F.plain_list_iadd _];show Qp _ A.in1 (Z0 (.ref s.heap.objs.size) (.ref r) (.ref s.heap.objs.size)) _ _ _;generalize hL:({cls:= .type "list",data:= .seq ([]:List Qd).toArray}:Obj)=L;have l1:(s.heap.push L).get? s.heap.objs.size=some L:=Ql _ (by rw[<-hL];rfl);have hv1:(s.heap.push L).IsItemsView r d:=⟨ov,Qb _ hov,hcv,hdv⟩;have bVf:(s.heap.push L).get? d=some od:=Qb _ hod;have sz:(s.heap.push L).objs.size=s.heap.objs.size+1:=by simp[Heap.push]
 have hT:Shared.TypeIs {s with heap:=s.heap.push L} (.ref r) "dict_items":=⟨ov,Qb _ hov,hcv⟩;unfold Z0;refine Qa (wpAny_typeOf hT ?_);rw[if_neg (by rw[h1];decide)];refine Qa (bMx (s:={s with heap:=s.heap.push L}) hv1 bVf hdd fun h2 hit kp2 lt2=> ?_)
 dsimp only at hit kp2 lt2⊢
 refine Qa (Yh (PySem.W.kdx_hint (s:={s with heap:=h2}) ⟨ov,kp2 r _ (Qb _ hov),hcv⟩ ?_));rw[if_pos (by decide)];have l2:h2.get? s.heap.objs.size=some {cls:= .type "list",data:= .seq #[]}:=by rw[kp2 _ _ l1,<-hL]
 refine Qa (wpAny_rule (Qa ?_));show Qp _ A.in1 (updateSeq s.heap.objs.size (·.push .none)>>=fun _=>updateSeq s.heap.objs.size (·.pop)) _ _ _;refine Qa (wpAny_updateSeq l2 rfl ?_);have l3:=Yg (Zz (·.push Zn)) l2 rfl;refine wpAny_updateSeq l3 rfl ?_;have l4:=Yg (Zz (·.pop)) l3 rfl;have kp4: ∀b o,b≠s.heap.objs.size->h2.get? b=some o->((h2.update s.heap.objs.size (Zz (·.push Zn))).update s.heap.objs.size (Zz (·.pop))).get? b=some o:=fun b o nb e=>(Q8 _ _ (Ne.symm nb)).trans ((Q8 _ _ (Ne.symm nb)).trans e)
 rw[sz] at hit lt2⊢;have nI:s.heap.objs.size+1≠s.heap.objs.size:=Nat.succ_ne_self _;have bVg:ItI ((h2.update s.heap.objs.size (Zz (·.push Zn))).update s.heap.objs.size (Zz (·.pop))) (s.heap.objs.size+1) d 0 es.size ep:=by
  obtain⟨f0,f1,kk,v,g1,g2⟩:=hit;refine⟨f0,f1,kk,v,kp4 _ _ nI g1,?_⟩;rcases g2 with g2 |⟨a,o,e1,e2,e3⟩
  ·exact .inl g2
  ·by_cases ea:a=s.heap.objs.size
   ·subst ea;exact .inr ⟨_,_,e1,l4,e3⟩
   ·exact .inr ⟨a,o,e1,kp4 _ _ ea e2,e3⟩
 refine Qe ⟨plainId_quiet F.plain_extend_loop _,?_⟩;refine bMw (s:=s) (S:=s.heap.objs.size) (I:=s.heap.objs.size+1) (h₁:=s.heap) hh (Ur _) (Qz ltd) (Qz (Ul ltd)) hdd hn _ (fun h' tk acc c as hk hS hal hG hnd hacc=> ?_) es.size 0 _ s.toks _ #[] [] rfl (Zy _) bVg (kp4 _ _ (Qz ltd) (kp2 _ _ bVf)) (fun b o nb _ e=>kp4 _ _ nb (kp2 _ _ (Qb _ e))) l4 rfl rfl (fun j a hj=>by simp at hj) Vu (by obtain⟨_,_,_,_,g1,_⟩:=bVg;exact Qn g1);show Qp _ A (load s.heap.objs.size>>=_) _ _ _;refine Qa (wpAny_load hS (Qe ?_));rw[hacc];refine hQ h' tk as (fun b o e=>hk b o (Qz (Qn e)) (Qz (Ul (Qn e))) e) hal (fun j a hj=> ?_) hnd (Qn hS);obtain⟨g1,g2⟩:=hG j a hj;exact⟨Nat.lt_of_succ_lt g1,g2⟩
end
def aEu:List Str->List Str->Bool
 | [],[]=>false
 | [],_::_=>true
 | _::_,[]=>false
 | x::xs,y::ys=>if x=y then aEu xs ys else decide (x.cps.toList<y.cps.toList)
def TxA:List Qd->List Str->Prop
 | [],[]=>True
 | v::vs,x::xs=>(∃u,v=Jk x u)/\TxA vs xs
 | _,_=>False
theorem TxA.length: ∀{vs:List Qd} {xs:List Str},TxA vs xs->vs.length=xs.length
 | [],[],_=>rfl
 | _::_,_::_,h=>by rw[Qk,Qk,TxA.length h.2]
 | [],_::_,h=>h.elim
 | _::_,[],h=>h.elim
theorem aOa: ∀{xs ys:List Str},(xs=[]\/ys=[])->aEu xs ys=decide (xs.length<ys.length)
 | [],[],_=>rfl
 | [],_::_,_=>by simp[aEu]
 | _::_,[],_=>by simp[aEu]
 | _::_,_::_,h=>by rcases h with h | h<;>cases h
section
variable {prog:Qx}{w:Zb}{A:Ze}{E:Qd->Qf->Prop}{s:Qf}
theorem aUr {a b:Addr}{its jts:Array Qd}{xs ys:List Str}{Q:Qd->Qf->Prop}(ha:IsTup s.heap a its)(hb:IsTup s.heap b jts)(hx:TxA its.toList xs)(hy:TxA jts.toList ys)(q:Q (.bool (aEu xs ys)) s):
  Qp (Qt prog w) A (Builtin.«tuple.__lt__» ⟨[.ref a,.ref b],[]⟩) (fun fin s'=> ∃r,fin= .done (.ret r)/\Q r s') E s:=by
 obtain⟨⟨c1,d1,x1,l1⟩,o1,k1,n1,e1⟩:=ha;obtain⟨⟨c2,d2,x2,l2⟩,o2,k2,n2,e2⟩:=hb
 dsimp only at k1 e1 k2 e2
 subst k1 e1 k2 e2;have f2:=AutoSeq1.sub_tuple_tuple;have z1:=hx.length;have z2:=hy.length;rw[Q6] at z1 z2;unfold Builtin.«tuple.__lt__»
 wp_walk using Zq o1,Zq o2,wpAny_forIn_list _ (fun rest st s'=>st.1=none/\s'=s/\∃(vs ws:List Qd) (zs us:List Str),rest=vs.zip ws/\TxA vs zs/\TxA ws us/\zs.length+ys.length=us.length+xs.length/\aEu zs us=aEu xs ys) _
 case turn=>
  rintro⟨p,p'⟩ rest st s' ⟨g1,g2,vs,ws,zs,us,hz,hv,hw,hlen,hl⟩
  subst g2
  match vs,zs,ws,us,hv,hw with
  | v::vs,z::zs,y::ws,u::us,hv,hw=>
   rw[Y6] at hz
   injection hz with hp hr
   injection hp with hp1 hp2
   obtain⟨⟨t1,e1⟩,hv⟩:=hv;obtain⟨⟨t2,e2⟩,hw⟩:=hw;subst hp1 hp2;rw[e1,e2];rw[Qk,Qk] at hlen;refine Qa (wpAny_eqBool_str ?_);by_cases ez:z=u
   ·rw[aEu,if_pos ez] at hl
    rw[decide_eq_true ez]
    wp_walk
    exact⟨rfl,rfl,vs,ws,zs,us,hr,hv,hw,by omega,hl⟩
   ·rw[aEu,if_neg ez] at hl
    rw[decide_eq_false ez];have hri: ∀(Q':Qd->Qf->Prop) (E':Qd->Qf->Prop),Q' (.bool (decide (z.cps.toList<u.cps.toList))) s'->Qp (Qt prog w) A (richCompare .Lt (.str z t1) (.str u t2)) Q' E' s':=fun Q' E' h=>(lt_str h:Qp (Qt prog w) A (Yp .Lt (.str z t1) (.str u t2)) Q' E' s')
    wp_walk using hri
    exact⟨_,rfl,by rw[hl];exact q⟩
  | [],[],_,_,_,_=>rw[List.zip_nil_left] at hz;cases hz
  | _::_,_::_,[],[],_,_=>rw[E1] at hz;cases hz
 case fin=>
  rintro⟨b1,b2⟩ s' ⟨g1,g2,vs,ws,zs,us,hz,hv,hw,hlen,hl⟩
  subst g2
  dsimp only at g1
  subst g1;have hends:zs=[]\/us=[]:=by
   match vs,zs,ws,us,hv,hw with
   | [],[],_,_,_,_=>exact .inl rfl
   | _::_,_::_,[],[],_,_=>exact .inr rfl
   | _::_,_::_,_::_,_::_,_,_=>rw[Y6] at hz;cases hz
  have hv:aEu xs ys=decide (its.size<jts.size):=by
   rw[<-hl,aOa hends];by_cases h:zs.length<us.length
   ·rw[decide_eq_true h,decide_eq_true (by omega)]
   ·rw[decide_eq_false h,decide_eq_false (by omega)]
  rw[hv] at q
  wp_walk
  exact⟨_,rfl,by simpa[Builtin.Tuple.tupleCompareSizes] using q⟩
 case h=>
  exact⟨rfl,rfl,its.toList,jts.toList,xs,ys,rfl,hx,hy,by omega,rfl⟩
theorem aN7 {a b:Addr}{its jts:Array Qd}{xs ys:List Str}{Q:Qd->Qf->Prop}(ha:IsTup s.heap a its)(hb:IsTup s.heap b jts)(hx:TxA its.toList xs)(hy:TxA jts.toList ys)(hu:A.units<cLine)(q:Q (.bool (aEu xs ys)) s):
  Qp (Qt prog w) A (Yp .Lt (.ref a) (.ref b)) Q E s:=by
 have ta:s.TypeIs (.ref a) "tuple":=ha.typeIs;have tb:s.TypeIs (.ref b) "tuple":=hb.typeIs;show Qp _ _ (richCompare .Lt (.ref a) (.ref b)) _ _ _;refine wpAny_richCompare_same_room ta tb V3 (Za V3 ta PySem.F.entry_tuple_lt (aUr ha hb hx hy ?_) (PySem.F.args_tuple_lt_2 _ _)) hu;exact And.intro (fun z=>nomatch z) q
end
end L2.PU
namespace L2.PU
open PySem PySem.Spec PyProof.Rows PySem.W
def aJd {α:Type}(lt:Nat->Nat->Bool):KasT α->α
 | .ret a=>a
 | .ask i j k=>aJd lt (k (lt i j))
def okP {α:Type}(n:Nat)(R:α->Prop):KasT α->Prop
 | .ret a=>R a
 | .ask i j k=>i<n/\j<n/\∀b,okP n R (k b)
theorem okP.bind {α β:Type}{n:Nat}{R:α->Prop}{S:β->Prop}{f:α->KasT β}(hf: ∀a,R a->okP n S (f a)): ∀(t:KasT α),okP n R t->okP n S (t.bind f)
 | .ret a,h=>hf a h
 | .ask i j k,h=>⟨h.1,h.2.1,fun b=>okP.bind hf (k b) (h.2.2 b)⟩
theorem bBo {n:Nat}{R:Array Nat->Prop}{lt:Nat->Nat->Bool}{cmp:Nat->Nat->(Bool->Qf->Prop)->Qf->Prop}{Q:Array Nat->Qf->Prop}{s:Qf}(hc: ∀i j C,i<n->j<n->C (lt i j) s->cmp i j C s): ∀(t:KasT (Array Nat)),okP n R t->Q (aJd lt t) s->t.kasWp cmp Q s
 | .ret _,_,h=>h
 | .ask i j k,o,h=>hc i j _ o.1 o.2.1 (bBo hc (k (lt i j)) (o.2.2 _) h)
theorem bIz {α:Type}{n:Nat}{R:α->Prop}{lt:Nat->Nat->Bool}: ∀(t:KasT α),okP n R t->R (aJd lt t)
 | .ret _,o=>o
 | .ask i j k,o=>bIz (k (lt i j)) (o.2.2 _)
def Plc (n:Nat)(p:Array Nat):Prop:=p.toList.Perm (Zj n)
theorem Plc.lt {n:Nat}{p:Array Nat}(h:Plc n p)(hn:0<n)(k:Nat):p.getD k 0<n:=by
 by_cases hk:k<p.size
 ·have e:p.getD k 0=p[k]:=by simp[U0,hk]
  rw[e];have:=(h.mem_iff (a:=p[k])).mp (by simp);exact List.mem_range.mp this
 ·have e:p.getD k 0=0:=by simp[U0,hk]
  rw[e];exact hn
theorem Plc.of {n:Nat}{p p':Array Nat}(h:Plc n p)(q:p'.Perm p):Plc n p':=(Array.perm_iff_toList_perm.mp q).trans h
theorem Plc.rev {n:Nat}{p:Array Nat}(h:Plc n p)(i j:Nat):Plc n (kas_rev p i j):=h.of (mirror_perm _ _ _ _)
theorem bCj {n:Nat}{p:Array Nat}(hn:0<n)(h:Plc n p): ∀f m,okP n (fun _=>True) (kas_asc p f m)
 | 0,_=>trivial
 | f+1,m=>⟨h.lt hn _,h.lt hn _,fun b=>by
  cases b
  ·exact bCj hn h f (m+1)
  ·exact trivial⟩
theorem aRf {n:Nat}(hn:0<n): ∀f (p:Array Nat) m q,Plc n p->okP n (fun r=>Plc n r.1) (kas_desc f p m q)
 | 0,_,_,_,h=>h
 | f+1,p,m,q,h=>⟨h.lt hn _,h.lt hn _,fun b=>by
  cases b
  ·refine⟨h.lt hn _,h.lt hn _,fun d=> ?_⟩
   cases d
   ·exact aRf hn f p (m+1) (q+1) h
   ·exact h
  ·show okP n _ (if q>0 then kas_desc f (kas_rev p (m-(q+1)) m) (m+1) 0 else kas_desc f p (m+1) 0)
   split
   ·exact aRf hn f _ _ _ (h.rev _ _)
   ·exact aRf hn f _ _ _ h⟩
theorem aXh {n:Nat}{p:Array Nat}(hn:0<n)(h:Plc n p)(m r:Nat):okP n (fun x=>Plc n x.2) (kas_tail3 m r p):=by
 unfold kas_tail3;refine okP.bind (R:=fun _=>True) (fun a _=> ?_) _ (bCj hn (h.rev 0 m) _ _);exact h.rev 0 m
theorem aNo {n:Nat}{p:Array Nat}(hn:0<n)(h:Plc n p)(m r:Nat):okP n (fun x=>Plc n x.2) (kas_descPart m r p):=by
 refine okP.bind (fun x hx=> ?_) _ (aRf hn _ _ _ _ h);split
 ·exact aXh hn (hx.rev _ _) _ _
 ·exact aXh hn hx _ _
theorem bGy {n:Nat}{p:Array Nat}(hn:0<n)(h:Plc n p)(r:Nat):okP n (fun x=>Plc n x.2) (kas_count r p):=by
 refine okP.bind (fun m _=> ?_) _ (bCj hn h _ _);split
 ·exact h
 ·split
  ·refine⟨h.lt hn _,h.lt hn _,fun c=> ?_⟩
   cases c
   ·exact aNo hn (h.rev _ _) _ _
   ·exact h
  ·exact aNo hn h _ _
theorem aRa {n:Nat}{p:Array Nat}(hn:0<n)(h:Plc n p)(k:Nat): ∀f l r,okP n (fun _=>True) (kas_place p k f l r)
 | 0,_,_=>trivial
 | f+1,l,r=>by
  unfold kas_place;split
  ·exact trivial
  ·refine⟨h.lt hn _,h.lt hn _,fun c=> ?_⟩
   cases c
   ·exact aRa hn h k f _ _
   ·exact aRa hn h k f _ _
theorem bI8 {n:Nat}(hn:0<n): ∀f (p:Array Nat) k,Plc n p->okP n (Plc n) (kas_bin f p k)
 | 0,_,_,h=>h
 | f+1,p,k,h=>okP.bind (fun l _=>bI8 hn f _ _ (h.of (bubble_perm _ _ _))) _ (aRa hn h k _ _ _)
theorem bCh {n:Nat}(hn:0<n):okP n (Plc n) (kas_sort n):=by
 refine okP.bind (fun x hx=> ?_) _ (bGy hn (p:=List.toArray (Zj n)) (List.Perm.refl _) _);split
 ·exact bI8 hn _ _ _ hx
 ·exact hx
def aXg (lt:Nat->Nat->Bool)(n:Nat):List Nat:=if n<2 then Zj n else (aJd lt (kas_sort n)).toList
theorem aNm (lt:Nat->Nat->Bool)(n:Nat):(aXg lt n).Perm (Zj n):=by
 unfold aXg;split
 ·exact List.Perm.refl _
 ·exact bIz _ (bCh (by omega))
section
variable {prog:Qx}{w:Zb}{A:Ze}{E:Qd->Qf->Prop}{s:Qf}
theorem bIt {a:Addr}{vs:List Qd}{n:Nat}{lt:Nat->Nat->Bool}{P:PySem.Fin->Qf->Prop}(ho:s.heap.get? a=some (Yb "list" vs.toArray n))(h64:vs.length<64)
  (hc:2<=vs.length->∀s':Qf,(∀b o,b≠a->s.heap.get? b=some o->s'.heap.get? b=some o)->Qp (Qt prog w) A (keyKind' vs.toArray) (fun κ s''=>s''=s'/\∀i j C,i<vs.length->j<vs.length->C (lt i j) s'->kas_ask prog w A κ vs i j C s') (fun _ _=>False) s')
  (h:P (.done (.ret .none)) {s with heap:=sortedHeap s.heap a vs ((aXg lt vs.length).map fun i=>vs.getD i Zn).toArray}):
  Qp (Qt prog w) A (Builtin.«list.sort» ⟨[.ref a],[]⟩) P E s:=by
 rw[list_sort_plain];have ha:a<s.heap.objs.size:=Qn ho;refine Qa (listItems_at ho rfl ?_);refine Qa (listUpdate_at ho rfl ?_);obtain⟨e1,ho1⟩: ∃e1,(s.heap.update a (Zz fun _=> #[])).get? a=some (Yb "list" #[] e1):=⟨_,Y5 ho (fun _=> #[])⟩;refine Qa (seqEpoch_at ho1 rfl ?_);refine Qa (wpAny_newTuple ?_);refine Qa (wpAny_newList ?_);refine Yh ?_;have hk6: ∀b o,b≠a->s.heap.get? b=some o->(((s.heap.update a (Zz fun _=> #[])).push (Yb "tuple" vs.toArray 0)).push (Yb "list" #[] 0)).get? b=some o:=fun b o nb e=>Qb _ (Qb _ ((Q8 _ _ (Ne.symm nb)).trans e))
 have ho6:(((s.heap.update a (Zz fun _=> #[])).push (Yb "tuple" vs.toArray 0)).push (Yb "list" #[] 0)).get? a=some (Yb "list" #[] e1):=Qb _ (Qb _ ho1);show Qp (Qt prog w) A _ P E {s with heap:=((s.heap.update a (Zz fun _=> #[])).push (Yb "tuple" vs.toArray 0)).push (Yb "list" #[] 0)}
 dsimp only
 have hsz:vs.toArray.size=vs.length:=by simp
 by_cases h2:vs.toArray.size<2
 ·rw[if_pos h2,if_pos h2]
  refine Qa (Qe ?_);rw[StateT.run_pure];refine Qa (Qe ?_)
  dsimp only
  refine Qa (seqEpoch_at ho6 rfl ?_);refine Qa (listUpdate_at ho6 rfl ?_ (hsz2:=by rw[Array.size_map];show (pairsOf vs).size<=_;rw[pairsOf_size,Z6];omega));simp only[bne_self_eq_false,E9,if_false];refine Qe ?_;have eo:((aXg lt vs.length).map fun i=>vs.getD i Zn).toArray=Array.map (fun x=>x.2) (arrOf (SortSt.mk' general' (vs.toArray.zip vs.toArray) #[] 7 none)):=by
   unfold aXg;rw[if_pos (by rw[hsz] at h2;exact h2)];have hl:vs.length<2:=by rw[hsz] at h2;exact h2
   show _=Array.map (fun x=>x.2) (vs.toArray.zip vs.toArray)
   apply Array.ext
   ·simp
   ·intro i h1 h3
    simp at h1;simp[h1]
  rw[eo] at h;exact h
 ·rw[if_neg h2,if_neg h2]
  have h2':2<=vs.length:=by rw[hsz] at h2;omega
  refine Qa (Y1 (hc h2' {s with heap:=((s.heap.update a (Zz fun _=> #[])).push (Yb "tuple" vs.toArray 0)).push (Yb "list" #[] 0)} hk6) (fun κ s0 hs0=> ?_) fun _ _ x=>x.elim);obtain⟨e0,ask⟩:=hs0;subst e0;refine Qa (Y1 (kat_run (ks:=vs) (vs:=vs) (κ:=κ) (G:=fun p s'=>p=aJd lt (kas_sort vs.length)/\s'={s with heap:=((s.heap.update a (Zz fun _=> #[])).push (Yb "tuple" vs.toArray 0)).push (Yb "list" #[] 0)})
   (Q:=fun st' s'=>s'={s with heap:=((s.heap.update a (Zz fun _=> #[])).push (Yb "tuple" vs.toArray 0)).push (Yb "list" #[] 0)}/\failedOf st'=none/\(aJd lt (kas_sort vs.length)).size=vs.length/\arrOf st'=(aJd lt (kas_sort vs.length)).map (kas_item (vs.toArray.zip vs.toArray)))
   rfl h2' h64 (fun p st' s' a1 a2 a3 a4=>⟨a4.2,a3,by rw[<-a4.1];exact a1,by rw[<-a4.1];exact a2⟩) (bBo ask _ (bCh (by omega)) ⟨rfl,rfl⟩)) ?_ fun _ _ e=>e)
  rintro⟨⟨⟩,st'⟩ s' ⟨rfl,hf,hp,har⟩
  dsimp only
  have hout:=kat_snds (ks:=vs) (vs:=vs) rfl har;rw[hout];refine Qa (seqEpoch_at ho6 rfl ?_);refine Qa (listUpdate_at ho6 rfl ?_ (hsz2:=by rw[Qu,Qh,Q6,hp,Z6];omega));rw[hf];simp only[bne_self_eq_false,E9,if_false];refine Qe ?_;unfold aXg at h;rw[if_neg (by omega)] at h;exact h
end
def ltI (p q:List Str×Int):Bool:=if p.1=q.1 then (if p.2=q.2 then false else decide (p.2<q.2)) else aEu p.1 q.1
abbrev ixP (l:List (List Str×Int))(i:Nat):List Str×Int:=l.getD i ([],0)
def aY8 (l:List (List Str×Int)):List Nat:=aXg (fun i j=>ltI (ixP l i) (ixP l j)) l.length
section
variable {prog:Qx}{w:Zb}{A:Ze}{E:Qd->Qf->Prop}{s:Qf}
theorem bN7: ∀{xs:List Str} {vs:List Qd},ItemsAre (aBb prog w) (xs.map .inr) vs->TxA vs xs
 | [],_,.nil=>trivial
 | x::xs,_,.cons (v:=v) h r=>by
  refine⟨?_,bN7 r⟩;rcases aBr (show aVr (Yl x) v=true from h) with⟨i,u,e,_⟩ |⟨y,u,e,ev⟩
  ·cases e
  ·cases e;exact⟨u,ev⟩
theorem bIl {h:Heap}{xs:List Str}{a:Addr}(k:IsTupleKey (aBb prog w) h (xs.map .inr) a): ∃its,IsTup h a its/\TxA its.toList xs:=by
 obtain⟨o,items,n,h1,h2,h3,h4⟩:=k;exact⟨items,⟨o,h1,h2,n,h3⟩,bN7 h4⟩
theorem aHq {xs ys:List Str}:(xs.map (Yl:Str->Key)=ys.map .inr)↔xs=ys:=
 ⟨fun h=>by
  have:=congrArg (Wl fun k:Key=>match k with | .inr x=>x | .inl _=>Jz) h
  simpa[Zr,Function.comp_def] using this,fun h=>by rw[h]⟩
def aYj (prog:Qx)(w:Zb)(h:Heap)(a:Addr)(p:List Str×Int):Prop:= ∃ka t,h.get? a=some {cls:= .type "tuple",data:= .seq #[.ref ka,.int p.2 t]}/\IsTupleKey (aBb prog w) h (p.1.map .inr) ka
theorem bEz {a b:Addr}{p q:List Str×Int}{C:Bool->Qf->Prop}(hu:A.units<cLine)(ha:aYj prog w s.heap a p)(hb:aYj prog w s.heap b q)(h:C (ltI p q) s):Qp (Qt prog w) A (keyLt' (tuples' false) (.ref a) (.ref b)) C E s:=by
 obtain⟨ka,t,h1,k1⟩:=ha;obtain⟨kb,u,h2,k2⟩:=hb;refine kat_lt h1 rfl h2 rfl ?_;refine kat_cons (p:= .ref ka) (q:= .ref kb) (wpAny_eqBool_tuple hu k1 k2 ?_);unfold ltI at h;by_cases e:p.1=q.1
 ·rw[if_pos e] at h
  rw[decide_eq_true (aHq.mpr e)];refine kat_yes (kat_cons (p:= .int p.2 t) (q:= .int q.2 u) (wpAny_eqBool_int ?_));by_cases e2:p.2=q.2
  ·rw[if_pos e2] at h
   rw[show (p.2==q.2)=true by simpa using e2];exact kat_yes (kat_nil h)
  ·rw[if_neg e2] at h
   rw[show (p.2==q.2)=false by simpa using e2];exact kat_no (kat_one _ _ (lt_int (show W.BoolBack C (.bool _) s from h)))
 ·rw[if_neg e] at h
  rw[decide_eq_false (fun z=>e (aHq.mp z))];obtain⟨its,t1,x1⟩:=bIl k1;obtain⟨jts,t2,x2⟩:=bIl k2;exact kat_no (kat_one _ _ (aN7 t1 t2 x1 x2 hu (show W.BoolBack C (.bool _) s from h)))
theorem firsts {h:Heap}: ∀(as:List Addr),(∀a∈as,∃p,aYj prog w h a p)->∃fs,KatTups h (as.map Q1) fs/\fs.length=as.length/\∀v∈fs,∃ka o,v=Q1 ka/\h.get? ka=some o/\o.cls= .type "tuple"
 | [],_=>⟨[],trivial,rfl,fun v hv=>by simp at hv⟩
 | a::as,hp=>by
  obtain⟨fs,h1,h2,h3⟩:=firsts as fun b hb=>hp b (Qr _ hb)
  obtain⟨p,ka,t,g1,o,items,n,g2,g3,g4⟩:=hp a Qm;refine⟨.ref ka::fs,⟨⟨a,_,_,_,rfl,g1,rfl,rfl,rfl⟩,h1⟩,by rw[Qk,Qk,h2],fun v hv=> ?_⟩;rcases List.mem_cons.mp hv with e | e
  ·exact⟨ka,o,e,g2,g3⟩
  ·exact h3 v e
theorem aSq {r d:Addr}{ep:Nat}{od:Obj}{es:Array Jc}{l:List (List Str×Int)}{Q:Qd->Qf->Prop}(hh:A.handled=none)(hu:A.units+64<cLine)(hv:s.heap.IsItemsView r d)(hod:s.heap.get? d=some od)(hdd:od.data= .dict es ep)(h3:l.length<64)(hl:l.length=es.size)
  (hk: ∀(j:Nat) (e:Jc),es[j]? =some e->∃ka t,e.key= .ref ka/\e.val= .int (ixP l j).2 t/\IsTupleKey (aBb prog w) s.heap ((ixP l j).1.map .inr) ka)
  (q: ∀h' tk lst m (as:List Addr),(∀b o,s.heap.get? b=some o->h'.get? b=some o)->as.length=l.length->as.Nodup->(∀(j:Nat) (a:Addr),as[j]? =some a->s.heap.objs.size<=a/\∃e:Jc,es[j]? =some e/\h'.get? a=some {cls:= .type "tuple",data:= .seq #[e.key,e.val]})->s.heap.objs.size<=lst->lst∉as->
   h'.get? lst=some {cls:= .type "list",data:= .seq ((aY8 l).map fun i=>(as.map Q1).getD i Zn).toArray m}->Q (.ref lst) {s with heap:=h',toks:=tk}):
  Qp (Qt prog w) A (call (.builtin "sorted") [.ref r]) Q E s:=by
 refine Ud kind_sorted plain_sorted entry_sorted (args_sorted1 _) ?_;unfold Builtin.«sorted»;refine Qa (m:=checkCount "sorted" 1 1 _) (Qe ?_);refine Qa (aR2 (A:=A.in1) (by simp[hh]) hv hod hdd (by rw[<-hl,Z6];omega) fun h1 tk as hkp hal hG hnd le0=> ?_);refine Qa (wpAny_newList ?_);have hoL:(h1.push (Yb "list" (as.map Q1).toArray 0)).get? h1.objs.size=some (Yb "list" (as.map Q1).toArray 0):=Ql _ rfl;show Qp _ _ _ _ _ {s with heap:=h1.push (Yb "list" (as.map Q1).toArray 0),toks:=tk};have al:as.length=l.length:=by rw[hal,hl]
 have vl:(as.map Q1).length=l.length:=by rw[Qh,al]
 have nas: ∀a∈as,a≠h1.objs.size:=fun a ha=>by
  obtain⟨j,hj⟩:=List.mem_iff_getElem?.mp ha;obtain⟨_,e,_,g⟩:=hG j a hj;exact Qz (Qn g)
 have prs: ∀(s':Qf),(∀b o,b≠h1.objs.size->(h1.push (Yb "list" (as.map Q1).toArray 0)).get? b=some o->s'.heap.get? b=some o)->∀(j:Nat) (a:Addr),as[j]? =some a->aYj prog w s'.heap a (ixP l j):=fun s' kp j a hj=>by
  obtain⟨_,e,e1,e2⟩:=hG j a hj;obtain⟨ka,t,k1,k2,o,items,n,g1,g2,g3,g4⟩:=hk j e e1;rw[k1,k2] at e2;refine⟨ka,t,kp a _ (nas a (Ua hj)) (Qb _ e2),o,items,n,?_,g2,g3,g4⟩;have g5:=hkp _ _ g1;exact kp ka _ (Qz (Qn g5)) (Qb _ g5)
 refine Qa (Yh (Za slot_list_sort ⟨_,hoL,rfl⟩ entry_list_sort (bIt (lt:=fun i j=>ltI (ixP l i) (ixP l j)) hoL (by rw[vl];omega) (fun h2 s' kp=> ?_) ⟨_,rfl,?_⟩) (args_list_sort _)))
 ·have P:=prs s' kp
  obtain⟨fs,t1,t2,t3⟩:=firsts as (fun a ha=>by obtain⟨j,hj⟩:=List.mem_iff_getElem?.mp ha;exact⟨_,P j a hj⟩);rw[vl] at h2;refine kat_kind (M:=Qt prog w) (T:= .type "tuple") t1 (by rw[t2,al];omega) (fun v hv=> ?_) rfl ⟨rfl,fun i j C hi hj hC=> ?_⟩
  ·obtain⟨ka,o,rfl,g1,g2⟩:=t3 v hv
   exact g2▸(show Looks (Qt prog w) _ (typeOf (.ref ka)) o.cls from (Looks.ld g1).andThen .now)
  ·rw[vl,<-al] at hi hj
   have ei:(as.map Q1).getD i Zn= .ref as[i]:=by rw[Q0,Q7,Qj hi];rfl
   have ej:(as.map Q1).getD j Zn= .ref as[j]:=by rw[Q0,Q7,Qj hj];rfl
   unfold kas_ask;rw[ei,ej];exact bEz (by simp;omega) (P i _ (Qj hi)) (P j _ (Qj hj)) hC
 ·refine Qe ⟨_,rfl,?_⟩
  rw[vl];have k1:=Y5 hoL (fun _=> #[]);have k2:=Y5 (Qb (Yb "list" #[] 0) (Qb (Yb "tuple" (as.map Q1).toArray 0) k1)) (fun _=>((aY8 l).map fun i=>(as.map Q1).getD i Zn).toArray);have keep: ∀b o,b≠h1.objs.size->h1.get? b=some o->(sortedHeap (h1.push (Yb "list" (as.map Q1).toArray 0)) h1.objs.size (as.map Q1) ((aY8 l).map fun i=>(as.map Q1).getD i Zn).toArray).get? b=some o:=fun b o nb e=>by
   unfold sortedHeap;rw[Q8 _ _ (Ne.symm nb)];refine Qb _ (Qb _ ?_);rw[Q8 _ _ (Ne.symm nb)];exact Qb _ e
  have le1:s.heap.objs.size<=h1.objs.size:=Um le0;refine q _ tk h1.objs.size _ as (fun b o e=>keep b o (Qz (Qn (hkp b o e))) (hkp b o e)) al hnd (fun j a hj=> ?_) le1 (fun h=>nas _ h rfl) k2;obtain⟨g1,e,e1,e2⟩:=hG j a hj;exact⟨Um g1,e,e1,keep a _ (nas a (Ua hj)) e2⟩
end
end L2.PU
namespace L2.PU
open PySem PySem.Spec PyProof.Rows
section
variable {K:Qc}{H₀ H:Hp}{ρ:Rho}{σ:St}
theorem Rel.bCd {i:Nat}{a:Addr}{o:DO}{w:HO}(r:Rel K H₀ ρ σ H)(hf:H a=none)(iv: ∀H',Same H H'->IsO K H' o w)(hI: ∀O:Nat->Option Addr,aSe (upd H a w) O->IsO K (Off (upd H a w) O) o w):Rel K H₀ (ρ.set i (some (.ow o))) (σ.set i (some (.ref a))) (upd H a w):=by
 obtain⟨O,h1,ho,h2,hl,h3⟩:=id r;by_cases hi:i<σ.length
 case neg=>
  have s1: ∀x:Option SV,ρ.set i x=ρ:=fun x=>Yr (by omega)
  have s2: ∀x:Option V,σ.set i x=σ:=fun x=>Yr (by omega)
  rw[s1,s2];exact r.mono (aAp hf _)
 have mu:bTm w=true:=(iv H (Same.refl H)).mut;have na: ∀j b,O j=some b->b≠a:=fun j b q e=>by
  subst e;obtain⟨u,z,m⟩:=ho j b q;rw[z] at hf;cases hf
 let O':Nat->Option Addr:=fun j=>if j=i then some a else O j
 have Oi:O' i=some a:=if_pos rfl;have On: ∀j,j≠i->O' j=O j:=fun j e=>if_neg e
 have hO':aSe (upd H a w) O':=fun j b q=>by
  by_cases e:j=i
  ·subst e
   rw[Oi] at q;cases q;exact⟨_,aAm,mu⟩
  ·rw[On j e] at q
   have nb:=na j b q;obtain⟨u,z,m⟩:=ho j b q;exact⟨u,by rw[aAo nb];exact z,m⟩
 have sm:Same (Off H O) (Off (upd H a w) O'):=fun b o q=>by
  have qh:=Off.same H O b o q;have nb:b≠a:=fun e=>by subst e;rw[hf] at qh;cases qh
  refine Off.of (by rw[aAo nb];exact qh) fun j z=> ?_
  by_cases e:j=i
  ·subst e
   rw[Oi] at z;cases z;exact nb rfl
  ·rw[On j e] at z
   exact Off.not q j z
 refine⟨O',fun j k b q1 q2=> ?_,hO',h2.trans sm,by rw[Q9,Q9,hl],fun j sv q=> ?_⟩
 ·by_cases e1:j=i
  ·by_cases e2:k=i
   ·rw[e1,e2]
   ·subst e1
    rw[Oi] at q1;cases q1;rw[On k e2] at q2;exact absurd rfl (na k _ q2)
  ·by_cases e2:k=i
   ·subst e2
    rw[Oi] at q2;cases q2;rw[On j e1] at q1;exact absurd rfl (na j _ q1)
   ·rw[On j e1] at q1
    rw[On k e2] at q2;exact h1 j k b q1 q2
 ·by_cases e:j=i
  ·subst e
   have hj:j<ρ.length:=by
    have:=(List.getElem?_eq_some_iff.mp q).1
    rwa [Q9] at this
   rw[Q4 hj] at q;have q':=Option.some.inj (Option.some.inj q);subst q';exact⟨a,w,Oi,Q4 (by rw[<-hl];exact hj),aAm,hI O' hO'⟩
  ·rw[Qs (Ne.symm e)] at q
   have z:=h3 j sv q;cases sv with
   | sh d'=>obtain⟨v',e1,e2⟩:=z;exact⟨v',by rw[Qs (Ne.symm e)];exact e1,e2.mono sm⟩
   | own ds'=>
    obtain⟨b,ws,e1,e2,e3,e4⟩:=z;exact⟨b,ws,by rw[On j e];exact e1,by rw[Qs (Ne.symm e)];exact e2,by rw[aAo (na j b e1)];exact e3,e4.mono sm⟩
   | oin b C dx fs=>
    obtain⟨e1,e2,e3,ws,e4,e5⟩:=z;exact⟨by rw[On j e];exact e1,by rw[Qs (Ne.symm e)];exact e2,e3,ws,by rw[aAo (na j b e1)];exact e4,e5.mono sm⟩
   | ow o'=>
    obtain⟨b,u,e1,e2,e3,e4⟩:=z;exact⟨b,u,by rw[On j e];exact e1,by rw[Qs (Ne.symm e)];exact e2,by rw[aAo (na j b e1)];exact e3,e4.mono sm⟩
   | tk ks=>obtain⟨b,e1,e2⟩:=z;exact⟨b,by rw[Qs (Ne.symm e)];exact e1,sm _ _ e2⟩
   | nl kd ls=>exact NL.move (by rw[Q9]) (Qs (Ne.symm e)) (fun m b w hm e1 e2=>⟨by rw[On m (by rcases hm with h | h<;>omega)];exact e1,by rw[aAo (na m b e1)];exact e2⟩) sm z
theorem Rel.bCc {i:Nat}{a:Addr}{o o':DO}{w':HO}(O:Nat->Option Addr)(h1: ∀i j a,O i=some a->O j=some a->i=j)(ho:aSe H O)(h2:Same H₀ (Off H O))(hl:ρ.length=σ.length)
  (h3: ∀i sv,ρ[i]? =some (some sv)->Slot K H O σ i sv) (q:ρ[i]? =some (some (.ow o))) (z1:O i=some a) (z2:σ[i]? =some (some (.ref a))) (iv:IsO K (Off H O) o' w'):Rel K H₀ (ρ.set i (some (.ow o'))) σ (upd H a w'):=by
 have eo:Off (upd H a w') O=Off H O:=Off.upd z1;refine⟨O,h1,fun j b qj=> ?_,by rw[eo];exact h2,by rw[Q9,hl],fun j sv qj=> ?_⟩
 ·by_cases e:b=a
  ·subst e;exact⟨_,aAm,iv.mut⟩
  ·obtain⟨u,w,m⟩:=ho j b qj
   exact⟨u,by rw[aAo e];exact w,m⟩
 ·by_cases e:j=i
  ·subst e
   have hj:j<ρ.length:=(List.getElem?_eq_some_iff.mp q).1;rw[Q4 hj] at qj;have q':=Option.some.inj (Option.some.inj qj);subst q';exact⟨a,w',z1,z2,aAm,by rw[eo];exact iv⟩
  ·rw[Qs (Ne.symm e)] at qj
   have z:=h3 j sv qj;cases sv with
   | sh d'=>obtain⟨v',e1,e2⟩:=z;exact⟨v',e1,by rw[eo];exact e2⟩
   | own es=>
    obtain⟨b,ws,e1,e2,e3,e4⟩:=z;have nb:b≠a:=fun w=>e (h1 j i a (by rw[<-w];exact e1) z1)
    exact⟨b,ws,e1,e2,by rw[aAo nb];exact e3,by rw[eo];exact e4⟩
   | oin b C' dx' fs'=>
    obtain⟨e1,e2,e3,ws,e4,e5⟩:=z;have nb:b≠a:=fun w=>e (h1 j i a (by rw[<-w];exact e1) z1)
    exact⟨e1,e2,e3,ws,by rw[aAo nb];exact e4,by rw[eo];exact e5⟩
   | ow o''=>
    obtain⟨b,u,e1,e2,e3,e4⟩:=z;have nb:b≠a:=fun w=>e (h1 j i a (by rw[<-w];exact e1) z1)
    exact⟨b,u,e1,e2,by rw[aAo nb];exact e3,by rw[eo];exact e4⟩
   | tk ks=>obtain⟨b,e1,e2⟩:=z;exact⟨b,e1,by rw[eo];exact e2⟩
   | nl kd ls=>
    have hi:i<σ.length:=by have:=(List.getElem?_eq_some_iff.mp q).1;omega
    exact NL.move rfl rfl (fun m b w hm e1 e2=>⟨e1,by rw[aAo (fun z=>absurd (h1 m i a (by rw[<-z];exact e1) z1) (by rcases hm with h | h<;>omega))];exact e2⟩) (by rw[eo];exact Same.refl _) z
end
def keyOf:D->Option Key
 | .int i=>some (.inl i)
 | .str x=>some (.inr x)
 | _=>none
def keysOf:List D->Option (List Key)
 | []=>some []
 | d::ds=>match keyOf d,keysOf ds with | some k,some ks=>some (k::ks) | _,_=>none
theorem aKx {K:Qc}{H:Hp}{d:D}{v:V}{k:Key}(i:Is K H d v)(h:keyOf d=some k):v=kV k:=by
 cases i<;>first |(cases h;done) |(cases h;rfl)
theorem aXu {K:Qc}{H:Hp}: ∀{ds:List D} {vs:List V} {ks:List Key},IsL K H ds vs->keysOf ds=some ks->vs=ks.map kV
 | _,_,_,.nil,h=>by cases h;rfl
 | _,_,_,.cons i r,h=>by
  unfold keysOf at h;split at h
  ·rename_i k ks h1 h2
   cases h;rw[aKx i h1,aXu r h2];rfl
  ·cases h
theorem aVq (xs:List Str):keysOf (xs.map D.str)=some (xs.map .inr):=by
 induction xs with
 | nil=>rfl
 | cons x xs ih=>rw[Qv,keysOf,ih];rfl
section
variable {X:Cx}{B:Hp}{e:Expr}{fa:Rho->M D}{pos pos' p pos2:Pos}{x:Str}{i j:Nat}
def bKp (i:Nat):Rho->Option Out:=fun ρ=>some (.nx (ρ.set i (some (.ow (.t [])))))
theorem bGr (hN:X.N.Nodup)(hi:X.N[i]? =some x)(hx:Loc X.env.scope x)(hs:Y3 (.Dict [] [] p) (some (.Name x pos')) pos.line X.env=pure false:=by rfl)(hf:X.fn x=true\/X.env.scope.names.lookup x=some .local:=by first | exact .inl rfl | exact .inr rfl | assumption):
  PDS X B (.Assign [.Name x pos'] (.Dict [] [] p) pos) (bKp i):=by
 refine PS.of (aS5 hN hi hx bGn hs hf) fun E σ H h=> ?_
 obtain⟨ρ,r,h⟩:=h;intro l hl;exact h _ _ (r.bCd (o:= .t []) hl (fun _ _=>IsT.nil) (fun _ _=>IsT.nil))
end
section
variable {κ:Type}[DecidableEq κ]
def aHf (kvs:List (κ×D))(k:κ):Option D:=(kvs.find? fun kv=>decide (kv.1=k)).map (·.2)
def aUl (kvs:List (κ×D))(k:κ)(d:D):List (κ×D):=
 if (kvs.any fun kv=>decide (kv.1=k))=true then kvs.map (fun kv=>if kv.1=k then (kv.1,d) else kv) else kvs++ [(k,d)]
end
section
variable {K:Qc}{H:Hp}
theorem aQc: ∀{kvs:List (List Key×D)} {vs:List (List Key×V)},IsT K H kvs vs->kvs.length=vs.length
 | _,_,.nil=>rfl
 | _,_,.cons _ r=>by rw[Qk,Qk,aQc r]
theorem bDb {k:List Key}: ∀{kvs:List (List Key×D)} {vs:List (List Key×V)},IsT K H kvs vs->(aHf kvs k=none/\aGj vs k=none)\/∃d v,aHf kvs k=some d/\aGj vs k=some v/\Is K H d v
 | _,_,.nil=> .inl ⟨rfl,rfl⟩
 | _,_,.cons (x:=x) (d:=d) (v:=v) i r=>by
  by_cases e:x=k
  ·exact .inr ⟨d,v,by simp[aHf,e],by simp[aGj,e],i⟩
  ·have h1: ∀ds,aHf ((x,d)::ds) k=aHf ds k:=fun ds=>by simp[aHf,Zu,e]
   have h2: ∀ds,aGj ((x,v)::ds) k=aGj ds k:=fun ds=>by simp[aGj,Zu,e]
   rw[h1,h2];exact bDb r
theorem bDc {k:List Key}: ∀{kvs:List (List Key×D)} {vs:List (List Key×V)},IsT K H kvs vs->(kvs.any fun kv=>decide (kv.1=k))=(vs.any fun kv=>decide (kv.1=k))
 | _,_,.nil=>rfl
 | _,_,.cons _ r=>by rw[Jm,Jm,bDc r]
theorem aVu {k:List Key}{d:D}{v:V}(i:Is K H d v): ∀{kvs:List (List Key×D)} {vs:List (List Key×V)},IsT K H kvs vs->IsT K H (kvs.map fun kv=>if kv.1=k then (kv.1,d) else kv) (vs.map fun kv=>if kv.1=k then (kv.1,v) else kv)
 | _,_,.nil=> .nil
 | _,_,.cons (x:=x) i' r=>by
  rw[Qv,Qv];by_cases e:x=k
  ·rw[if_pos e,if_pos e];exact .cons i (aVu i r)
  ·rw[if_neg e,if_neg e];exact .cons i' (aVu i r)
theorem aXz {k:List Key}{d:D}{v:V}(i:Is K H d v): ∀{kvs:List (List Key×D)} {vs:List (List Key×V)},IsT K H kvs vs->IsT K H (kvs++ [(k,d)]) (vs++ [(k,v)])
 | _,_,.nil=> .cons i .nil
 | _,_,.cons i' r=> .cons i' (aXz i r)
theorem bMr {k:List Key}{d:D}{v:V}(i:Is K H d v){kvs:List (List Key×D)}{vs:List (List Key×V)}(r:IsT K H kvs vs):IsT K H (aUl kvs k d) (putK vs k v):=by
 unfold aUl putK;rw[bDc (k:=k) r];split
 ·exact aVu i r
 ·exact aXz i r
end
section
variable {X:Cx}{B:Hp}{e:Expr}{fa:Rho->M D}{pos pos' p p2 tpos cpos apos:Pos}{x y:Str}{i j:Nat}
def aPi (ρ:Rho)(j:Nat):Option (List Key):=match ρ[j]? with
 | some (some (.tk ks))=>some ks
 | some (some (.sh (.tup ds)))=>keysOf ds
 | _=>none
theorem Rel.key {K:Qc}{B H:Hp}{ρ:Rho}{σ:St}{ks:List Key}(r:Rel K B ρ σ H)(qj:aPi ρ j=some ks): ∃b,σ[j]? =some (some (.ref b))/\H b=some (.tup (ks.map kV)):=by
 obtain⟨O,h1,ho,h2,hl,h3⟩:=r;unfold aPi at qj;split at qj
 ·rename_i ks' q
  cases qj;obtain⟨b,y1,y2⟩:=(show Slot K H O σ j (.tk ks) from h3 j _ q);exact⟨b,y1,Off.same _ _ _ _ y2⟩
 ·rename_i ds q
  obtain⟨v,y1,y2⟩:=(show Slot K H O σ j (.sh (.tup ds)) from h3 j _ q);cases y2 with
  | tup hh rr=>
   have ev:=aXu rr qj;subst ev;exact⟨_,y1,Off.same _ _ _ _ hh⟩
 ·cases qj
def aV8 (i j:Nat)(f:Rho->M D):Rho->M D:=fun ρ=>match ρ[i]?,aPi ρ j with
 | some (some (.ow (.t kvs))),some ks=>bnd (f ρ) fun d=>ok ((aHf kvs ks).getD d)
 | _,_=>none
theorem Rel.two {K:Qc}{B H:Hp}{ρ:Rho}{σ:St}{kvs:List (List Key×D)}{ks:List Key}(r:Rel K B ρ σ H)(qi:ρ[i]? =some (some (.ow (.t kvs))))(qj:aPi ρ j=some ks):
  ∃(O:Nat->Option Addr) (a b:Addr) (vs:List (List Key×V)),(∀i j a,O i=some a->O j=some a->i=j)/\aSe H O/\Same B (Off H O)/\ρ.length=σ.length/\(∀i sv,ρ[i]? =some (some sv)->Slot K H O σ i sv)/\
   O i=some a/\σ[i]? =some (some (.ref a))/\H a=some (.dT vs)/\IsT K (Off H O) kvs vs/\σ[j]? =some (some (.ref b))/\H b=some (.tup (ks.map kV)):=by
 obtain⟨b,y1,y2⟩:=r.key qj;obtain⟨O,h1,ho,h2,hl,h3⟩:=r;obtain⟨a,w,z1,z2,z3,z4⟩:=(show Slot K H O σ i (.ow (.t kvs)) from h3 i _ qi);cases w<;>first | exact Qg z4 | skip
 exact⟨O,a,b,_,h1,ho,h2,hl,h3,z1,z2,z3,z4,y1,y2⟩
theorem bGv {k:Nat}(hr:aFk k X.A)(i j:Nat){x y:Str}(he:PD X B e fa)(hst:aBu e=true:=by rfl)(hN:X.N[i]? =some x:=by rfl)(hv:Vis X.env.scope x:=by first | exact Qw rfl | exact Yt (Qw rfl) | exact Yt (Yt rfl))(hN2:X.N[j]? =some y:=by rfl)(hv2:Vis X.env.scope y:=by first | exact Qw rfl | exact Yt (Qw rfl) | exact Yt (Yt rfl))
  (hd:(x==("__debug__":Str))=false:=by decide) (hcd:(x==("__classdict__":Str))=false:=by decide) (hd2:(y==("__debug__":Str))=false:=by decide) (bQ2:(y==("__classdict__":Str))=false:=by decide)
  (hline:(apos.endLine==cpos.line)=true:=by rfl) (hfew:((backTo cpos (Zi [.Name y p2,e] X.env)).all (fun x=> !x.1)&&(backToKw cpos (keywordEach [] X.env)).all (fun x=>x.1.isSome)
  &&decide (([.Name y p2,e]:List Expr).length+([]:List Keyword).length+(if ([]:List Keyword).isEmpty then 0 else 1)<30))=true:=by rfl) (htr:backTo cpos (Zi [.Name y p2,e] X.env)=[(false,eval (.Name y p2) X.env),(false,eval e X.env)]:=by rfl):
  PD X B (.Call (.Attribute (.Name x p) "get" apos) [.Name y p2,e] [] cpos) (aV8 i j fa):=by
 refine PE.of (aW7 (aZq hr) (aD5 hN hv hd hcd) (aD5 hN2 hv2 hd2 bQ2) he ⟨rfl,hfew,hline,htr⟩) fun σ H Q h=> ?_
 obtain⟨ρ,r,h⟩:=h;unfold aV8 at h;split at h
 ·rename_i kvs ks qi qj
  obtain⟨O,a,b,vs,h1,ho,h2,hl,h3,z1,z2,z3,z4,y1,y2⟩:=r.two qi qj;refine⟨.ref a,z2,a,rfl,.inr ⟨vs,.inl z3⟩,.ref b,y1,ρ,r,(Res.bind h).imp fun d h1 v H1 s1 i1=>⟨aGj vs ks,aYm.t (s1 _ _ z3) (s1 _ _ y2),?_⟩⟩;rcases bDb (k:=ks) z4 with⟨e1,e2⟩ |⟨d',v',e1,e2,i'⟩
  ·rw[e2]
   refine h1 _ H1 s1 ?_;rw[e1];exact i1
  ·rw[e2]
   refine h1 _ H1 s1 ?_;rw[e1];exact (i'.mono (Off.same _ _)).mono s1
 ·exact Qg h
def aU0 (i j:Nat)(f:Rho->M D):Rho->Option Out:=fun ρ=>match ρ[i]?,aPi ρ j with
 | some (some (.ow (.t kvs))),some ks=>lft (f ρ) ρ fun d=>if d.imm=true/\kvs.length<100000 then some (.nx (ρ.set i (some (.ow (.t (aUl kvs ks d)))))) else none
 | _,_=>none
theorem bGp {k:Nat}(hr:aFk k X.A)(i j:Nat){x y:Str}(he:PD X B e fa)(hN:X.N[i]? =some x:=by rfl)(hv:Vis X.env.scope x:=by first | exact Qw rfl | exact Yt (Qw rfl) | exact Yt (Yt rfl))(hN2:X.N[j]? =some y:=by rfl)(hv2:Vis X.env.scope y:=by first | exact Qw rfl | exact Yt (Qw rfl) | exact Yt (Yt rfl))
  (hd:(x==("__debug__":Str))=false:=by decide) (hcd:(x==("__classdict__":Str))=false:=by decide) (hd2:(y==("__debug__":Str))=false:=by decide) (bQ2:(y==("__classdict__":Str))=false:=by decide)
  (hs:Y3 e (some (.Subscript (.Name x p) (.Name y p2) pos')) pos.line X.env=pure false:=by rfl):
  PDS X B (.Assign [.Subscript (.Name x p) (.Name y p2) pos'] e pos) (aU0 i j fa):=by
 refine PS.of (bB0 (aZq hr) (aD5 hN hv hd hcd) (aD5 hN2 hv2 hd2 bQ2) he hs) fun E σ H h=> ?_
 obtain⟨ρ,r,h⟩:=h;unfold aU0 at h;split at h
 ·rename_i kvs ks qi qj
  refine⟨ρ,r,(aBw r h).imp fun d h1 v H1 s1 i1=> ?_⟩;obtain⟨O,a,b,vs,g1,go,g2,gl,g3,z1,z2,z3,z4,y1,y2⟩:=(r.mono s1).two qi qj;split at h1
  ·rename_i hh
   refine⟨.ref a,z2,.ref b,y1,a,_,rfl,bJ4.t z3 y2 (by rw[<-aQc z4];exact Uz hh.2 (by decide)),?_⟩;exact h1 _ _ (Rel.bCc O g1 go g2 gl g3 qi z1 z2 (o':= .t (aUl kvs ks d)) (w':= .dT (putK vs ks v)) (bMr (aHn go hh.1 i1) z4))
  ·exact Qg h1
 ·exact Qg h
end
open Classical in
theorem Inv.many {X:Cx}{pins:List (Addr×Obj)}{σ:St}{H:Hp}{s:Qf}{h':Heap}{t':Nat}(I:Inv X pins σ H s)(k: ∀b u,s.heap.get? b=some u->h'.get? b=some u)(P:Addr->HO->Prop)(un: ∀b o o',P b o->P b o'->o=o')(hi: ∀b o,P b o->s.heap.objs.size<=b)
  (new: ∀H',Same H H'->(∀b o,P b o->H' b=some o)->∀b o,P b o->aBn X.prog X.w H' h' b o): ∃H',Same H H'/\(∀b o,P b o->H' b=some o)/\Inv X pins σ H' {s with heap:=h',toks:=t'}:=by
 let H':Hp:=fun b=>match H b with | some o=>some o | none=>if h: ∃o,P b o then some (Uj h) else none
 have sm:Same H H':=fun b o e=>by show (match H b with | some o=>some o | none=>_)=some o;rw[e]
 have fr: ∀b o,P b o->H b=none:=fun b o p=>I.hok.fresh (hi b o p)
 have at_: ∀b o,P b o->H' b=some o:=fun b o p=>by
  show (match H b with | some o=>some o | none=>if h: ∃o,P b o then some (Uj h) else none)=some o;rw[fr b o p];have hx: ∃o,P b o:=⟨o,p⟩;show (if h: ∃o,P b o then some (Uj h) else none)=some o;rw[dif_pos hx,un b _ o (Vw hx) p]
 have back: ∀b o,H' b=some o->H b=some o\/(H b=none/\P b o):=fun b o e=>by
  have e':(match H b with | some o=>some o | none=>if h: ∃o,P b o then some (Uj h) else none)=some o:=e;cases q:H b with
  | some u=>rw[q] at e';exact .inl e'
  | none=>
   rw[q] at e';have e2:(if h: ∃o,P b o then some (Uj h) else none)=some o:=e';split at e2
   ·rename_i hx;cases e2;exact .inr ⟨rfl,Vw hx⟩
   ·cases e2
 refine⟨H',sm,at_,I.un ⟨fun b u q _ _ _=>k b u q,fun b u q _ _ _=>⟨u.slots,k b u q⟩,fun b u q n _=> ?_,fun b u q _=>⟨u,k b u q⟩,fun b xs q=>sm _ _ q,fun b o u q=>sm _ _ q,fun b ps q=>⟨#[],by rw[sm _ _ q];simp⟩⟩ fun b o e=> ?_⟩
 ·cases q2:H' b with
  | none=>rfl
  | some o=>
   rcases back b o q2 with z |⟨_,z⟩
   ·rw[n] at z;cases z
   ·exact absurd (Qn q) (Nat.not_lt.mpr (hi b o z))
 ·rcases back b o e with z |⟨_,z⟩
  ·exact (I.hok b o z).stay (fun c v _ q=>k c v q) (fun c q=>sm _ _ q) fun c xs q=>sm _ _ q
  ·exact new H' sm at_ b o z
def bIq:List Key->Option (List Str)
 | []=>some []
 | .inr x::ks=>match bIq ks with | some xs=>some (x::xs) | none=>none
 | .inl _::_=>none
theorem bA6: ∀{ks:List Key} {xs:List Str},bIq ks=some xs->ks=xs.map .inr
 | [],xs,h=>by cases h;rfl
 | .inr x::ks,xs,h=>by
  unfold bIq at h;split at h
  ·rename_i ys e;cases h;rw[bA6 e];rfl
  ·cases h
 | .inl _::_,_,h=>by cases h
theorem bFt (xs:List Str):bIq (xs.map .inr)=some xs:=by
 induction xs with
 | nil=>rfl
 | cons x xs ih=>rw[Qv,bIq,ih]
def bHx:List (List Key×D)->Option (List (List Str×Int))
 | []=>some []
 |(ks,.int n)::r=>match bIq ks,bHx r with | some xs,some l=>some ((xs,n)::l) | _,_=>none
 | _::_=>none
def pD (p:List Str×Int):D:= .tup [.tup (p.1.map D.str),.int p.2]
def dictAt (ρ:Rho)(i:Nat):Option (List (List Key×D)):=match ρ[i]? with
 | some (some (.ow (.t kvs)))=>some kvs
 | some (some (.sh (.dt kvs)))=>some kvs
 | _=>none
theorem Rel.dict {K:Qc}{B H:Hp}{ρ:Rho}{σ:St}{kvs:List (List Key×D)}{i:Nat}(r:Rel K B ρ σ H)(qi:dictAt ρ i=some kvs): ∃a vs,σ[i]? =some (some (.ref a))/\H a=some (.dT vs)/\IsT K H kvs vs:=by
 obtain⟨O,h1,ho,h2,hl,h3⟩:=r;unfold dictAt at qi;split at qi
 ·rename_i q
  cases qi;obtain⟨a,w,z1,z2,z3,z4⟩:=(show Slot K H O σ i (.ow (.t kvs)) from h3 i _ q);cases w<;>first | exact Qg z4 | skip
  exact⟨a,_,z2,z3,IsT.mono (Off.same _ _) z4⟩
 ·rename_i q
  cases qi;obtain⟨v,z1,z2⟩:=(show Slot K H O σ i (.sh (.dt kvs)) from h3 i _ q);cases z2 with
  | dt hh rr=>exact⟨_,_,z1,Off.same _ _ _ _ hh,IsT.mono (Off.same _ _) rr⟩
 ·cases qi
def bEg (i:Nat):Rho->M D:=fun ρ=>match dictAt ρ i with
 | some kvs=>(match bHx kvs with | some l=>if l.length<64 then ok (.lst ((aY8 l).map fun j=>pD (ixP l j))) else none | none=>none)
 | _=>none
abbrev KR (H:Hp)(p:List Key×V)(q:List Key×Addr×Qd):Prop:=p.1=q.1/\H q.2.1=some (.tup (p.1.map kV))/\RelV p.2 q.2.2
theorem bEd {ks:List Key}{d:D}{r:List (List Key×D)}{l:List (List Str×Int)}(h:bHx ((ks,d)::r)=some l): ∃xs n l',d= .int n/\bIq ks=some xs/\bHx r=some l'/\l=(xs,n)::l':=by
 cases d<;>first |(cases h;done) | skip
 rename_i n;unfold bHx at h;split at h
 ·rename_i xs l' e1 e2
  cases h;exact⟨xs,n,l',rfl,e1,e2,rfl⟩
 ·cases h
theorem aV7 {K:Qc}{H H₂:Hp}: ∀{kvs:List (List Key×D)} {l:List (List Str×Int)} {vs:List (List Key×V)} {xs:List (List Key×Addr×Qd)},bHx kvs=some l->IsT K H kvs vs->Paired (KR H₂) vs xs->
  l.length=xs.length/\∀(j:Nat) (q:List Key×Addr×Qd),xs[j]? =some q->∃t,q.2.2=Value.int (ixP l j).2 t/\H₂ q.2.1=some (.tup ((ixP l j).1.map V.str))
 | [],l,_,_,h,.nil,.nil=>by cases h;exact⟨rfl,fun j q e=>by simp at e⟩
 |(ks,d)::r,l,_,_,h,.cons i r',.cons hp r2=>by
  obtain⟨zs,n,l',rfl,e1,e2,rfl⟩:=bEd h;obtain⟨g1,g2⟩:=aV7 e2 r' r2;have ek:=bA6 e1;subst ek;cases i;obtain⟨p1,p2,p3⟩:=hp;refine⟨by rw[Qk,Qk,g1],fun j q e=> ?_⟩;cases j with
  | zero=>
   cases e;obtain⟨t,ht⟩:=p3;refine⟨t,ht,?_⟩
   dsimp only at p2
   rw[p2,Zr];rfl
  | succ j=>exact g2 j q e
section
variable {X:Cx}{B:Hp}{pos p p2 apos cpos:Pos}{i:Nat}{x:Str}
theorem bC9 {K:Qc}{H:Hp}: ∀(xs:List Str),IsL K H (xs.map D.str) (xs.map V.str)
 | []=> .nil
 | x::xs=> .cons (.str x) (bC9 xs)
theorem aNn (l:List (List Str×Int)):(aY8 l).Perm (Zj l.length):=aNm _ _
theorem bCe (l:List (List Str×Int)): ∀j∈aY8 l,j<l.length:=fun j hj=>List.mem_range.mp ((aNn l).mem_iff.mp hj)
theorem bGw (l:List (List Str×Int)):(aY8 l).length=l.length:=by rw[(aNn l).length_eq,Zo]
theorem aY7 {k:Nat}(hr:aFk k X.A)(hc:X.calm=true)(hg:Gl X "sorted")(hm:X.mg "sorted"=none)(i:Nat){x:Str}(hN:X.N[i]? =some x:=by rfl)(hv:Vis X.env.scope x:=by first | exact Qw rfl | exact Yt (Qw rfl) | exact Yt (Yt rfl))
  (hd:(x==("__debug__":Str))=false:=by decide) (hcd:(x==("__classdict__":Str))=false:=by decide) (hline:(apos.endLine==cpos.line)=true:=by rfl):
  PD X B (.Call (.Name "sorted" p) [.Call (.Attribute (.Name x p2) "items" apos) [] [] cpos] [] pos) (bEg i):=by
 intro pins s σ H Q I h;obtain⟨ρ,r,h⟩:=h;unfold bEg at h;split at h
 ·rename_i kvs qi
  split at h
  ·rename_i l hl
   split at h
   ·rename_i h3
    obtain⟨a,vs,z2,z3,z4⟩:=r.dict qi;obtain⟨lz,bU6,xs,rel,od,es,ep,o1,o2,o3,o4,o5⟩:=(show aBn X.prog X.w H s.heap a (.dT vs) from I.hok a _ z3);obtain⟨ll,ent⟩:=aV7 hl z4 rel;have hT:s.TypeIs (.ref a) "dict":=⟨od,o1,o2.1⟩;refine J8 (aP9 I hg hm boot_sorted ?_ (by decide) (by decide));refine Wv ?_ (aAv rfl) rfl;show Qp _ _ (spliced [(false,eval (.Call (.Attribute (.Name x p2) "items" apos) [] [] cpos) X.env)]) _ _ s;refine J0 ?_;refine wpAny_Call_method0_late rfl hline (thn (aD5 hN hv hd hcd pins s σ H (fun v H1=>v= .ref a/\H1=H) I ⟨.ref a,z2,rfl,rfl⟩) fun v s1 hs1=> ?_);obtain⟨y,H1,I1,ry,ey,eH⟩:=hs1;subst ey eH;cases ry;obtain⟨lz,bU6,xs,rel,od,es,ep,o1,o2,o3,o4,o5⟩:=(show aBn X.prog X.w H1 s1.heap a (.dT vs) from I1.hok a _ z3);obtain⟨ll,ent⟩:=aV7 hl z4 rel;have hT:s1.TypeIs (.ref a) "dict":=⟨od,o1,o2.1⟩;refine⟨"dict","dict.items",We,Vr,PySem.F.type_dict_items,hT,fun b e=>by cases e;exact⟨od,o1,o2.2.1⟩,J1 rfl (El (aZn (ep:=ep) (od:=od) (es:=es) hT bU6 ?_))⟩;refine Calls.spliced_nil ?_;have kp0: ∀b o,s1.heap.get? b=some o->(s1.heap.push {cls:= .type "dict_items",data:= .fields #[.ref a]}).get? b=some o:=fun b o e=>Qb _ e
    have esz:l.length=es.size:=by rw[ll,<-Q6,o4,Qh]
    have entry: ∀(j:Nat) (e:Jc),es[j]? =some e->∃q,xs[j]? =some q/\e.key= .ref q.2.1/\e.val=q.2.2:=fun j e he=>by
     rw[entry_at o4 j] at he;obtain⟨q,e1,e2⟩:=Option.map_eq_some_iff.mp he;exact⟨q,e1,by rw[<-e2];rfl,by rw[<-e2];rfl⟩
    have v2: ∀zs:List Str,zs.map V.str=(zs.map (Yl:Str->Key)).map kV:=fun zs=>by rw[Zr];rfl
    refine aSq (s:={s1 with heap:=s1.heap.push {cls:= .type "dict_items",data:= .fields #[.ref a]}}) (l:=l) (I1.ok.hd hc) hr.units ⟨_,Ql _ rfl,rfl,rfl⟩ (kp0 _ _ o1) o3 h3 esz (fun j e he=> ?_) fun h' tk lst m as hkp hal hnd hpr hle hna hls=> ?_
    ·obtain⟨q,e1,e2,e3⟩:=entry j e he
     obtain⟨t,f1,f2⟩:=ent j q e1;rw[v2] at f2;exact⟨q.2.1,t,e2,by rw[e3,f1],aQa (I1.hok.kept kp0) f2⟩
    ·have asz: ∀(j:Nat) (b:Addr),as[j]? =some b->∃q t,xs[j]? =some q/\h'.get? b=some {cls:= .type "tuple",data:= .seq #[.ref q.2.1,.int (ixP l j).2 t]}/\H1 q.2.1=some (.tup ((ixP l j).1.map V.str)):=fun j b hj=>by
      obtain⟨_,e,e1,e2⟩:=hpr j b hj;obtain⟨q,q1,q2,q3⟩:=entry j e e1;obtain⟨t,f1,f2⟩:=ent j q q1;exact⟨q,t,q1,by rw[e2,q2,q3,f1],f2⟩
     have sz2:s1.heap.objs.size<=(s1.heap.push {cls:= .type "dict_items",data:= .fields #[.ref a]}).objs.size:=by simp[Heap.push]
     let PP:Addr->HO->Prop:=fun b o=>(b=lst/\o= .lst ((aY8 l).map fun j=>V.ref (as.getD j 0)))\/∃j q,as[j]? =some b/\xs[j]? =some q/\o= .tup [.ref q.2.1,.int (ixP l j).2]
     have un: ∀b o o',PP b o->PP b o'->o=o':=by
      intro b o o' h1 h2;rcases h1 with⟨e1,e2⟩ |⟨j,q,e1,e2,e3⟩
      ·rcases h2 with⟨f1,f2⟩ |⟨j',q',f1,f2,f3⟩
       ·rw[e2,f2]
       ·subst e1;exact absurd (Ua f1) hna
      ·rcases h2 with⟨f1,f2⟩ |⟨j',q',f1,f2,f3⟩
       ·subst f1;exact absurd (Ua e1) hna
       ·have:j=j':=(Wg (List.getElem?_eq_some_iff.mp e1).1 hnd).mp (e1.trans f1.symm)
        subst this;rw[e2] at f2;cases f2;rw[e3,f3]
     have hi: ∀b o,PP b o->s1.heap.objs.size<=b:=by
      intro b o h1;rcases h1 with⟨e1,e2⟩ |⟨j,q,e1,e2,e3⟩
      ·subst e1;exact Zs sz2 hle
      ·exact Zs sz2 (hpr j b e1).1
     have new: ∀H',Same H1 H'->(∀b o,PP b o->H' b=some o)->∀b o,PP b o->aBn X.prog X.w H' h' b o:=by
      intro H' sm at_ b o h1;rcases h1 with⟨e1,e2⟩ |⟨j,q,e1,e2,e3⟩
      ·subst e1 e2
       refine⟨by rw[Qh,bGw l,Z6];omega,(aY8 l).map fun i=>(as.map Q1).getD i Zn,m,?_,hls⟩;have go: ∀(ix:List Nat),(∀j∈ix,j<l.length)->Vals (ix.map fun j=>V.ref (as.getD j 0)) (ix.map fun i=>(as.map Q1).getD i Zn):=by
        intro ix
        induction ix with
        | nil=>intro _;exact .nil
        | cons j ix ih=>
         intro hj;refine .cons ?_ (ih fun j' h'=>hj j' (Qr _ h'));have jl:j<as.length:=by rw[hal];exact hj j Qm
         show (as.map Q1).getD j Zn= .ref (as.getD j 0);rw[Q0,Q0,Q7,Qj jl];rfl
       exact go (aY8 l) (bCe l)
      ·subst e3
       obtain⟨q',t,q1,q2,q3⟩:=asz j b e1;rw[e2] at q1;cases q1;exact⟨(by decide:2<=Qy),[.ref q.2.1,.int (ixP l j).2 t],.cons rfl (.cons ⟨t,rfl⟩ .nil),_,q2,rfl,⟨_,rfl⟩,rfl⟩
     obtain⟨H',sm,at_,I'⟩:=Inv.many (t':=tk) I1 (h':=h') (fun b u e=>hkp b u (kp0 b u e)) PP un hi new;refine⟨.ref lst,H',I',rfl,h _ H' sm (.lst (SqL.of (at_ lst _ (.inl ⟨rfl,rfl⟩))) ?_)⟩;have go: ∀(ix:List Nat),(∀j∈ix,j<l.length)->IsL X.K H' (ix.map fun j=>pD (ixP l j)) (ix.map fun j=>V.ref (as.getD j 0)):=by
      intro ix
      induction ix with
      | nil=>intro _;exact .nil
      | cons j ix ih=>
       intro hj;refine .cons ?_ (ih fun j' h'=>hj j' (Qr _ h'));have jl:j<as.length:=by rw[hal];exact hj j Qm
       have ja:as[j]? =some (as.getD j 0):=by rw[Q0,Qj jl];rfl
       obtain⟨q,t,q1,q2,q3⟩:=asz j _ ja;exact .tup (TQ.of (at_ _ _ (.inr ⟨j,q,ja,q1,rfl⟩))) (.cons (.tup (TQ.of (sm _ _ q3)) (bC9 _)) (.cons (.int _) .nil))
     exact go (aY8 l) (bCe l)
   ·exact Qg h
  ·exact Qg h
 ·exact Qg h
end
section
variable {X:Cx}{B:Hp}{e:Expr}{fa:Rho->M D}{pos p apos cpos:Pos}{x:Str}{i:Nat}
def bS0 (K:Qc):V->List V->Hp->VK->Prop:=fun x vs H Q=> ∃l b xs zs,x= .ref l/\vs=[.ref b]/\H l=some (.lst xs)/\(SqL K H b zs\/SqT K H b zs)/\xs.length+zs.length<=Qy/\Q .non (upd H l (.lst (xs++zs)))
theorem bL7:MtM X "list.extend" (bS0 X.K):=by
 intro pins s σ H x vs v us Q I rx rv h;obtain⟨l,b,xs,zs,rfl,rfl,hH,hB,hz,q⟩:=h;cases rx;obtain⟨u,rfl,ru⟩:=rv.one;cases ru;obtain⟨z,its,n,r,hl,e⟩:=I.bVa hH;obtain⟨its2,r2,o2,n2,ho2,hc2,hd2⟩: ∃its2:List Qd,Vals zs its2/\∃(o2:Obj) (n2:Nat),s.heap.get? b=some o2/\(o2.cls= .type "list"\/o2.cls= .type "tuple")/\o2.data= .seq its2.toArray n2:=by
  rcases hB with hB | hB
  ·obtain⟨its2,r2,⟨o2,n2,ho2,hc2,_,hd2⟩,z2⟩:=I.list hB
   exact⟨its2,r2,o2,n2,ho2,.inl hc2,hd2⟩
  ·obtain⟨its2,r2,⟨o2,ho2,hc2,n2,hd2⟩,z2⟩:=I.tuple hB
   exact⟨its2,r2,o2,n2,ho2,.inr hc2,hd2⟩
 have hl2:=r2.length;have hsz:its.toArray.size+its2.toArray.size<=Qy:=by rw[Qu,Qu];omega
 refine Za F.slot_list_extend ⟨_,e,rfl⟩ F.entry_list_extend ?_ (F.args_list_extend_2 _ _);show Qp _ _ (Z0 (.ref l) (.ref b) .none) _ _ _;unfold Z0;have ht:(Jd "list"==Jd "list")=true:=by rfl
 have ht2:(Jd "tuple"==Jd "tuple")=true:=by rfl
 rcases hc2 with hc2 | hc2
 ·refine Qa (wpAny_typeOf (T:="list") ⟨o2,ho2,hc2⟩ ?_)
  rw[if_pos (by rw[ht];simp)];refine Qa (listItems_at ho2 hd2 (Qa (listItems_at e rfl ?_)));rw[if_neg (by rw[aXj hsz,Jw];exact Q2)];refine Qa (listUpdate_at e rfl (Qe ⟨_,rfl,?_⟩) (by rw[Qu];omega) (by rw[Wb];omega));refine⟨.non,_,I.bTp (its':=its++its2) hH e (by simp) (r.append r2) ?_,rfl,q⟩;rw[Qq];omega
 ·refine Qa (wpAny_typeOf (T:="tuple") ⟨o2,ho2,hc2⟩ ?_)
  rw[if_pos (by rw[ht2];simp)];refine Qa (listItems_at ho2 hd2 (Qa (listItems_at e rfl ?_)));rw[if_neg (by rw[aXj hsz,Jw];exact Q2)];refine Qa (listUpdate_at e rfl (Qe ⟨_,rfl,?_⟩) (by rw[Qu];omega) (by rw[Wb];omega));refine⟨.non,_,I.bTp (its':=its++its2) hH e (by simp) (r.append r2) ?_,rfl,q⟩;rw[Qq];omega
def aYz (i:Nat)(g:Rho->M (List D)):Rho->Option Out:=fun ρ=>match ρ[i]? with
 | some (some (.own ds))=>lft (g ρ) ρ fun as=>(match as with
  | [.lst es]=>if aIq es=true/\ds.length+es.length<=100000 then some (.nx (ρ.set i (some (.own (ds++es))))) else none
  | [.tup es]=>if aIq es=true/\ds.length+es.length<=100000 then some (.nx (ρ.set i (some (.own (ds++es))))) else none
  | _=>none)
 | _=>none
theorem aU7 (hN:X.N[i]? =some x)(hv:Vis X.env.scope x)(ha:PD X B e fa)(hs:aBu e=true:=by rfl)(hline:(apos.endLine==cpos.line)=true:=by rfl)
  (hsw:Y3 (.Call (.Attribute (.Name x p) "extend" apos) [e] [] cpos) none pos.line X.env=pure false:=by rfl)
  (hd:(x==("__debug__":Str))=false:=by decide) (hcd:(x==("__classdict__":Str))=false:=by decide):
  PDS X B (.Expr (.Call (.Attribute (.Name x p) "extend" apos) [e] [] cpos) pos) (aYz i (aAa fa aAg)):=by
 refine PS.of (aQ4 (bK7 Wd PySem.F.slot_list_extend PySem.F.type_list_extend bL7 (aD5 hN hv hd hcd) (aAc ha aAi (aAv hs)) (hbase:=rfl) (hfew:=by rw[aLy hs];rfl) (hline:=hline) (hs:=aAv hs) (hplain:=rfl)) hsw) fun E σ H h=> ?_
 obtain⟨ρ,r1,h⟩:=h;unfold aYz at h;split at h
 ·rename_i ds q
  obtain⟨O,h1,ho,h2,hl,h3⟩:=(show Rel X.K B ρ σ H from r1);obtain⟨a,vs,z1,z2,z3,z4⟩:=h3 i _ q;refine⟨.ref a,z2,.inl ⟨rfl,_,SqL.of z3⟩,ρ,r1,(aBw r1 h).imp fun as k1 us H1 e1 i1=> ?_⟩;have ho1:=ho.mono e1;have z4':=z4.mono (Off.mono e1 (O:=O));split at k1
  ·rename_i es
   split at k1
   ·rename_i hh
    cases i1 with
    | cons id1 rest=>
     cases rest;cases id1 with
     | lst hq rr=>
      have il:=aMw ho1 hh.1 rr;refine⟨a,_,vs,_,rfl,rfl,e1 _ _ z3,.inl hq,?_,k1 _ _ (Rel.aVb O h1 ho1 (h2.trans (Off.mono e1)) hl (fun j sv qj=>(h3 j sv qj).mono e1) q z1 z2 (z4'.append il))⟩;rw[<-z4.length,<-rr.length];exact Zs hh.2 (by decide)
   ·exact Qg k1
  ·rename_i es
   split at k1
   ·rename_i hh
    cases i1 with
    | cons id1 rest=>
     cases rest;cases id1 with
     | tup hq rr=>
      have il:=aMw ho1 hh.1 rr;refine⟨a,_,vs,_,rfl,rfl,e1 _ _ z3,.inr hq,?_,k1 _ _ (Rel.aVb O h1 ho1 (h2.trans (Off.mono e1)) hl (fun j sv qj=>(h3 j sv qj).mono e1) q z1 z2 (z4'.append il))⟩;rw[<-z4.length,<-rr.length];exact Zs hh.2 (by decide)
   ·exact Qg k1
  ·exact Qg k1
 ·exact Qg h
end
theorem ar1 (us:List Qd)(hl:us.length=1): ∃a,us=[a]:=by
 cases us with
 | nil=>exact absurd hl (by simp)
 | cons a us=>
  cases us with
  | nil=>exact⟨a,rfl⟩
  | cons z us=>exact absurd hl (by simp)
theorem ar2 (us:List Qd)(hl:us.length=2): ∃a b,us=[a,b]:=by
 cases us with
 | nil=>exact absurd hl (by simp)
 | cons a us=>
  cases us with
  | nil=>exact absurd hl (by simp)
  | cons b us=>
   cases us with
   | nil=>exact⟨a,b,rfl⟩
   | cons z us=>exact absurd hl (by simp)
theorem ar3 (us:List Qd)(hl:us.length=3): ∃a b c,us=[a,b,c]:=by
 cases us with
 | nil=>exact absurd hl (by simp)
 | cons a us=>
  cases us with
  | nil=>exact absurd hl (by simp)
  | cons b us=>
   cases us with
   | nil=>exact absurd hl (by simp)
   | cons c us=>
    cases us with
    | nil=>exact⟨a,b,c,rfl⟩
    | cons z us=>exact absurd hl (by simp)
end L2.PU
namespace L2.HD
open PySem PySem.W
def q5 (v a b c d e:Nat):List Qd:=[(.ref a),(.bool true),(vi v),(.ref b),.none,(.ref c),(.ref d),(.ref e)]
def q3 (v a b e:Nat):List Qd:=[(.ref a),(.bool true),(vi v),(.ref b),.none,.none,.none,(.ref e)]
def okl (x:Str)(a b c d:Nat):Obj:=⟨(.type "type"),none,.cls ⟨x,[(.type "object")],[(.ref a),(.type "object")],b,x,true,[],[],false,none,false⟩,#[none,none,some (vs x c),some (vs x d),some (.builtin "object.__new__"),some (.bool true)]⟩
def gdd (a b:Nat):Obj:=ofd "getset_descriptor" [(vs "__dict__" a),(.ref b),(.builtin "function.__dict__"),(.builtin "function.__dict__#set")]
def gwd (a b:Nat):Obj:=ofd "getset_descriptor" [(vs "__weakref__" a),(.ref b),(.builtin "ExceptionGroup.__weakref__"),.none]
section
variable {K:Frag}{x q:Str}{st:Stmt}{f:Addr}{p1 p2 p3 p4:Str}
theorem fo1 (m:Str)(mt c:Nat)(l:K.lookup f=some (of x q st m mt c):=by kernel_rfl)(hc:codeIn K (.ref c) q=true:=by kernel_rfl)(hk:keepIn K (.ref f)=true:=by kernel_rfl)
  (b: ∀(kV doc pm:Qd) (an:Option Addr) (cdv ct u:Qd),bindArgs (fnOf x q (aE7 st) (aCo st) (aAk st) .none kV doc pm an cdv ct) ⟨[u],[]⟩=pure ([p1].zip [u]):=by intros;rfl): ∃fd,Fun K x q st f fd/\Binds K fd [p1] []:=
 fo [p1] l hc hk fun _ _ _ _ _ _ us hl=>by obtain⟨_,rfl⟩:=PU.ar1 us hl;exact b ..
theorem fo2 (m:Str)(mt c:Nat)(l:K.lookup f=some (of x q st m mt c):=by kernel_rfl)(hc:codeIn K (.ref c) q=true:=by kernel_rfl)(hk:keepIn K (.ref f)=true:=by kernel_rfl)
  (b: ∀(kV doc pm:Qd) (an:Option Addr) (cdv ct u v:Qd),bindArgs (fnOf x q (aE7 st) (aCo st) (aAk st) .none kV doc pm an cdv ct) ⟨[u,v],[]⟩=pure ([p1,p2].zip [u,v]):=by intros;rfl): ∃fd,Fun K x q st f fd/\Binds K fd [p1,p2] []:=
 fo [p1,p2] l hc hk fun _ _ _ _ _ _ us hl=>by obtain⟨_,_,rfl⟩:=PU.ar2 us hl;exact b ..
theorem fo3 (m:Str)(mt c:Nat)(l:K.lookup f=some (of x q st m mt c):=by kernel_rfl)(hc:codeIn K (.ref c) q=true:=by kernel_rfl)(hk:keepIn K (.ref f)=true:=by kernel_rfl)
  (b: ∀(kV doc pm:Qd) (an:Option Addr) (cdv ct u v w:Qd),bindArgs (fnOf x q (aE7 st) (aCo st) (aAk st) .none kV doc pm an cdv ct) ⟨[u,v,w],[]⟩=pure ([p1,p2,p3].zip [u,v,w]):=by intros;rfl): ∃fd,Fun K x q st f fd/\Binds K fd [p1,p2,p3] []:=
 fo [p1,p2,p3] l hc hk fun _ _ _ _ _ _ us hl=>by obtain⟨_,_,_,rfl⟩:=PU.ar3 us hl;exact b ..
end
end L2.HD
namespace L2.PU
open PySem PySem.Spec PyProof.Rows
def Kps (h h':Heap):Prop:= ∀b u,h.get? b=some u->h'.get? b=some u
end L2.PU
namespace L2.PU
open PySem PySem.Spec PyProof.Rows PySem.W
structure Tot (n:Nat)(lt:Nat->Nat->Bool):Prop where
 ir: ∀i,lt i i=false
 tr: ∀i j k,lt i j=true->lt j k=true->lt i k=true
 to: ∀i j,i<n->j<n->i≠j->lt i j=false->lt j i=true
theorem aF6 {α β:Type}{lt:Nat->Nat->Bool}{f:α->KasT β}: ∀(t:KasT α),aJd lt (t.bind f)=aJd lt (f (aJd lt t))
 | .ret _=>rfl
 | .ask i j k=>aF6 (k (lt i j))
abbrev gt0 (p:Array Nat)(i:Nat):Nat:=p.getD i 0
theorem Plc.size {n:Nat}{p:Array Nat}(h:Plc n p):p.size=n:=by
 have:=h.length_eq;rw[Q6,Zo] at this;exact this
theorem Plc.ne {n:Nat}{p:Array Nat}(h:Plc n p){i j:Nat}(hi:i<n)(hj:j<n)(e:i≠j):gt0 p i≠gt0 p j:=by
 have hs:=h.size;have nd:p.toList.Nodup:=h.nodup_iff.mpr List.nodup_range;intro q;have e1:p.toList[i]? =some (gt0 p i):=by
  have:i<p.toList.length:=by rw[Q6];omega
  rw[Qj this];simp[gt0,U0,show i<p.size by omega]
 have e2:p.toList[j]? =some (gt0 p j):=by
  have:j<p.toList.length:=by rw[Q6];omega
  rw[Qj this];simp[gt0,U0,show j<p.size by omega]
 exact e ((Wg (by rw[Q6];omega) nd).mp (by rw[e1,e2,q]))
section
variable {n:Nat}{lt:Nat->Nat->Bool}(T:Tot n lt)
def Asc (lt:Nat->Nat->Bool)(p:Array Nat)(a b:Nat):Prop:= ∀i,a<=i->i+1<b->lt (gt0 p i) (gt0 p (i+1))=true
include T
theorem aYd {p:Array Nat}{a b:Nat}(h:Asc lt p a b): ∀(d i:Nat),a<=i->i+d+1<b->lt (gt0 p i) (gt0 p (i+d+1))=true
 | 0,i,hi,hb=>h i hi hb
 | d+1,i,hi,hb=>T.tr _ _ _ (aYd h d i hi (by omega)) (h (i+d+1) (by omega) (by omega))
theorem aU2 {p:Array Nat}(hp:Plc n p): ∀(f m:Nat),1<=m->m+f<=n->Asc lt p 0 m->∃m',aJd lt (kas_asc p f m)=m'/\m<=m'/\m'<=m+f/\Asc lt p 0 m'/\(m'<m+f->lt (gt0 p m') (gt0 p (m'-1))=true)
 | 0,m,h1,h2,ha=>⟨m,rfl,Qo _,Qo _,ha,fun z=>by omega⟩
 | f+1,m,h1,h2,ha=>by
  have e:aJd lt (kas_asc p (f+1) m)=aJd lt (if lt (gt0 p m) (gt0 p (m-1))=true then .ret m else kas_asc p f (m+1)):=rfl;cases c:lt (gt0 p m) (gt0 p (m-1)) with
  | true=>exact⟨m,by rw[e,if_pos c];rfl,Qo _,by omega,ha,fun _=>c⟩
  | false=>
   obtain⟨m',g1,g2,g3,g4,g5⟩:=aU2 hp f (m+1) (by omega) (by omega) (fun i hi hb=>by
    by_cases q:i+1<m
    ·exact ha i hi q
    ·have:i=m-1:=by omega
     subst this;rw[show m-1+1=m by omega];exact T.to _ _ (hp.lt (by omega) _) (hp.lt (by omega) _) (hp.ne (by omega) (by omega) (by omega)) c)
   exact⟨m',by rw[e,if_neg (by rw[c];exact Q2)];exact g1,by omega,by omega,g4,fun z=>g5 (by omega)⟩
def Des (lt:Nat->Nat->Bool)(p:Array Nat)(b:Nat):Prop:= ∀i,i+1<b->lt (gt0 p (i+1)) (gt0 p i)=true
theorem aW2 {p:Array Nat}(hp:Plc n p): ∀(f m:Nat),1<=m->m+f<=n->Des lt p m->∃m',aJd lt (kas_desc f p m 0)=(p,m',0)/\m<=m'/\m'<=m+f/\Des lt p m'
 | 0,m,h1,h2,ha=>⟨m,rfl,Qo _,Qo _,ha⟩
 | f+1,m,h1,h2,ha=>by
  have e:aJd lt (kas_desc (f+1) p m 0)=aJd lt (if lt (gt0 p m) (gt0 p (m-1))=true then (if 0>0 then kas_desc f (kas_rev p (m-(0+1)) m) (m+1) 0 else kas_desc f p (m+1) 0)
   else .ask (gt0 p (m-1)) (gt0 p m) fun d=>if d=true then .ret (p,m,0) else kas_desc f p (m+1) (0+1)):=rfl
  cases c:lt (gt0 p m) (gt0 p (m-1)) with
  | true=>
   obtain⟨m',g1,g2,g3,g4⟩:=aW2 hp f (m+1) (by omega) (by omega) (fun i hb=>by
    by_cases q:i+1<m
    ·exact ha i q
    ·have:i=m-1:=by omega
     subst this;rw[show m-1+1=m by omega];exact c)
   exact⟨m',by rw[e,if_pos c,if_neg (by omega)];exact g1,by omega,by omega,g4⟩
  | false=>
   have d:=T.to _ _ (hp.lt (by omega) _) (hp.lt (by omega) _) (hp.ne (i:=m) (j:=m-1) (by omega) (by omega) (by omega)) c;refine⟨m,?_,Qo _,by omega,ha⟩;rw[e,if_neg (by rw[c];exact Q2)];show aJd lt (if lt (gt0 p (m-1)) (gt0 p m)=true then .ret (p,m,0) else kas_desc f p (m+1) (0+1))=_;rw[if_pos d];rfl
omit T in
theorem bDo {p:Array Nat}{m:Nat}(hm:m<=p.size){i:Nat}:gt0 (kas_rev p 0 m) i=if i<m then gt0 p (m-1-i) else gt0 p i:=by
 have e:=getElem?_mirror_all (xs:=p) (i:=0) (j:=m) hm i;have g: ∀(q:Array Nat) (k:Nat),gt0 q k=(q[k]?).getD 0:=fun q k=>by simp[gt0,U0,getElem?_def];split<;>rfl
 rw[g,show kas_rev p 0 m=mirror p 0 m ((m-0)/2) from rfl,e];by_cases q:i<m
 ·rw[if_pos ⟨Zy _,q⟩,if_pos q,g,show 0+m-1-i=m-1-i by omega]
 ·rw[if_neg (fun z=>q z.2),if_neg q,g]
theorem bF7 {p:Array Nat}(hp:Plc n p){m:Nat}(h1:1<=m)(h2:m<=n)(hd:Des lt p m): ∃m' p',aJd lt (kas_tail3 m n p)=(m',p')/\Plc n p'/\1<=m'/\m'<=n/\Asc lt p' 0 m':=by
 have hr:=hp.rev 0 m;obtain⟨m',g1,g2,g3,g4,_⟩:=aU2 T hr (n-m) m h1 (by omega) (fun i _ hb=>by
  rw[bDo (by rw[hp.size];exact h2),bDo (by rw[hp.size];exact h2),if_pos (by omega),if_pos hb];have:=hd (m-1-(i+1)) (by omega)
  rwa [show m-1-(i+1)+1=m-1-i by omega] at this)
 refine⟨m',kas_rev p 0 m,?_,hr,by omega,by omega,g4⟩;unfold kas_tail3;rw[aF6,g1];rfl
theorem bBm {p:Array Nat}(hp:Plc n p)(hn:2<=n): ∃m p',aJd lt (kas_count n p)=(m,p')/\Plc n p'/\1<=m/\m<=n/\Asc lt p' 0 m:=by
 obtain⟨m,g1,g2,g3,g4,g5⟩:=aU2 T hp (n-1) 1 (Qo _) (by omega) (fun i _ hb=>by omega);unfold kas_count;rw[aF6,g1];by_cases q:m=n
 ·rw[if_pos (by simpa using q)]
  exact⟨m,p,rfl,hp,g2,by omega,g4⟩
 ·rw[if_neg (by simpa using q)]
  by_cases q2:m>1
  ·rw[if_pos q2]
   have c:=aYd T g4 (m-2) 0 (Qo _) (by omega);rw[show 0+(m-2)+1=m-1 by omega] at c;refine⟨m,p,?_,hp,g2,by omega,g4⟩;show aJd lt (if lt (gt0 p 0) (gt0 p (m-1))=true then .ret (m,p) else kas_descPart m n (kas_rev p 0 m))=_;rw[if_pos c];rfl
  ·rw[if_neg q2]
   have em:m=1:=by omega
   subst em;have c:=g5 (by omega);obtain⟨m',k1,k2,k3,k4⟩:=aW2 T hp (n-(1+1)) (1+1) (by omega) (by omega) (fun i hb=>by
    have:i=0:=by omega
    subst this;exact c)
   unfold kas_descPart;rw[aF6,k1];show∃m p',aJd lt (if 0>0 then kas_tail3 m' n (kas_rev p (m'-(0+1)) m') else kas_tail3 m' n p)=(m,p')/\_;rw[if_neg (by omega)];exact bF7 T hp (by omega) (by omega) k4
theorem aNg {p:Array Nat}(hp:Plc n p){k:Nat}(hk:k<n)(ha:Asc lt p 0 k): ∀(f l r:Nat),r<=l+f->r<=k->l<=r->(∀i,i<l->lt (gt0 p i) (gt0 p k)=true)->(∀i,r<=i->i<k->lt (gt0 p k) (gt0 p i)=true)->
  ∃l',aJd lt (kas_place p k f l r)=l'/\l'<=k/\(∀i,i<l'->lt (gt0 p i) (gt0 p k)=true)/\(∀i,l'<=i->i<k->lt (gt0 p k) (gt0 p i)=true)
 | 0,l,r,h1,h2,h3,hl,hr=>⟨l,rfl,by omega,hl,fun i hi hk=>hr i (by omega) hk⟩
 | f+1,l,r,h1,h2,h3,hl,hr=>by
  unfold kas_place;by_cases q:l≥r
  ·rw[if_pos q]
   exact⟨l,rfl,by omega,hl,fun i hi hk=>hr i (by omega) hk⟩
  ·rw[if_neg q]
   have pw: ∀i j,i<j->j<k->lt (gt0 p i) (gt0 p j)=true:=fun i j hij hjk=>by
    have:=aYd T ha (j-i-1) i (Zy _) (by omega)
    rwa [show i+(j-i-1)+1=j by omega] at this
   show∃l',aJd lt (if lt (gt0 p k) (gt0 p ((l+r)/2))=true then kas_place p k f l ((l+r)/2) else kas_place p k f ((l+r)/2+1) r)=l'/\_;cases c:lt (gt0 p k) (gt0 p ((l+r)/2)) with
   | true=>
    rw[if_pos rfl];refine aNg hp hk ha f l ((l+r)/2) (by omega) (by omega) (by omega) hl fun i hi hik=> ?_
    by_cases e:i=(l+r)/2
    ·rw[e];exact c
    ·exact T.tr _ _ _ c (pw _ _ (by omega) hik)
   | false=>
    rw[if_neg Q2];have d:=T.to _ _ (hp.lt (by omega) _) (hp.lt (by omega) _) (hp.ne (i:=k) (j:=(l+r)/2) hk (by omega) (by omega)) c;refine aNg hp hk ha f ((l+r)/2+1) r (by omega) h2 (by omega) (fun i hi=> ?_) hr;by_cases e:i=(l+r)/2
    ·rw[e];exact d
    ·exact T.tr _ _ _ (pw _ _ (by omega) (by omega)) d
omit T in
theorem bDp {p:Array Nat}{k d:Nat}(hk:k<p.size)(hd:d<=k){i:Nat}:gt0 (bubble p k d) i=if i=k-d then gt0 p k else if k-d<i/\i<=k then gt0 p (i-1) else gt0 p i:=by
 have g: ∀(q:Array Nat) (k:Nat),gt0 q k=(q[k]?).getD 0:=fun q k=>by simp[gt0,U0,getElem?_def];split<;>rfl
 have b:=getElem?_bubble hk d hd i;rw[g,g p k,g p (i-1),g p i,b];by_cases c1:i=k-d
 ·rw[if_pos c1,if_pos c1]
 ·rw[if_neg c1,if_neg c1]
  by_cases c2:k-d<i/\i<=k
  ·rw[if_pos c2,if_pos c2]
  ·rw[if_neg c2,if_neg c2]
theorem bBn: ∀(f:Nat) (p:Array Nat) (k:Nat),Plc n p->1<=k->k+f=n->Asc lt p 0 k->∃p',aJd lt (kas_bin f p k)=p'/\Plc n p'/\Asc lt p' 0 n
 | 0,p,k,hp,h1,h2,ha=>⟨p,rfl,hp,by rw[<-h2];exact ha⟩
 | f+1,p,k,hp,h1,h2,ha=>by
  obtain⟨l,g1,g2,g3,g4⟩:=aNg T hp (k:=k) (by omega) ha k 0 k (by omega) (Qo _) (Zy _) (fun i hi=>by omega) (fun i hi hk=>by omega);have e:aJd lt (kas_bin (f+1) p k)=aJd lt (kas_bin f (bubble p k (k-l)) (k+1)):=by
   show aJd lt ((kas_place p k k 0 k).bind fun l=>kas_bin f (bubble p k (k-l)) (k+1))=_;rw[aF6,g1]
  rw[e];have hs:=hp.size;refine bBn f _ (k+1) (hp.of (bubble_perm _ _ _)) (by omega) (by omega) fun i _ hb=> ?_
  rw[bDp (by omega) (by omega),bDp (by omega) (by omega)];have kl:k-(k-l)=l:=by omega
  rw[kl];by_cases c1:i=l
  ·rw[if_pos c1,if_neg (by omega),if_pos (by omega),show i+1-1=i by omega]
   exact g4 i (by omega) (by omega)
  ·rw[if_neg c1]
   by_cases c2:l<i
   ·rw[if_pos (by omega),if_neg (by omega),if_pos (by omega),show i+1-1=i-1+1 by omega]
    exact ha (i-1) (Zy _) (by omega)
   ·rw[if_neg (by omega)]
    by_cases c3:i+1=l
    ·rw[if_pos c3]
     exact g3 i (by omega)
    ·rw[if_neg c3,if_neg (by omega)]
     exact ha i (Zy _) (by omega)
theorem bF8 (hn:2<=n): ∃p,aJd lt (kas_sort n)=p/\Plc n p/\Asc lt p 0 n:=by
 obtain⟨m,p,g1,g2,g3,g4,g5⟩:=bBm T (p:=List.toArray (Zj n)) (List.Perm.refl _) hn;unfold kas_sort;rw[aF6,g1];show∃p',aJd lt (if m<n then kas_bin (n-max m 1) p (max m 1) else .ret p)=p'/\_;rw[show max m 1=m by omega];by_cases q:m<n
 ·rw[if_pos q]
  exact bBn T (n-m) p m g2 g3 (by omega) g5
 ·rw[if_neg q]
  refine⟨p,rfl,g2,?_⟩;rw[show n=m by omega];exact g5
theorem aXf:(aXg lt n).Pairwise fun i j=>lt i j=true:=by
 unfold aXg;by_cases h:n<2
 ·rw[if_pos h]
  rcases (show n=0\/n=1 by omega) with e | e<;>subst e
  ·exact .nil
  ·exact List.pairwise_singleton _ _
 ·rw[if_neg h]
  obtain⟨p,g1,g2,g3⟩:=bF8 T (by omega);rw[g1,List.pairwise_iff_getElem];intro i j hi hj hij;rw[Q6] at hi hj;have e: ∀k (h:k<p.size),p.toList[k]'(by rw[Q6];exact h)=gt0 p k:=fun k h=>by simp[gt0,U0,h]
  rw[e i hi,e j hj];have hs:=g2.size;have:=aYd T g3 (j-i-1) i (Zy _) (by omega)
  rwa [show i+(j-i-1)+1=j by omega] at this
end
end L2.PU
namespace L2.PU
open PySem PySem.Spec PyProof.Rows
section
variable {prog:Qx}{w:Zb}{A:Ze}{E:Qd->Qf->Prop}{s:Qf}
theorem aYp {a b:Addr}{its:Array Qd}{Q:Qd->Qf->Prop}(ha:IsTup s.heap a its)(hb:IsTup s.heap b #[])(q:Q (.bool (its.size !=0)) s):
  Qp (Qt prog w) A (Builtin.«tuple.__ne__» ⟨[.ref a,.ref b],[]⟩) (fun fin s'=> ∃r,fin= .done (.ret r)/\Q r s') E s:=by
 obtain⟨⟨c1,d1,x1,l1⟩,o1,k1,n1,e1⟩:=ha;obtain⟨⟨c2,d2,x2,l2⟩,o2,k2,n2,e2⟩:=hb
 dsimp only at k1 e1 k2 e2
 subst k1 e1 k2 e2;have f2:=AutoSeq1.sub_tuple_tuple;unfold Builtin.«tuple.__ne__»
 wp_walk using Zq o1,Zq o2,wpAny_forIn_list _ (fun rest st s'=>st.1=none/\s'=s/\rest=[]) _
 case turn=>
  rintro p rest st s' ⟨g1,g2,g3⟩
  cases g3
 case fin=>
  rintro⟨b1,b2⟩ s' ⟨g1,g2,g3⟩
  subst g2
  dsimp only at g1
  subst g1
  wp_walk
  exact⟨_,rfl,by simpa[Builtin.Tuple.tupleCompareSizes] using q⟩
 case h=>
  exact⟨rfl,rfl,by simp⟩
theorem aZd {a b:Addr}{its:Array Qd}{Q:Qd->Qf->Prop}(ha:IsTup s.heap a its)(hb:IsTup s.heap b #[])(hu:A.units<cLine)(q:Q (.bool (its.size !=0)) s):
  Qp (Qt prog w) A (Yp .NotEq (.ref a) (.ref b)) Q E s:=by
 have ta:s.TypeIs (.ref a) "tuple":=ha.typeIs;have tb:s.TypeIs (.ref b) "tuple":=hb.typeIs;show Qp _ _ (richCompare .NotEq (.ref a) (.ref b)) _ _ _;refine wpAny_richCompare_same_room ta tb V2 (Za V2 ta PySem.F.entry_tuple_ne (aYp ha hb ?_) (PySem.F.args_tuple_ne_2 _ _)) hu;exact And.intro (fun z=>nomatch z) q
end
def N1 (p:Keyed):Int:=numOf p.1
def SL (l:List Keyed):Prop:=l.Pairwise fun p q=>N1 p<=N1 q
def bJ1:Nat->List (Nat×Nat×Nat)->List (List Keyed)->Prop
 | _,[],[]=>True
 | s,(b,n,_)::p,r::R=>b=s/\n=r.length/\0<n/\SL r/\bJ1 (s+n) p R
 | _,_,_=>False
structure TS (a0:List Keyed)(rest:List Keyed)(lo:Nat)(st:SortSt):Prop where
 kind:kindOf st=oneType'
 fail:failedOf st=none
 runs: ∃R,(arrOf st).toList=R.flatten++rest/\R.flatten.length=lo/\bJ1 0 (pendingOf st).toList R
 perm:(arrOf st).toList.Perm a0
def stand (t:Yq)(h:Int):Nat->SetTable.Probe
 | 0=>t.probeStart h
 | n+1=>t.advance (stand t h n)
section
variable {prog:Qx}{w:Zb}{K:Type}[DecidableEq K]{knd:KeyKind prog w K}{P:Qd->Prop}{A:Ze}{E:Qd->Qf->Prop}{s:Qf}
def aYi (knd:KeyKind prog w K)(h:Heap)(v:Qd)(ks:List K):Prop:= ∃p,v= .ref p/\IsTupleKey knd h ks p
end
section
variable {prog:Qx}{w:Zb}{K:Type}[DecidableEq K]{knd:KeyKind prog w K}{P:Qd->Prop}{A:Ze}{E:Qd->Qf->Prop}{s:Qf}
theorem aYi.moved {h h':Heap}{v:Qd}{ks:List K}(x:aYi knd h v ks)(hs: ∀p o,v= .ref p->h.get? p=some o->h'.get? p=some o):aYi knd h' v ks:=by
 obtain⟨p,rfl,o',items,n,ho',hc,hd',hi⟩:=x;exact⟨p,rfl,o',items,n,hs p o' rfl ho',hc,hd',hi⟩
end
section
variable {prog:Qx}{w:Zb}{A:Ze}{E:Qd->Qf->Prop}{s:Qf}
theorem aYi.inj {h h':Heap}{v:Qd}{a b:List Str}(x:aYi (Qi prog w) h v a)(y:aYi (Qi prog w) h' v b)(k:Kps h h'):a=b:=by
 obtain⟨p,rfl,hp⟩:=x;obtain⟨q,e,hq⟩:=y;cases e;obtain⟨o,items,n,ho,hc,hd,hi⟩:=hp;exact IsTupleKey.inj (h:=h') ⟨o,items,n,k _ _ ho,hc,hd,hi⟩ hq
end
theorem Paired.len {α β:Type}{F:α->β->Prop}: ∀{l₁:List α} {l₂:List β},Paired F l₁ l₂->l₁.length=l₂.length
 | _,_,.nil=>rfl
 | _,_,.cons _ t=>congrArg (· +1) (Paired.len t)
theorem Paired.at {α β:Type}{F:α->β->Prop}: ∀{l₁:List α} {l₂:List β} {i:Nat} {a:α},Paired F l₁ l₂->l₁[i]? =some a->∃b,l₂[i]? =some b/\F a b
 | _,_,_,_,.nil,e=>by simp at e
 | _,_,0,_,.cons h _,e=>by simp at e;subst e;exact⟨_,rfl,h⟩
 | _,_,i+1,a,.cons _ t,e=>by
  obtain⟨b,h1,h2⟩:=Paired.at (i:=i) (a:=a) t (by simpa using e);exact⟨b,by simpa using h1,h2⟩
def aQu:List D->Option (List Str)
 | []=>some []
 | .str x::r=>match aQu r with | some l=>some (x::l) | none=>none
 | _::_=>none
theorem aSi (xs:List Str):aQu (xs.map D.str)=some xs:=by
 induction xs with
 | nil=>rfl
 | cons x xs ih=>rw[Qv,aQu,ih]
theorem aUp {K:Qc}{H:Hp}: ∀{ds:List D} {vs:List V} {xs:List Str},aQu ds=some xs->IsL K H ds vs->vs=xs.map V.str
 | [],_,_,h,.nil=>by cases h;rfl
 | d::r,_,xs,h,.cons i t=>by
  unfold aQu at h;split at h
  ·rename_i e;cases e
  ·rename_i x r' e
   cases e;split at h
   ·rename_i l e1
    cases h;cases i;rw[aUp e1 t];rfl
   ·cases h
  ·cases h
theorem bAv: ∀{xs:List Str} {its:List Qd},Vals (xs.map V.str) its->TxA its xs
 | [],_,.nil=>trivial
 | _::_,_,.cons r t=>⟨r,bAv t⟩
def bWh:R2:=fun x y H Q=>(∃i j,x= .str i/\y= .str j/\Q (.bl (decide (i.cps.toList<j.cps.toList))) H)\/(∃(a b:Addr) (xs ys:List Str),x= .ref a/\y= .ref b/\H a=some (.tup (xs.map V.str))/\H b=some (.tup (ys.map V.str))/\Q (.bl (aEu xs ys)) H)
def bSb:D->D->M D
 | .str i,.str j=>ok (.bl (decide (i.cps.toList<j.cps.toList)))
 | .tup xs,.tup ys=>match aQu xs,aQu ys with | some xs,some ys=>ok (.bl (aEu xs ys)) | _,_=>none
 | _,_=>none
section
variable {X:Cx}{B:Hp}{a b:Expr}{fa fb:Rho->M D}{pos:Pos}
theorem bCf {k:Nat}(hr:aFk k X.A):OpR X (Yp .Lt) bWh:=by
 intro pins s σ H x y v u Q I rx ry h;rcases h with⟨i,j,rfl,rfl,q⟩ |⟨a,b,xs,ys,rfl,rfl,ha,hb,q⟩
 ·obtain⟨t,rfl⟩:=rx
  obtain⟨t',rfl⟩:=ry;exact lt_str (aBg I q rfl)
 ·cases rx;cases ry
  obtain⟨_,its,r1,td1⟩:=(show aBn X.prog X.w H s.heap a (.tup (xs.map V.str)) from I.hok a _ ha);obtain⟨_,jts,r2,td2⟩:=(show aBn X.prog X.w H s.heap b (.tup (ys.map V.str)) from I.hok b _ hb);exact aN7 td1.tup td2.tup (bAv r1) (bAv r2) (by have:=hr.un;omega) (aBg I q rfl)
theorem bPh {k:Nat}(hr:aFk k X.A)(ha:PD X B a fa)(hb:PD X B b fb):PD X B (.Compare a [.Lt] [b] pos) (b2 bSb fa fb):=
 aNl (bCf hr) (by
  intro H x y dx dy d Q ix iy e q;unfold bSb at e;split at e
  ·cases ix;cases iy;cases e
   exact .inl ⟨_,_,rfl,rfl,q _ H (Same.refl H) (.bl _)⟩
  ·split at e
   ·rename_i xs ys e1 e2
    cases ix with
    | tup h1 r1=>
     cases iy with
     | tup h2 r2=>
      cases e;have v1:=aUp e1 r1;have v2:=aUp e2 r2;subst v1 v2;exact .inr ⟨_,_,_,_,rfl,rfl,h1,h2,q _ H (Same.refl H) (.bl _)⟩
   ·cases e
  ·cases e) (by
  intro x y c h;unfold bSb at h;split at h
  ·cases h
  ·split at h<;>cases h
  ·cases h) ha hb (aHb _)
theorem bCg:OpR X (Yp .LtE) (fun x y H Q=> ∃i j,x= .str i/\y= .str j/\Q (.bl (!decide (j.cps.toList<i.cps.toList))) H):=by
 intro pins s σ H x y v u Q I rx ry h;obtain⟨i,j,rfl,rfl,q⟩:=h;obtain⟨t,rfl⟩:=rx;obtain⟨t',rfl⟩:=ry;exact PySem.P.le_str (aBg I q rfl)
end
abbrev Sm:=List (List Str×Int)
theorem aIx (a b:Str):decide (a.cps.toList<b.cps.toList)= !leS b a:=by
 rw[Yd,decide_eq_true_eq,W9,<-Bool.not_eq_true,aOd];exact List.not_le.symm
theorem aN6 (a:Str):decide (a.cps.toList<a.cps.toList)=false:=by
 rw[aIx];have:=aTo a a;rw[Bool.or_self] at this;rw[this];rfl
theorem aXr {a b c:Str}(h1:decide (a.cps.toList<b.cps.toList)=true)(h2:decide (b.cps.toList<c.cps.toList)=true):decide (a.cps.toList<c.cps.toList)=true:=
 decide_eq_true (List.lt_trans (of_decide_eq_true h1) (of_decide_eq_true h2))
theorem bJe {a b:Str}(ne:a≠b)(h:decide (a.cps.toList<b.cps.toList)=false):decide (b.cps.toList<a.cps.toList)=true:=by
 rw[aIx] at h⊢;cases q:leS a b with
 | false=>rfl
 | true=>
  have q2:leS b a=true:=by cases z:leS b a<;>simp_all
  exact absurd (aRr a b q q2) ne
theorem aP8: ∀(xs:List Str),aEu xs xs=false
 | []=>rfl
 | x::xs=>by unfold aEu;rw[if_pos rfl];exact aP8 xs
theorem aP7: ∀{xs ys zs:List Str},aEu xs ys=true->aEu ys zs=true->aEu xs zs=true
 | [],[],_,h,_=>by cases h
 | [],_::_,[],_,h=>by cases h
 | [],_::_,_::_,_,_=>rfl
 | _::_,[],_,h,_=>by cases h
 | _::_,_::_,[],_,h=>by cases h
 | x::xs,y::ys,z::zs,h1,h2=>by
  unfold aEu at h1 h2⊢;by_cases e1:x=y
  ·subst e1
   rw[if_pos rfl] at h1;by_cases e2:x=z
   ·subst e2
    rw[if_pos rfl] at h2⊢;exact aP7 h1 h2
   ·rw[if_neg e2] at h2⊢
    exact h2
  ·rw[if_neg e1] at h1
   by_cases e2:y=z
   ·subst e2
    rw[if_neg e1];exact h1
   ·rw[if_neg e2] at h2
    have t:=aXr h1 h2;rw[if_neg (fun e=>by rw[e,aN6] at t;cases t)];exact t
theorem bCw: ∀{xs ys:List Str},xs≠ys->aEu xs ys=false->aEu ys xs=true
 | [],[],n,_=>absurd rfl n
 | [],_::_,_,h=>by cases h
 | _::_,[],_,_=>rfl
 | x::xs,y::ys,n,h=>by
  unfold aEu at h⊢;by_cases e:x=y
  ·subst e
   rw[if_pos rfl] at h⊢;exact bCw (fun z=>n (by rw[z])) h
  ·rw[if_neg e] at h
   rw[if_neg (Ne.symm e)];exact bJe e h
theorem bP8 (p:List Str×Int):ltI p p=false:=by unfold ltI;rw[if_pos rfl,if_pos rfl]
theorem bCu {p q:List Str×Int}(n:p.1≠q.1):ltI p q=aEu p.1 q.1:=by unfold ltI;rw[if_neg n]
theorem bP7 {p q r:List Str×Int}(h1:ltI p q=true)(h2:ltI q r=true):ltI p r=true:=by
 unfold ltI at h1 h2⊢;by_cases e1:p.1=q.1
 ·rw[if_pos e1] at h1
  by_cases e2:q.1=r.1
  ·rw[if_pos e2] at h2
   rw[if_pos (e1.trans e2)];split at h1
   ·cases h1
   ·split at h2
    ·cases h2
    ·have a:=of_decide_eq_true h1
     have b:=of_decide_eq_true h2;rw[if_neg (by omega)];exact decide_eq_true (by omega)
  ·rw[if_neg e2] at h2
   rw[if_neg (fun e=>e2 (e1.symm.trans e)),e1];exact h2
 ·rw[if_neg e1] at h1
  by_cases e2:q.1=r.1
  ·rw[if_pos e2] at h2
   rw[if_neg (fun e=>e1 (e.trans e2.symm)),<-e2];exact h1
  ·rw[if_neg e2] at h2
   have t:=aP7 h1 h2;rw[if_neg (fun e=>by rw[e,aP8] at t;cases t)];exact t
abbrev kys (l:Sm):List (List Str):=l.map (·.1)
theorem bC6 {l:Sm}{i:Nat}(h:i<l.length):l[i]? =some (ixP l i):=by
 show l[i]? =some (l.getD i ([],0));rw[Q0,Qj h];rfl
theorem bOb {l:Sm}(nd:(kys l).Nodup):Tot l.length fun i j=>ltI (ixP l i) (ixP l j) where
 ir:=fun i=>bP8 _
 tr:=fun i j k h1 h2=>bP7 h1 h2
 to:=fun i j hi hj ne h=>by
  have nk:(ixP l i).1≠(ixP l j).1:=fun e=>ne ((Wg (l:=kys l) (by rw[Qh];exact hi) nd).mp (by rw[Q7,Q7,bC6 hi,bC6 hj];exact congrArg some e))
  rw[bCu nk] at h;rw[bCu (Ne.symm nk)];exact bCw nk h
def bFa (l:Sm):Sm:=(aY8 l).map (ixP l)
theorem bBt (l:Sm):(Zj l.length).map (ixP l)=l:=by
 apply List.ext_getElem?
 intro i;rw[Q7];by_cases h:i<l.length
 ·rw[Ex h,bC6 h];rfl
 ·rw[Y4 (by rw[Zo];omega),Y4 (by omega)];rfl
theorem aM9 (l:Sm):(bFa l).Perm l:=by
 have:=(aNn l).map (ixP l);rw[bBt] at this;exact this
theorem bFw (l:Sm):(bFa l).length=l.length:=(aM9 l).length_eq
theorem bBa {l:Sm}(nd:(kys l).Nodup):(bFa l).Pairwise fun p q=>ltI p q=true:=by
 unfold bFa;rw[Jq];exact aXf (bOb nd)
theorem bBb {l:Sm}(nd:(kys l).Nodup):(kys (bFa l)).Pairwise fun x y=>aEu x y=true:=by
 have nd2:(kys (bFa l)).Nodup:=((aM9 l).map (·.1)).nodup_iff.mpr nd;unfold kys at nd2⊢;rw[Jq];rw[E8,Jq] at nd2;refine List.Pairwise.imp₂ ?_ (bBa nd) nd2;intro p q h1 h2;rw[bCu h2] at h1;exact h1
def aPq (l:Sm)(k:List Str):Int:=((l.find? fun p=>decide (p.1=k)).map (·.2)).getD 0
def bGe (l:Sm)(k:List Str)(v:Int):Sm:=if (l.any fun p=>decide (p.1=k))=true then l.map (fun p=>if p.1=k then (p.1,v) else p) else l++ [(k,v)]
def bAp (l:Sm)(p:List Str×Int):Sm:=bGe l p.1 (aPq l p.1+p.2)
theorem aR9 {l:Sm}{k:List Str}:(l.any fun p=>decide (p.1=k))=true↔k∈kys l:=by
 rw[Zp,List.mem_map]
 constructor
 ·rintro⟨p,hp,e⟩;exact⟨p,hp,of_decide_eq_true e⟩
 ·rintro⟨p,hp,e⟩;exact⟨p,hp,decide_eq_true e⟩
theorem bFm {l:Sm}{k:List Str}(h:k∉kys l):aPq l k=0:=by
 unfold aPq;rw[List.find?_eq_none.mpr fun p hp e=>h (List.mem_map.mpr ⟨p,hp,of_decide_eq_true e⟩)];rfl
theorem aUn {l:Sm}(nd:(kys l).Nodup){p:List Str×Int}(hp:p∈l):aPq l p.1=p.2:=by
 induction l with
 | nil=>cases hp
 | cons q l ih=>
  rw[show kys (q::l)=q.1::kys l from rfl,Wq] at nd;unfold aPq;rw[Zu];rcases List.mem_cons.mp hp with e | e
  ·subst e;simp
  ·have ne:¬q.1=p.1:=fun z=>nd.1 (by rw[z];exact Wy e)
   rw[decide_eq_false ne];exact ih nd.2 e
theorem bMb {l:Sm}(nd:(kys l).Nodup){k:List Str}{v:Int}:(k,v)∈l↔k∈kys l/\aPq l k=v:=by
 constructor
 ·intro h;exact⟨Wy (f:=Vt) h,aUn nd h⟩
 ·rintro⟨h1,h2⟩
  obtain⟨p,hp,e⟩:=List.mem_map.mp h1;have:=aUn nd hp;rw[e,h2] at this;rw[show (k,v)=p from Prod.ext e.symm this];exact hp
theorem aW5 (l:Sm)(k:List Str)(v:Int):kys (bGe l k v)=if k∈kys l then kys l else kys l++ [k]:=by
 unfold bGe;by_cases h:k∈kys l
 ·rw[if_pos (aR9.mpr h),if_pos h]
  unfold kys;rw[Zr]
  apply Jt
  intro p _;show (if p.1=k then (p.1,v) else p).1=p.1;split<;>rfl
 ·rw[if_neg (fun z=>h (aR9.mp z)),if_neg h]
  unfold kys;rw[Zd];rfl
theorem bKu {l:Sm}{k:List Str}{v:Int}(k':List Str):aPq (bGe l k v) k'=if k'=k then v else aPq l k':=by
 unfold bGe;by_cases h:k∈kys l
 ·rw[if_pos (aR9.mpr h)]
  induction l with
  | nil=>cases h
  | cons q l ih=>
   rw[Qv];unfold aPq;rw[Zu,Zu];by_cases e:q.1=k
   ·rw[if_pos e]
    by_cases e2:k'=k
    ·rw[if_pos e2,decide_eq_true (e.trans e2.symm)]
     rfl
    ·rw[if_neg e2,decide_eq_false (fun z:q.1=k'=>e2 (z.symm.trans e))]
     by_cases h2:k∈kys l
     ·have:=ih h2
      rw[if_neg e2] at this;exact this
     ·have:l.map (fun p=>if p.1=k then (p.1,v) else p)=l:=by
       conv=>rhs;rw[<-Er l]
       apply Jt
       intro p hp;exact if_neg fun z=>h2 (by rw[<-z];exact Wy hp)
      rw[this]
   ·rw[if_neg e]
    have h2:k∈kys l:=by
     rcases List.mem_cons.mp h with z | z
     ·exact absurd z.symm e
     ·exact z
    by_cases e3:q.1=k'
    ·rw[decide_eq_true e3,if_neg (fun z=>e (e3.trans z))]
    ·rw[decide_eq_false e3]
     exact ih h2
 ·rw[if_neg (fun z=>h (aR9.mp z))]
  unfold aPq;rw[List.find?_append];by_cases e:k'=k
  ·rw[if_pos e,List.find?_eq_none.mpr fun p hp z=>h (List.mem_map.mpr ⟨p,hp,(of_decide_eq_true z).trans e⟩)]
   simp[e]
  ·rw[if_neg e]
   cases q:l.find? fun p=>decide (p.1=k') with
   | some p=>rfl
   | none=>simp[Ne.symm e]
theorem bE2 {l:Sm}(nd:(kys l).Nodup)(p:List Str×Int):(kys (bAp l p)).Nodup:=by
 unfold bAp;rw[aW5];split
 ·exact nd
 ·rename_i h
  rw[W6];exact⟨nd,by simp,fun x hx y hy=>by rw[U5] at hy;subst hy;exact fun e=>h (e▸hx)⟩
theorem bIa (l:Sm)(p:List Str×Int)(k:List Str):k∈kys (bAp l p)↔k∈kys l\/k=p.1:=by
 unfold bAp;rw[aW5];split
 ·rename_i h
  constructor
  ·exact .inl
  ·rintro (z | z)
   ·exact z
   ·rw[z];exact h
 ·rw[List.mem_append,U5]
theorem bNn (l:Sm)(p:List Str×Int)(k:List Str):aPq (bAp l p) k=aPq l k+(if p.1=k then p.2 else 0):=by
 unfold bAp;rw[bKu];by_cases e:k=p.1
 ·rw[if_pos e,if_pos e.symm,e]
 ·rw[if_neg e,if_neg (Ne.symm e)];omega
end L2.PU
namespace L2.PU
open PySem PySem.Spec PyProof.Rows PySem.W
def aUk (ts:List (List Str)):List (List Str):=(aXg (fun i j=>aEu (ts.getD i []) (ts.getD j [])) ts.length).map fun i=>ts.getD i []
theorem aU4 (ts:List (List Str)):(Zj ts.length).map (fun i=>ts.getD i [])=ts:=by
 apply Uq (by simp)
 intro i h1 h2;simp[h2]
theorem aI5 (ts:List (List Str)):(aUk ts).Perm ts:=by
 have:=(aNm (fun i j=>aEu (ts.getD i []) (ts.getD j [])) ts.length).map fun i=>ts.getD i []
 rw[aU4] at this;exact this
theorem bFv {ts:List (List Str)}(nd:ts.Nodup):(aUk ts).Pairwise fun a b=>aEu a b=true:=by
 unfold aUk;rw[Jq];refine aXf ⟨fun i=>aP8 _,fun a b c h1 h2=>aP7 h1 h2,fun i j hi hj hne hf=> ?_⟩;refine bCw (fun e=>hne ?_) hf;have e1:ts[i]? =ts[j]? :=by
  rw[Q0,Q0,Qj hi,Qj hj] at e;rw[Qj hi,Qj hj]
  simpa using e
 exact (Wg hi nd).mp e1
section
variable {prog:Qx}{w:Zb}{A:Ze}{E:Qd->Qf->Prop}{s:Qf}
theorem bMf {fin:Bool}{C:Bool->Qf->Prop}: ∀{xs ys:List Str} {vs us:List Qd} (i:Nat),ItemsAre (Qi prog w) xs vs->ItemsAre (Qi prog w) ys us->fin=decide (xs.length<ys.length)->C (aEu xs ys) s->KatLex prog w A true fin C (vs.zip us) i s:=by
 intro xs
 induction xs with
 | nil=>
  intro ys vs us i h1 h2 hf h;cases h1;rw[List.zip_nil_left];rw[aOa (.inl rfl),<-hf] at h;exact kat_nil h
 | cons x xs ih=>
  intro ys vs us i h1 h2 hf h;cases h1 with
  | cons k1 r1=>
   cases h2 with
   | nil=>
    rw[E1];rw[aOa (.inr rfl),<-hf] at h;exact kat_nil h
   | cons k2 r2=>
    rename_i y _ ys _;rw[Y6];refine kat_cons ((Qi prog w).eqBool k1 k2 ?_);unfold aEu at h;by_cases e:x=y
    ·rw[if_pos e] at h
     rw[decide_eq_true e];exact kat_yes (ih (i+1) r1 r2 (by rw[hf];simp) h)
    ·rw[if_neg e] at h
     rw[decide_eq_false e];obtain⟨t,rfl⟩:=Ye k1;obtain⟨u,rfl⟩:=Ye k2;refine kat_no ?_;cases hi:(true&&i==0) with
     | true=>exact oneLt_str h
     | false=>exact kat_one _ _ (lt_str (show W.BoolBack C (.bool _) s from h))
theorem bH8 {a b:Addr}{xs ys:List Str}{C:Bool->Qf->Prop}(ha:IsTupleKey (Qi prog w) s.heap xs a)(hb:IsTupleKey (Qi prog w) s.heap ys b)(h:C (aEu xs ys) s):Qp (Qt prog w) A (keyLt' (tuples' true) (.ref a) (.ref b)) C E s:=by
 obtain⟨o,its,n,h1,_,h2,h3⟩:=ha;obtain⟨o',jts,n',g1,_,g2,g3⟩:=hb;refine kat_lt h1 h2 g1 g2 (bMf 0 h3 g3 ?_ h);rw[h3.length,g3.length];simp
theorem aQe {h:Heap}: ∀(vs:List Qd),(∀v∈vs,∃ks,aYi (Qi prog w) h v ks/\ks≠[])->∃fs,KatTups h vs fs/\fs.length=vs.length/\∀v∈fs,∃x t,v=Jk x t
 | [],_=>⟨[],trivial,rfl,fun v hv=>by simp at hv⟩
 | v::vs,hp=>by
  obtain⟨fs,h1,h2,h3⟩:=aQe vs fun b hb=>hp b (Qr _ hb)
  obtain⟨ks,⟨a,rfl,o,items,n,g1,g2,g3,g4⟩,hne⟩:=hp v Qm;obtain⟨il⟩:=items;cases g4 with
  | nil=>exact absurd rfl hne
  | cons k1 k2=>
   obtain⟨t,rfl⟩:=Ye k1;refine⟨_::fs,⟨⟨a,o,_,n,rfl,g1,g2,g3,by simp;rfl⟩,h1⟩,by rw[Qk,Qk,h2],fun v hv=> ?_⟩;rcases List.mem_cons.mp hv with e | e
   ·exact⟨_,t,e⟩
   ·exact h3 v e
end
end L2.PU
namespace L2.PU
open PySem PySem.Spec PyProof.Rows
def sD (l:Sm):D:= .tup (l.map pD)
def kvD (p:List Str×Int):List Key×D:=(p.1.map .inr,.int p.2)
theorem bPl (p:List Str×Int):(pD p).imm=true:=by
 show ((tS p.1).imm&&((D.int p.2).imm&&true))=true;rw[aJr];rfl
theorem bMv (l:Sm):aIq (l.map pD)=true:=by
 induction l with
 | nil=>rfl
 | cons p l ih=>
  show ((pD p).imm&&aIq (l.map pD))=true;rw[bPl,ih];rfl
theorem bOn (l:Sm):(sD l).imm=true:=bMv l
theorem bN4 (l:Sm)(k:List Str):(aHf (l.map kvD) (k.map .inr)).getD (.int 0)= .int (aPq l k):=by
 unfold aHf aPq
 induction l with
 | nil=>rfl
 | cons p l ih=>
  rw[Qv,Zu,Zu];by_cases e:p.1=k
  ·rw[decide_eq_true (show (kvD p).1=k.map .inr from aHq.mpr e),decide_eq_true e]
   rfl
  ·rw[decide_eq_false (fun z:(kvD p).1=k.map .inr=>e (aHq.mp z)),decide_eq_false e]
   exact ih
theorem bO0 (l:Sm)(k:List Str)(v:Int):aUl (l.map kvD) (k.map .inr) (.int v)=(bGe l k v).map kvD:=by
 have ha:((l.map kvD).any fun kv=>decide (kv.1=k.map .inr))=(l.any fun p=>decide (p.1=k)):=by
  rw[List.any_map]
  congr 1
  funext p
  show decide ((kvD p).1=k.map Yl)=_;by_cases e:p.1=k
  ·rw[decide_eq_true (show (kvD p).1=k.map Yl from aHq.mpr e),decide_eq_true e]
  ·rw[decide_eq_false (fun z:(kvD p).1=k.map Yl=>e (aHq.mp z)),decide_eq_false e]
 unfold aUl bGe;rw[ha];split
 ·rw[Zr,Zr]
  apply Jt
  intro p _;show (if (kvD p).1=k.map Yl then ((kvD p).1,D.int v) else kvD p)=kvD (if p.1=k then (p.1,v) else p);by_cases e:p.1=k
  ·rw[if_pos (show (kvD p).1=k.map Yl from aHq.mpr e),if_pos e];rfl
  ·rw[if_neg (fun z:(kvD p).1=k.map Yl=>e (aHq.mp z)),if_neg e]
 ·rw[Zd]
  rfl
theorem bRs (l:Sm):bHx (l.map kvD)=some l:=by
 induction l with
 | nil=>rfl
 | cons p l ih=>
  show (match bIq (p.1.map Yl),bHx (l.map kvD) with | some xs,some l=>some ((xs,p.2)::l) | _,_=>none)=_;rw[bFt,ih]
theorem bQ6 {i j:Nat}{ρ:Rho}{l:Sm}{k:List Str}(hi:ρ[i]? =some (some (.ow (.t (l.map kvD)))))(hj:aPi ρ j=some (k.map .inr)):aV8 i j (con (.int 0)) ρ=ok (.int (aPq l k)):=by
 unfold aV8;rw[hi,hj];show bnd (ok (D.int 0)) _=_;rw[aB0,bN4]
theorem bOz {i j:Nat}{f:Rho->M D}{ρ:Rho}{l:Sm}{k:List Str}{v:Int}(hi:ρ[i]? =some (some (.ow (.t (l.map kvD)))))(hj:aPi ρ j=some (k.map .inr))(hf:f ρ=ok (.int v))(hl:l.length<100000):
  aU0 i j f ρ=some (.nx (ρ.set i (some (.ow (.t ((bGe l k v).map kvD)))))):=by
 unfold aU0;rw[hi,hj];show lft (f ρ) ρ _=_;rw[hf,aLt,if_pos ⟨rfl,by rw[Qh];exact hl⟩,bO0]
theorem bKj {i:Nat}{ρ:Rho}{l:Sm}(hi:dictAt ρ i=some (l.map kvD))(hl:l.length<64):bEg i ρ=ok (.lst ((bFa l).map pD)):=by
 unfold bEg;rw[hi];show (match bHx (l.map kvD) with | some l=>_ | none=>_)=_;rw[bRs];show (if l.length<64 then ok (D.lst ((aY8 l).map fun j=>pD (ixP l j))) else none)=_;rw[if_pos hl];unfold bFa;rw[Zr];rfl
theorem bQf {ρ:Rho}{j:Nat}{k:List Str}(h:ρ[j]? =some (some (.sh (tS k)))):aPi ρ j=some (k.map .inr):=by
 unfold aPi;rw[h];exact aVq k
theorem bIb (l:Sm)(p:List Str×Int):(bAp l p).length<=l.length+1:=by
 unfold bAp bGe;split
 ·rw[Qh];omega
 ·rw[Qq,Up];omega
theorem bNm {i j:Nat}{f:Rho->M D}{ρ:Rho}{l:Sm}{k:List Str}{n:Int}(hi:ρ[i]? =some (some (.ow (.t (l.map kvD)))))(hj:aPi ρ j=some (k.map .inr))(hf:f ρ=ok (.int n))(hl:l.length<100000):
  aAn (aU0 i j (b2 aA4 (aV8 i j (con (.int 0))) f)) aAz ρ=some (.nx (ρ.set i (some (.ow (.t ((bAp l (k,n)).map kvD)))))):=by
 rw[aAe (bOz (v:=aPq l k+n) hi hj (aHx (bQ6 hi hj) hf) hl)];rfl
theorem aWi {α:Type}(e:α->D): ∀(xs ys:List α),aWk (xs.map e) (ys.map e)=(xs.zip ys).map fun p=>D.tup [e p.1,e p.2]
 | [],_=>rfl
 | _::_,[]=>rfl
 | x::xs,y::ys=>by show D.tup [e x,e y]::aWk (xs.map e) (ys.map e)=_;rw[aWi e xs ys];rfl
theorem bMo {α:Type}{e:α->D}{f g:Rho->M D}{ρ:Rho}{x y:D}{xs ys:List α}(h1:f ρ=ok x)(h2:g ρ=ok y)(i1:itD x=ok (xs.map e))(i2:itD y=ok (ys.map e)):itZ f g ρ=ok ((xs.zip ys).map fun p=>D.tup [e p.1,e p.2]):=by
 unfold itZ;rw[aAf h1 (aAf h2 aAq),aB0];show bnd (itD x) (fun as=>bnd (itD y) fun bs=>ok (aWk as bs))=_;rw[i1,aB0,i2,aB0,aWi]
theorem aX9 {α:Type}{e:α->D}{k k2:Nat}{fe:Rho->M D}{ρ:Rho}{g:α×α->D}(hne:k≠k2)(he: ∀a,(e a).imm=true): ∀(l:List (α×α)),(∀p∈l,fe ((ρ.set k (some (.sh (e p.1)))).set k2 (some (.sh (e p.2))))=ok (g p)/\(g p).imm=true)->
  aO2 [k,k2] h2 (fun _=>ok true) fe (l.map fun p=>D.tup [e p.1,e p.2]) ρ=ok (l.map g)
 | [],_=>rfl
 | x::l,h=>by
  obtain⟨e1,e2⟩:=h x Qm;have ih:=aX9 (g:=g) hne he l fun p hp=>h p (Qr _ hp)
  rw[Qv,Qv];unfold aO2;show (match fe ((ρ.set k (some (.sh (e x.1)))).set k2 (some (.sh (e x.2)))) with
    | some (.ok r)=>if r.imm=true then bnd (aO2 [k,k2] h2 (fun _=>ok true) fe (l.map fun (p:α×α)=>D.tup [e p.1,e p.2]) ρ) fun rs=>ok (r::rs) else none
    | _=>none)=_
  rw[e1,ih];show (if (g x).imm=true then bnd (ok (l.map g)) fun rs=>ok (g x::rs) else none)=_;rw[if_pos e2];rfl
theorem bNb {α:Type}{e:α->D}{m k k2:Nat}{it:Rho->M (List D)}{fe:Rho->M D}{ρ:Rho}{l:List (α×α)}{g:α×α->D}(hne:k≠k2)(he: ∀a,(e a).imm=true)(hi:it ρ=ok (l.map fun p=>D.tup [e p.1,e p.2]))(hl:l.length<=1000)
  (h: ∀p∈l,fe (((ext m (free ρ)).set k (some (.sh (e p.1)))).set k2 (some (.sh (e p.2))))=ok (g p)/\(g p).imm=true):cmp m it [k,k2] h2 (fun _=>ok true) fe ρ=ok (.lst (l.map g)):=by
 unfold cmp;rw[hi,aB0,if_pos (by rw[Qh];omega),aX9 hne he l h,aB0]
theorem aYa {α:Type}{k:Nat}{fe:Rho->M D}{ρ:Rho}{e:α->D}{g:α->D}: ∀(l:List α),(∀x∈l,fe (ρ.set k (some (.sh (e x))))=ok (g x)/\(g x).imm=true)->aO2 [k] h1 (fun _=>ok true) fe (l.map e) ρ=ok (l.map g)
 | [],_=>rfl
 | x::l,h=>by
  obtain⟨e1,e2⟩:=h x Qm;have ih:=aYa (g:=g) l fun p hp=>h p (Qr _ hp)
  rw[Qv,Qv];unfold aO2;show (match fe (ρ.set k (some (.sh (e x)))) with
    | some (.ok r)=>if r.imm=true then bnd (aO2 [k] h1 (fun _=>ok true) fe (l.map e) ρ) fun rs=>ok (r::rs) else none
    | _=>none)=_
  rw[e1,ih];show (if (g x).imm=true then bnd (ok (l.map g)) fun rs=>ok (g x::rs) else none)=_;rw[if_pos e2];rfl
theorem aR3 {α:Type}{m k:Nat}{it:Rho->M (List D)}{fe:Rho->M D}{ρ:Rho}{l:List α}{e:α->D}{g:α->D}(hi:it ρ=ok (l.map e))(hl:l.length<=1000)
  (h: ∀x∈l,fe ((ext m (free ρ)).set k (some (.sh (e x))))=ok (g x)/\(g x).imm=true):cmp m it [k] h1 (fun _=>ok true) fe ρ=ok (.lst (l.map g)):=by
 unfold cmp;rw[hi,aB0,if_pos (by rw[Qh];omega),aYa l h,aB0]
structure MarkS (l:Sm):Prop where
 ks:(kys l).Pairwise fun x y=>aEu x y=true
 fa: ∀p∈l,p.1.Pairwise fun x y=>leS x y=true
 po: ∀p∈l,1<=p.2
theorem aGs {α:Type}[DecidableEq α]: ∀{l m:List α},l.Nodup->(∀x∈l,x∈m)->l.length<=m.length
 | [],_,_,_=>Zy _
 | x::l,m,hn,hs=>by
  rw[Wq] at hn;have hx:=hs x Qm;have:=aGs (l:=l) (m:=m.erase x) hn.2 fun y hy=>(Ep (a:=y) (b:=x) (fun e=>hn.1 (by rw[<-e];exact hy))).mpr (hs y (Qr _ hy))
  rw[V6 hx] at this;have:0<m.length:=List.length_pos_of_mem hx;rw[Qk];omega
def bFk (P k:List Str):Prop:= ∃xs:List Str,k=aGk xs/\xs.length<=3/\∀x∈xs,x∈P
def r4:List Nat:=[0,1,2,3]
def L35:List (List Nat):=[[]]++(r4.map fun a=> [a])++(r4.flatMap fun a=>(r4.filter fun b=>decide (a<=b)).map fun b=> [a,b])++(r4.flatMap fun a=>(r4.filter fun b=>decide (a<=b)).flatMap fun b=>(r4.filter fun c=>decide (b<=c)).map fun c=> [a,b,c])
theorem w1: ∀a:Fin 4,(L35.any fun l=>l.isPerm [a.1])=true:=by decide
theorem w2: ∀a b:Fin 4,(L35.any fun l=>l.isPerm [a.1,b.1])=true:=by decide
theorem w3: ∀a b c:Fin 4,(L35.any fun l=>l.isPerm [a.1,b.1,c.1])=true:=by decide
def sWh (t:Rho->M Bool)(F:Rho->Option Out):Nat->Rho->Option Out
 | 0,_=>none
 | n+1,ρ=>lft (t ρ) ρ fun b=>if b=true then (match F ρ with
  | some (.nx ρ')=>sWh t F n ρ'
  | some (.ct ρ')=>sWh t F n ρ'
  | some (.bk ρ')=>some (.nx ρ')
  | some (.rt d)=>some (.rt d)
  | some (.ex c ρ')=>some (.ex c ρ')
  | none=>none) else some (.nx ρ)
def aPy (t:Rho->M Bool)(F:Rho->Option Out):Rho->Option Out:=sWh t F 100000
theorem aW0 {t:Rho->M Bool}{F:Rho->Option Out}{ρ:Rho}(h:t ρ=ok false)(n:Nat):sWh t F (n+1) ρ=some (.nx ρ):=by
 unfold sWh;rw[h,aLt,if_neg Q2]
section
variable {X:Cx}{B:Hp}{c:Expr}{body:List Stmt}{tc:Rho->M Bool}{F:Rho->Option Out}{pos:Pos}
theorem bB6 (hp:PassesOwn (Qt X.prog X.w) X.A X.env X.xe)(hc:PDT X B c tc)(hb:PDB X B body F):PDS X B (.While c body [] pos) (aPy tc F):=by
 refine PS.of (bGh hp hc hb) fun E σ H h=> ?_
 obtain⟨ρ,r,h⟩:=h;refine⟨fun m σ H=> ∃ρ,Rel X.K B ρ σ H/\aSd X B E (sWh tc F m ρ),⟨100000,ρ,r,h⟩,?_⟩
 rintro m σ H ⟨ρ,r,h⟩
 cases m with
 | zero=>exact Qg h
 | succ m=>
  unfold sWh at h;refine⟨ρ,r,(aBw r h).imp fun b h1 H1 e1=> ?_⟩;cases b with
  | false=>rw[if_neg Q2] at h1⊢;exact h1 σ H1 (r.mono e1)
  | true=>
   rw[if_pos rfl] at h1⊢;refine⟨fun σ' H'=> ∃ρ',Rel X.K B ρ' σ' H'/\aSd X B E (sWh tc F m ρ'),fun σ' H' q=>⟨m,Ur m,q⟩,ρ,r.mono e1,?_⟩;cases qf:F ρ with
   | none=>rw[qf] at h1;exact Qg h1
   | some o=>
    rw[qf] at h1;cases o with
    | nx ρ2=>exact fun σ3 H3 r3=>⟨ρ2,r3,h1⟩
    | ct ρ2=>exact fun σ3 H3 r3=>⟨ρ2,r3,h1⟩
    | bk ρ2=>exact h1
    | rt d=>exact h1
    | ex c ρ2=>exact h1
end
section
variable {K:Qc}{H:Hp}
theorem aH5: ∀{kvs:List (Key×D)} {vs:List (Key×V)},IsK K H kvs vs->kvs.length=vs.length
 | _,_,.nil=>rfl
 | _,_,.cons _ r=>by rw[Qk,Qk,aH5 r]
theorem aKy {k:Key}: ∀{kvs:List (Key×D)} {vs:List (Key×V)},IsK K H kvs vs->(aHf kvs k=none/\aGj vs k=none)\/∃d v,aHf kvs k=some d/\aGj vs k=some v/\Is K H d v
 | _,_,.nil=> .inl ⟨rfl,rfl⟩
 | _,_,.cons (x:=x) (d:=d) (v:=v) i r=>by
  by_cases e:x=k
  ·exact .inr ⟨d,v,by simp[aHf,e],by simp[aGj,e],i⟩
  ·have h1: ∀ds,aHf ((x,d)::ds) k=aHf ds k:=fun ds=>by simp[aHf,Zu,e]
   have h2: ∀ds,aGj ((x,v)::ds) k=aGj ds k:=fun ds=>by simp[aGj,Zu,e]
   rw[h1,h2];exact aKy r
theorem bDf {k:Key}: ∀{kvs:List (Key×D)} {vs:List (Key×V)},IsK K H kvs vs->(kvs.any fun kv=>decide (kv.1=k))=(vs.any fun kv=>decide (kv.1=k))
 | _,_,.nil=>rfl
 | _,_,.cons _ r=>by rw[Jm,Jm,bDf r]
theorem aVw {k:Key}{d:D}{v:V}(i:Is K H d v): ∀{kvs:List (Key×D)} {vs:List (Key×V)},IsK K H kvs vs->IsK K H (kvs.map fun kv=>if kv.1=k then (kv.1,d) else kv) (vs.map fun kv=>if kv.1=k then (kv.1,v) else kv)
 | _,_,.nil=> .nil
 | _,_,.cons (x:=x) i' r=>by
  rw[Qv,Qv];by_cases e:x=k
  ·rw[if_pos e,if_pos e];exact .cons i (aVw i r)
  ·rw[if_neg e,if_neg e];exact .cons i' (aVw i r)
theorem aX1 {k:Key}{d:D}{v:V}(i:Is K H d v): ∀{kvs:List (Key×D)} {vs:List (Key×V)},IsK K H kvs vs->IsK K H (kvs++ [(k,d)]) (vs++ [(k,v)])
 | _,_,.nil=> .cons i .nil
 | _,_,.cons i' r=> .cons i' (aX1 i r)
theorem bDe {k:Key}{d:D}{v:V}(i:Is K H d v){kvs:List (Key×D)}{vs:List (Key×V)}(r:IsK K H kvs vs):IsK K H (aUl kvs k d) (putK vs k v):=by
 unfold aUl putK;rw[bDf (k:=k) r];split
 ·exact aVw i r
 ·exact aX1 i r
end
section
variable {X:Cx}{B:Hp}{e a b:Expr}{fa fb fk:Rho->M D}{pos pos' p pos2 cpos apos spos:Pos}{x:Str}{i j:Nat}
def aV2:D->D->M D:=fun d k=>match d,keyOf k with
 | .dk kvs,some key=>(match aHf kvs key with | some v=>ok v | none=>none)
 | _,_=>none
theorem aYm.ofK {K:Qc}{H:Hp}{kvs:List (Key×D)}{v:V}{kd:D}{u:V}{key:Key}(i:Is K H (.dk kvs) v)(ik:Is K H kd u)(hk:keyOf kd=some key): ∃a vs,v= .ref a/\Rd H a (.dK vs)/\IsK K H kvs vs/\u=kV key/\aYm H a u (aGj vs key):=by
 cases i with
 | dk hh rr=>
  have e:=aKx ik hk;subst e;exact⟨_,_,rfl,hh,rr,rfl,.inl ⟨_,_,hh,rfl,rfl⟩⟩
theorem bCa {k:Nat}(hr:aFk k X.A)(ha:PD X B a fa)(hb:PD X B b fb)(hs:bUu b:=by intro _ _;rfl):PD X B (.Subscript a b pos) (b2 aV2 fa fb):=by
 refine PE.of (bK5 (aZq hr) ha hb hs) fun σ H Q h=> ?_
 obtain⟨ρ,r1,h⟩:=h;refine⟨ρ,r1,(Res.bind h).imp fun dx h1 v H1 e1 i1=>⟨ρ,r1.mono e1,(Res.bind h1).mono e1 fun dy h2 u H2 e2 i2=> ?_⟩⟩;unfold aV2 at h2;split at h2
 ·rename_i kvs key hk
  split at h2
  ·rename_i d hd
   obtain⟨a,vs,rfl,g1,g2,g3,g4⟩:=aYm.ofK (i1.mono e2) i2 hk;rcases aKy (k:=key) g2 with⟨z1,z2⟩ |⟨d',v',z1,z2,i'⟩
   ·rw[z1] at hd;cases hd
   ·rw[z1] at hd
    cases hd;rw[z2] at g4;exact⟨a,v',rfl,g4,h2 v' H2 (e1.trans e2) i'⟩
  ·exact Qg h2
 ·exact Qg h2
def bFe (neg:Bool):D->D->M D:=fun k d=>match d,keyOf k with
 | .dk kvs,some key=>ok (.bl (if neg then !(aHf kvs key).isSome else (aHf kvs key).isSome))
 | _,_=>none
def bU5 (neg:Bool):R2:=fun x y H Q=> ∃a o,y= .ref a/\aYm H a x o/\Q (.bl (if neg then !o.isSome else o.isSome)) H
theorem bD6 (neg:Bool):aIi (bFe neg):=by
 intro x y c h;unfold bFe at h;split at h<;>cases h
theorem bSy (neg:Bool):aSa X (bU5 neg) (bFe neg):=by
 intro H x y dx dy d Q ix iy e q;unfold bFe at e;split at e
 ·rename_i kvs key hk
  cases e;obtain⟨a,vs,rfl,g1,g2,g3,g4⟩:=aYm.ofK iy ix hk;have hs:(aHf kvs key).isSome=(aGj vs key).isSome:=by
   rcases aKy (k:=key) g2 with⟨z1,z2⟩ |⟨d',v',z1,z2,i'⟩<;>rw[z1,z2]<;>rfl
  refine⟨a,_,rfl,g4,?_⟩;rw[<-hs];exact q _ H (Same.refl H) (.bl _)
 ·cases e
theorem bPu {k:Nat}(hr:aFk k X.A):OpR X (Yp .In) (bU5 false):=by
 intro pins s σ H x y v u Q I rx ry h;obtain⟨a,o,rfl,g,q⟩:=h;cases ry;exact bXl (aZq hr) I g rx fun s' I'=>aBg I' q rfl
theorem bLa {k:Nat}(hr:aFk k X.A)(ha:PD X B a fa)(hb:PD X B b fb)(hm:behindInMarks .In b=false:=by rfl):PDT X B (.Compare a [.In] [b] pos) (aA9 (b2 (bFe false) fa fb)):=aKb (bPu hr) (bSy false) (bD6 false) ha hb hm
def bR9:D->M D
 | .dk kvs=>ok (.int kvs.length)
 | _=>none
theorem aZ8:aGh X (.builtin "len") (fun xs H Q=> ∃a kvs,xs=[V.ref a]/\Rd H a (.dK kvs)/\Q (.int kvs.length) H):=by
 intro pins s σ H xs us Q I r h;obtain⟨a,kvs,rfl,ha,q⟩:=h;obtain⟨u,rfl,ru⟩:=vals1 r;cases ru;exact bUl I ha fun t s' I'=>⟨.int kvs.length,H,I',⟨t,rfl⟩,q⟩
theorem bLh (hg:Gl X "len")(hm:X.mg "len"=none)(ha:PD X B e fa)(he:Zi [e] X.env=[(false,eval e X.env)]:=by exact aLy rfl):PD X B (.Call (.Name "len" p) [e] [] pos) (f1 bR9 fa):=by
 refine PE.of (aEr aZ8 hg hm Vo (aB8 ha aDl he) (he:=by rw[he];rfl) (hpl:=by rfl)) fun σ H Q h=> ?_
 obtain⟨ρ,r1,h⟩:=h;refine⟨ρ,r1,(Res.bind h).imp fun d h1 v H1 e1 i1=> ?_⟩;cases i1 with
 | dk hh r=>exact⟨_,_,rfl,hh,by rw[<-aH5 r];exact h1 _ H1 e1 (.int _)⟩
 | _=>exact Qg h1
def aU1 (i:Nat):Rho->Option Out:=fun ρ=>some (.nx (ρ.set i (some (.ow (.k [])))))
theorem aW9 (hN:X.N.Nodup)(hi:X.N[i]? =some x)(hx:Loc X.env.scope x)(hs:Y3 (.Dict [] [] p) (some (.Name x pos')) pos.line X.env=pure false:=by rfl)(hf:X.fn x=true\/X.env.scope.names.lookup x=some .local:=by first | exact .inl rfl | exact .inr rfl | assumption):
  PDS X B (.Assign [.Name x pos'] (.Dict [] [] p) pos) (aU1 i):=by
 refine PS.of (aS5 hN hi hx aQ5 hs hf) fun E σ H h=> ?_
 obtain⟨ρ,r,h⟩:=h;intro l hl;exact h _ _ (r.bCd (o:= .k []) hl (fun _ _=>IsK.nil) (fun _ _=>IsK.nil))
theorem Rel.bR8 {K:Qc}{B H:Hp}{ρ:Rho}{σ:St}{kvs:List (Key×D)}(r:Rel K B ρ σ H)(qi:ρ[i]? =some (some (.ow (.k kvs)))):
  ∃(O:Nat->Option Addr) (a:Addr) (vs:List (Key×V)),(∀i j a,O i=some a->O j=some a->i=j)/\aSe H O/\Same B (Off H O)/\ρ.length=σ.length/\(∀i sv,ρ[i]? =some (some sv)->Slot K H O σ i sv)/\
   O i=some a/\σ[i]? =some (some (.ref a))/\H a=some (.dK vs)/\IsK K (Off H O) kvs vs:=by
 obtain⟨O,h1,ho,h2,hl,h3⟩:=r;obtain⟨a,w,z1,z2,z3,z4⟩:=(show Slot K H O σ i (.ow (.k kvs)) from h3 i _ qi);cases w<;>first | exact Qg z4 | skip
 exact⟨O,a,_,h1,ho,h2,hl,h3,z1,z2,z3,z4⟩
def aYx (i:Nat)(fk f:Rho->M D):Rho->Option Out:=fun ρ=>match ρ[i]? with
 | some (some (.ow (.k kvs)))=>lft (f ρ) ρ fun d=>lft (fk ρ) ρ fun kd=>(match keyOf kd with
  | some key=>if d.imm=true/\kvs.length<100000 then some (.nx (ρ.set i (some (.ow (.k (aUl kvs key d)))))) else none
  | none=>none)
 | _=>none
theorem bGq {k:Nat}(hr:aFk k X.A)(i:Nat){x:Str}(hk:PD X B b fk)(he:PD X B e fa)(hN:X.N[i]? =some x:=by rfl)(hv:Vis X.env.scope x:=by first | exact Qw rfl | exact Yt (Qw rfl) | exact Yt (Yt rfl))
  (hd:(x==("__debug__":Str))=false:=by decide) (hcd:(x==("__classdict__":Str))=false:=by decide) (hs:Y3 e (some (.Subscript (.Name x p) b pos')) pos.line X.env=pure false:=by rfl):
  PDS X B (.Assign [.Subscript (.Name x p) b pos'] e pos) (aYx i fk fa):=by
 refine PS.of (bB0 (aZq hr) (aD5 hN hv hd hcd) hk he hs) fun E σ H h=> ?_
 obtain⟨ρ,r,h⟩:=h;unfold aYx at h;split at h
 ·rename_i kvs qi
  refine⟨ρ,r,(aBw r h).imp fun d h1 v H1 s1 i1=> ?_⟩;obtain⟨O,a,vs,g1,go,g2,gl,g3,z1,z2,z3,z4⟩:=(r.mono s1).bR8 qi;refine⟨.ref a,z2,ρ,r.mono s1,Res.mono (Same.refl _) (aBw (r.mono s1) h1) fun kd h2 u H2 s2 i2=> ?_⟩;split at h2
  ·rename_i key hkey
   split at h2
   ·rename_i hh
    clear g1 go g2 gl g3 z1 z3 z4;obtain⟨O2,a',vs2,g1,go,g2,gl,g3,z1,z2',z3,z4⟩:=((r.mono s1).mono s2).bR8 qi;have ea:a=a':=by rw[z2] at z2';cases z2';rfl
    rw[ea];have eu:=aKx i2 hkey;rw[eu];refine⟨a',_,rfl,bJ4.k z3 (by rw[<-aH5 z4];exact Uz hh.2 (by decide)),?_⟩;exact h2 _ _ (Rel.bCc O2 g1 go g2 gl g3 qi z1 z2' (o':= .k (aUl kvs key d)) (w':= .dK (putK vs2 key v)) (bDe (aHn go hh.1 (i1.mono s2)) z4))
   ·exact Qg h2
  ·exact Qg h2
 ·exact Qg h
end
def bAm (ns:List Int):List Int:=ns.mergeSort fun a b=>decide (a<=b)
theorem aNa (ns:List Int):(bAm ns).Perm ns:=Ew _ _
theorem aSn (ns:List Int):(bAm ns).Pairwise (· <= ·):=by
 have h:=Eb (le:=fun a b:Int=>decide (a<=b)) (fun a b c h1 h2=>by simp at h1 h2⊢;omega) (fun a b=>by simp;omega) ns;exact h.imp fun h=>by simpa using h
theorem bKh {xs ys:List Int}(hs:ys.Pairwise (· <= ·))(hp:ys.Perm xs):ys=bAm xs:=
 List.Perm.eq_of_pairwise (fun a b _ _ h1 h2=>Int.le_antisymm h1 h2) hs (aSn xs) (hp.trans (aNa xs).symm)
theorem bFx (ns:List Int):(bAm ns).length=ns.length:=(aNa ns).length_eq
def aTg:List D->Option (List Int)
 | []=>some []
 | .int x::ds=>match aTg ds with | some xs=>some (x::xs) | none=>none
 | _::_=>none
theorem bGz (xs:List Int):aTg (xs.map D.int)=some xs:=by
 induction xs with
 | nil=>rfl
 | cons x r ih=>rw[Qv];unfold aTg;rw[ih]
theorem bLx (ds:List D){xs:List Int}(h:aTg ds=some xs):ds=xs.map D.int:=by
 induction ds generalizing xs with
 | nil=>cases h;rfl
 | cons d ds ih=>
  unfold aTg at h;split at h
  ·cases‹_::_=[]›
  ·rename_i e
   cases e;split at h
   ·rename_i ys hy
    cases h;rw[ih hy];rfl
   ·cases h
  ·cases h
theorem bC8 {K:Qc}{H:Hp}: ∀(xs:List Int),IsL K H (xs.map D.int) (xs.map V.int)
 | []=> .nil
 | x::xs=> .cons (.int x) (bC8 xs)
theorem aTf: ∀{vs:List Qd} {xs:List Int},IntsAre vs xs->Vals (xs.map V.int) vs
 | _,_,.nil=> .nil
 | _,_,.cons y t r=> .cons ⟨t,rfl⟩ (aTf r)
theorem aXi {K:Qc}{H:Hp}: ∀{xs:List Int} {vs:List V} {its:List Qd},IsL K H (xs.map D.int) vs->Vals vs its->IntsAre its xs
 | [],_,_,.nil,r=>by cases r;exact .nil
 | x::xs,_,_,.cons h q,r=>by
  cases h;cases r with
  | cons r1 r2=>
   obtain⟨t,rfl⟩:=r1;exact .cons x t (aXi q r2)
theorem aOf {prog:Qx}{w:Zb}: ∀{ks:List Str} {its:List Qd},Vals (ks.map V.str) its->ItemsAre (Qi prog w) ks its
 | [],_,r=>by cases r;exact .nil
 | k::ks,_,r=>by
  cases r with
  | cons r1 r2=>
   obtain⟨t,rfl⟩:=r1;exact .cons (by simp[Qi,Value.isStrOf]) (aOf r2)
theorem bAt {P:Qx}{w:Zb}{H:Hp}{h:Heap}{a:Addr}{ks:List Str}(ok:HOk P w H h)(e:H a=some (.tup (ks.map V.str))):IsTupleKey (Qi P w) h ks a:=by
 obtain⟨_,its,r,o,h1,h2,⟨n,h3⟩,_⟩:=(show aBn P w H h a (.tup (ks.map V.str)) from ok a _ e);exact⟨o,its.toArray,n,h1,h2,h3,by simpa using aOf r⟩
def bUs (H:Hp)(v:Qd):Prop:= ∃p ks,v= .ref p/\H p=some (.tup ((ks:List Str).map V.str))
def fT (a:Addr)(es:Array (Int×Qd))(ep:Nat)(t:Yq):Heap->Prop:=fun h=> ∃o,h.get? a=some o/\o.ExactSet/\o.data= .set es ep t
theorem str_inj: ∀{a b:List Str},a.map V.str=b.map V.str->a=b
 | [],[],_=>rfl
 | [],_::_,h=>by simp at h
 | _::_,[],h=>by simp at h
 | x::a,y::b,h=>by
  rw[Qv,Qv] at h
  injection h with h1 h2
  injection h1 with h1
  rw[h1,str_inj h2]
abbrev bFg (H:Hp):List V->List (List Str)->Prop:=Paired fun v ks=> ∃p,v= .ref p/\H p=some (.tup ((ks:List Str).map V.str))
section
variable {X:Cx}{B:Hp}{e a b:Expr}{fa fb:Rho->M D}{pos p p2 pos2:Pos}
def aCp:List D->Option (List (List Str))
 | []=>some []
 | .tup ds::r=>match aIk ds,aCp r with | some x,some l=>some (x::l) | _,_=>none
 | _::_=>none
theorem aI4 (ds:List D){l:List (List Str)}(h:aCp ds=some l):ds=l.map fun x=>D.tup (x.map D.str):=by
 induction ds generalizing l with
 | nil=>cases h;rfl
 | cons d ds ih=>
  unfold aCp at h;split at h
  ·cases‹_::_=[]›
  ·rename_i e
   cases e;split at h
   ·rename_i x l' hx hl
    cases h;rw[ih hl,aIs _ hx];rfl
   ·cases h
  ·cases h
theorem bHd {K:Qc}{H:Hp}{xs:List Str}{vs:List V}(h:IsL K H (xs.map D.str) vs):vs=xs.map V.str:=by
 induction xs generalizing vs with
 | nil=>cases h;rfl
 | cons x xs ih=>
  cases h with
  | cons h1 h2=>cases h1;rw[ih h2];rfl
theorem aM0 {K:Qc}{H:Hp}{l:List (List Str)}{vs:List V}(h:IsL K H (l.map fun x=>D.tup (x.map D.str)) vs):bFg H vs l:=by
 induction l generalizing vs with
 | nil=>cases h;exact .nil
 | cons x l ih=>
  cases h with
  | cons h1 h2=>
   refine .cons ?_ (ih h2);cases h1 with
   | tup hh rr=>rw[bHd rr] at hh;exact⟨_,rfl,hh⟩
end
section
variable {X:Cx}{B:Hp}{e a b e2:Expr}{fa fb:Rho->M D}{pos p p2 pos2 p3 bXt:Pos}
theorem aXe {P:Qx}{w:Zb}{H:Hp}{h:Heap}(ok:HOk P w H h): ∀{out:List Qd} {ts:List (List Str)},Paired (fun v ks=>bUs H v/\aYi (Qi P w) h v ks) out ts->∃vs,Vals vs out/\bFg H vs ts
 | _,_,.nil=>⟨[],.nil,.nil⟩
 | _,_,.cons ⟨⟨p,ks',e1,e2⟩,q⟩ r=>by
  obtain⟨vs,h1,h2⟩:=aXe ok r;subst e1;have q':aYi (Qi P w) h (.ref p) ks':=⟨p,rfl,bAt ok e2⟩;have:=aYi.inj q' q (fun _ _ e=>e);subst this;exact⟨.ref p::vs,.cons rfl h1,.cons ⟨p,rfl,e2⟩ h2⟩
theorem aQv {K:Qc}{H:Hp}: ∀{vs:List V} {l:List (List Str)},bFg H vs l->IsL K H (l.map fun x=>D.tup (x.map D.str)) vs
 | _,_,.nil=> .nil
 | _,_,.cons ⟨p,e1,e2⟩ r=>by
  subst e1;exact .cons (.tup e2 (aOh _)) (aQv r)
end
theorem aWo {P:Qx}{w:Zb}{prog:Qx}{w':Zb}{H:Hp}{h:Heap}{a:Addr}{ks:List Str}(ok:HOk P w H h)(e:H a=some (.tup (ks.map V.str))):IsTupleKey (Qi prog w') h ks a:=by
 obtain⟨_,its,r,o,h1,h2,⟨n,h3⟩,_⟩:=(show aBn P w H h a (.tup (ks.map V.str)) from ok a _ e);exact⟨o,its.toArray,n,h1,h2,h3,by simpa using aOf r⟩
def eqK (H:Hp)(k:List Str):Qd->Bool
 | .ref p=>match H p with | some (.tup vs)=>decide (vs=k.map V.str) | _=>false
 | _=>false
theorem bJt {H:Hp}{k ks:List Str}{p:Addr}(e:H p=some (.tup (ks.map V.str))):eqK H k (.ref p)=decide (ks=k):=by
 have e1:eqK H k (.ref p)=(match H p with | some (.tup vs)=>decide (vs=k.map V.str) | _=>false):=rfl;rw[e1,e];show decide (ks.map V.str=k.map V.str)=_;by_cases h:ks=k
 ·subst h;rw[decide_eq_true rfl,decide_eq_true rfl]
 ·rw[decide_eq_false h,decide_eq_false fun q=>h (str_inj q)]
section
variable {X:Cx}{B:Hp}{a b:Expr}{fa fb:Rho->M D}{pos:Pos}
theorem bD4 {A:Ze}{s:Qf}{P:Qx}{w:Zb}{H:Hp}{k:List Str}{q:Addr}(hu:A.units<cLine)(ok:HOk P w H s.heap)(hq:H q=some (.tup (k.map V.str))): ∀{ys:List V} {l:List (List Str)} {its:List Qd},bFg H ys l->Vals ys its->∀v∈its,SeqAt.EqAt A s v (.ref q) (eqK H k v)
 | _,_,_,.nil,r=>by cases r;exact fun v hv=>by cases hv
 | _,_,_,.cons ⟨p,e1,e2⟩ t,r=>by
  subst e1;cases r with
  | cons r1 r2=>
   have e3:_=Q1 p:=r1;subst e3;intro v hv;rcases List.mem_cons.mp hv with rfl | hv
   ·rw[bJt e2]
    intro prog w' E Q h;exact wpAny_eqBool_tuple (knd:=Qi prog w') hu (aWo ok e2) (aWo ok hq) h
   ·exact bD4 hu ok hq t r2 v hv
end
section
variable {X:Cx}{B:Hp}{a b:Expr}{fa fb:Rho->M D}{pos:Pos}
def aLu:D->D->M D
 | .tup ds,.tup []=>ok (.bl (!ds.isEmpty))
 | _,_=>none
theorem bL4:aIi aLu:=by
 intro x y c h;unfold aLu at h;split at h<;>cases h
def bI0 (K:Qc):R2:=fun x y H Q=> ∃a b xs,x= .ref a/\y= .ref b/\SqT K H a xs/\SqT K H b []/\Q (.bl (!xs.isEmpty)) H
theorem bGx (hu:X.A.units<cLine):OpR X (Yp .NotEq) (bI0 X.K):=by
 intro pins s σ H x y v u Q I rx ry h;obtain⟨a,b,xs,rfl,rfl,ha,hb,q⟩:=h;cases rx;cases ry;obtain⟨its,r1,p1,_⟩:=I.tuple ha;obtain⟨its2,r2,p2,_⟩:=I.tuple hb;have e2:its2=[]:=r2.aNs.mpr rfl;subst e2;refine aZd p1 p2 hu ⟨.bl (!xs.isEmpty),H,I,?_,q⟩;cases xs with
 | nil=>cases r1;rfl
 | cons x xs=>cases r1;rfl
theorem bKr:aSa X (bI0 X.K) aLu:=by
 intro H x y dx dy d Q ix iy e q;unfold aLu at e;split at e
 ·rename_i ds
  cases e;cases ix with
  | tup h1 r1=>
   cases iy with
   | tup h2 r2=>
    cases r2;exact⟨_,_,_,rfl,rfl,h1.sq,h2.sq,by rw[aIz r1];exact q _ H (Same.refl H) (.bl _)⟩
 ·cases e
theorem bB4 {k:Nat}(hr:aFk k X.A)(ha:PD X B a fa)(hb:PD X B b fb):PDT X B (.Compare a [.NotEq] [b] pos) (aA9 (b2 aLu fa fb)):=aKb (bGx hr.bIj) bKr bL4 ha hb (aHb _)
end
def bXf:List D->List D->Bool
 | .int _::_,.lst _::_=>true
 | _,_=>false
def apL (ds:List D):Option SV->Bool
 | some (.own es)=>decide (ds.length≠es.length) || bXf ds es
 | some (.oin _ _ _ _)=>false
 | some (.nl _ _)=>false
 | _=>true
def ap:D->Rho->Bool
 | .lst ds,ρ=>aIq ds&&ρ.all (apL ds)
 | _,_=>false
section
variable {X:Cx}{B:Hp}{a b:Expr}{fa fb:Rho->M D}{pos:Pos}
def bL0:D->M D
 | .int i=>ok (.int (-i))
 | _=>none
theorem bB9 (ha:PD X B a fa):PD X B (.UnaryOp .USub a pos) (f1 bL0 fa):=by
 refine PE.of (bS4 bN6 ha) fun σ H Q h=> ?_
 obtain⟨ρ,r1,h⟩:=h;refine⟨ρ,r1,(Res.bind h).imp fun d q1 v H1 e1 i1=> ?_⟩;cases i1 with
 | int i=>exact⟨i,rfl,q1 _ H1 e1 (.int _)⟩
 | _=>exact Qg q1
end
section
variable {X:Cx}{B:Hp}{a b:Expr}{fa fb:Rho->M D}{pos apos cpos:Pos}
def bDx:D->D->M D
 | .int i,.int j=>if 0<=j/\j<=1000000/\i.natAbs<2^64 then ok (.int (i*2^j.toNat)) else none
 | _,_=>none
def bNw:D->D->M D
 | .int i,.int j=>ok (.int (Builtin.bitOr i j))
 | _,_=>none
def aV3:D->D->M D
 | .int i,.int j=>ok (.int (Builtin.bitAnd i j))
 | _,_=>none
theorem bI6 (ha:PD X B a fa)(hb:PD X B b fb):PD X B (.BinOp a .LShift b pos) (b2 bDx fa fb):=
 aO6 bPn (bGc fun dx dy d e=>by
  unfold bDx at e;split at e<;>first |(cases e;done) | skip
  split at e<;>first |(cases e;done) | skip
  rename_i h;exact⟨_,_,rfl,rfl,h,(aBq e).symm⟩) (by intro x y c h;unfold bDx at h;(repeat' split at h)<;>cases h) ha hb
theorem bPk (ha:PD X B a fa)(hb:PD X B b fb):PD X B (.BinOp a .BitOr b pos) (b2 bNw fa fb):=
 aO6 bTg (bBv fun dx dy d e=>by
  unfold bNw at e;split at e<;>first |(cases e;done) | exact⟨_,_,rfl,rfl,(aBq e).symm⟩) (by intro x y c h;unfold bNw at h;(repeat' split at h)<;>cases h) ha hb
theorem bLl (ha:PD X B a fa)(hb:PD X B b fb):PD X B (.BinOp a .BitAnd b pos) (b2 aV3 fa fb):=
 aO6 bPv (bBv fun dx dy d e=>by
  unfold aV3 at e;split at e<;>first |(cases e;done) | exact⟨_,_,rfl,rfl,(aBq e).symm⟩) (by intro x y c h;unfold aV3 at h;(repeat' split at h)<;>cases h) ha hb
def aT8:D->M D
 | .int i=>ok (.int (Z4 i:Nat))
 | _=>none
theorem bL8:MtR X "int.bit_length" (fun x xs H Q=> ∃i,x= .int i/\xs=[]/\Q (.int (Z4 i:Nat)) H):=by
 intro pins s σ H x xs v us Q I r rs h;obtain⟨i,rfl,rfl,q⟩:=h;cases rs;obtain⟨t,rfl⟩:=r;exact Za Vd (typeIs_int s i t) PySem.F.entry_int_bit_length (show Qp _ _ (do ret (<-mkInt (Z4 i))) _ _ s from wpAny_ret_mkInt ⟨.int (Z4 i:Nat),H,I.tok _,⟨_,rfl⟩,q⟩) (PySem.F.args_int_bit_length_1 _)
theorem bCb (ha:PD X B a fa)(hbase:Jy a "bit_length" X.env (eval a X.env)=eval a X.env:=by rfl)(hline:(apos.endLine==cpos.line)=true:=by rfl):PD X B (.Call (.Attribute a "bit_length" apos) [] [] cpos) (f1 aT8 fa):=by
 refine PE.of (bPd PySem.F.plainAttrs_int Vd PySem.F.type_int_bit_length bL8 ha hbase hline) fun σ H Q h=> ?_
 obtain⟨ρ,r1,h⟩:=h;refine⟨ρ,r1,(Res.bind h).imp fun d h1 v H1 e1 i1=> ?_⟩;cases i1 with
 | int i=>exact⟨rfl,i,rfl,rfl,h1 _ H1 e1 (.int _)⟩
 | _=>exact Qg h1
end
section
variable {X:Cx}{pins:List (Addr×Obj)}{σ:St}{H:Hp}{s:Qf}{a:Addr}{kvs:List (Key×V)}{k:Key}{A:Ze}{E:Qd->Qf->Prop}
theorem bHy {u du:Qd}{dv:V}{Q:Qd->Qf->Prop}(I:Inv X pins σ H s)(e:H a=some (.dK kvs))(ry:RelV (kV k) u)(rd:RelV dv du)(hz:kvs.length<Qy)
  (h1: ∀v w' s',aGj kvs k=some v->Inv X pins σ H s'->RelV v w'->Q w' s') (h2:aGj kvs k=none->∀s',Inv X pins σ (upd H a (.dK (putK kvs k dv))) s'->Q du s'):
  Qp (Qt X.prog X.w) A (call (.builtin "dict.setdefault") [.ref a,u,du]) Q E s:=by
 obtain⟨z,hd,vs,rel,dd⟩:=bHw I.hok e;refine call_meetsIn Vb dd.typeIs PySem.F.entry_dict_setdefault (PySem.F.args_dict_setdefault_3 _ _ _) (kt_meets_setdefault (aBb X.prog X.w) a (aVs ry) hd du)
  ⟨vs,dd,by rw[<-rel.length];exact z,fun v hv=> ?_,fun hn h' dd' hs=>h2 ?_ _ ?_⟩
 ·cases l:aGj kvs k with
  | none=>
   have hn:valueAt vs k=none:=aPn.none_of (by rw[<-l];exact rel.val k);rw[hn] at hv;cases hv
  | some v'=>
   obtain⟨w',hw,rw'⟩:=aPn.some_of (v:=v') (o:=valueAt vs k) (by rw[<-l];exact rel.val k);rw[hw] at hv;cases hv;exact h1 v' _ _ l (I.tok _) rw'
 ·cases l:aGj kvs k with
  | none=>rfl
  | some v'=>
   obtain⟨w',hw,rw'⟩:=aPn.some_of (v:=v') (o:=valueAt vs k) (by rw[<-l];exact rel.val k);rw[hw] at hn;cases hn
 ·have he: ∃q,h'.get? a=some q:=let ⟨q,_,_,hq,_⟩:=dd';⟨q,hq⟩
  exact aR0 I (by rw[e];exact True.intro) hs he (bD5 (by have:=aGv kvs k dv;omega) hd (rel.put k rd) dd')
end
section
variable {X:Cx}{B:Hp}{o e f b c:Expr}{td ty tx:TE}{fk fv:Rho->M D}{pos p apos cpos:Pos}{i:Nat}{x:Str}
def bVy (td ty tx:TE):TE:=fun σ H Q=>td σ H fun x H1=> ∃a,x= .ref a/\IsD H1 a/\ty σ H1 fun y H2=>tx σ H2 fun z H3=> ∃kvs k,H3 a=some (.dK kvs)/\y=kV k/\kvs.length<Qy/\(∀v,aGj kvs k=some v->Q v H3)/\(aGj kvs k=none->Q z (upd H3 a (.dK (putK kvs k z))))
theorem bI3 (ho:PE X o td)(he:PE X e ty)(hf:PE X f tx)(m:M2 X o "setdefault" apos e f cpos):PE X (.Call (.Attribute o "setdefault" apos) [e,f] [] cpos) (bVy td ty tx):=by
 intro pins s σ H Q I h;refine wpAny_Call_method m.base m.few m.line We Vb PySem.F.type_dict_setdefault (thn (ho pins s σ H _ I h) fun u s1 ⟨x,H1,I1,rx,a,ex,d,q1⟩=> ?_);subst ex;obtain rfl:u=Q1 a:=rx;obtain⟨t1,t2,_⟩:=bJl I1 d;refine⟨t1,t2,?_⟩;rw[m.trees];refine J1 rfl (Calls.evalArgs_plain (J0 (thn (he pins s1 σ H1 _ I1 q1) fun iv s2 ⟨y,H2,I2,ry,q2⟩=>
  J0 (thn (hf pins s2 σ H2 _ I2 q2) fun fv s3 ⟨z,H3,I3,rz,kvs,k,ea,ey,hz,q3,q4⟩=>Calls.spliced_nil ?_))))
 subst ey;exact bHy I3 ea ry rz hz (fun v w' s4 l I4 rw'=>⟨v,H3,I4,rw',q3 v l⟩) fun l s4 I4=>⟨z,_,I4,rz,q4 l⟩
def bOm (i:Nat)(fk fv:Rho->M D):Rho->Option Out:=fun ρ=>match ρ[i]? with
 | some (some (.ow (.k kvs)))=>lft (fk ρ) ρ fun kd=>lft (fv ρ) ρ fun d=>(match keyOf kd with
  | some key=>if d.imm=true/\kvs.length<100000 then (if (aHf kvs key).isSome=true then some (.nx ρ) else some (.nx (ρ.set i (some (.ow (.k (aUl kvs key d))))))) else none
  | none=>none)
 | _=>none
theorem bLb (hN:X.N[i]? =some x)(hv:Vis X.env.scope x)(hk:PD X B b fk)(hc:PD X B c fv)(hs:aBu b=true:=by rfl)(hs2:aBu c=true:=by rfl)(hline:(apos.endLine==cpos.line)=true:=by rfl)
  (hsw:Y3 (.Call (.Attribute (.Name x p) "setdefault" apos) [b,c] [] cpos) none pos.line X.env=pure false:=by rfl)
  (hd:(x==("__debug__":Str))=false:=by decide) (hcd:(x==("__classdict__":Str))=false:=by decide):
  PDS X B (.Expr (.Call (.Attribute (.Name x p) "setdefault" apos) [b,c] [] cpos) pos) (bOm i fk fv):=by
 refine PS.of (aQ4 (bI3 (aD5 hN hv hd hcd) hk hc ⟨rfl,by rw[aUt hs hs2];rfl,hline,by rw[aUt hs hs2];rfl⟩) hsw) fun E σ H h=> ?_
 obtain⟨ρ,r,h⟩:=h;unfold bOm at h;split at h
 ·rename_i kvs qi
  obtain⟨O,a,vs,g1,go,g2,gl,g3,z1,z2,z3,z4⟩:=r.bR8 qi;refine⟨.ref a,z2,a,rfl,.inl ⟨_,.inl z3⟩,ρ,r,(aBw r h).imp fun kd h1 u H1 s1 i1=> ?_⟩;refine⟨ρ,r.mono s1,Res.mono (Same.refl _) (aBw (r.mono s1) h1) fun d h2 v H2 s2 i2=> ?_⟩;split at h2
  ·rename_i key hkey
   split at h2
   ·rename_i hh
    clear g1 go g2 gl g3 z1 z3 z4;have r2:=(r.mono s1).mono s2;obtain⟨O2,a',vs2,g1,go,g2,gl,g3,z1,z2',z3,z4⟩:=r2.bR8 qi;have ea:a=a':=by rw[z2] at z2';cases z2';rfl
    rw[ea];have eu:=aKx i1 hkey;rw[eu];refine⟨vs2,key,z3,rfl,by rw[<-aH5 z4];exact Uz hh.2 (by decide),fun w l=> ?_,fun l=> ?_⟩
    ·rcases aKy (k:=key) z4 with⟨y1,y2⟩ |⟨d',v',y1,y2,i'⟩
     ·rw[y2] at l;cases l
     ·rw[y1,if_pos (by rfl)] at h2
      exact h2 _ _ r2
    ·rcases aKy (k:=key) z4 with⟨y1,y2⟩ |⟨d',v',y1,y2,i'⟩
     ·rw[y1,if_neg (by simp)] at h2
      exact h2 _ _ (Rel.bCc O2 g1 go g2 gl g3 qi z1 z2' (o':= .k (aUl kvs key d)) (w':= .dK (putK vs2 key v)) (bDe (aHn go hh.1 i2) z4))
     ·rw[y2] at l;cases l
   ·exact Qg h2
  ·exact Qg h2
 ·exact Qg h
end
section
variable {X:Cx}{B:Hp}{e:Expr}{fa:Rho->M D}{pos p:Pos}
theorem bQo {P:Qx}{w:Zb}{k:Key}{u:Qd}(h:(aBb P w).is k u=true):RelV (kV k) u:=by
 cases k with
 | inl i=>obtain⟨t,rfl⟩:=Value.isInt_shape h;exact⟨t,rfl⟩
 | inr x=>obtain⟨t,rfl⟩:=Ye h;exact⟨t,rfl⟩
theorem bCz {P:Qx}{w:Zb}: ∀{kvs:List (Key×V)} {vs:List (Key×Qd)} {us:List Qd},KV kvs vs->us.length=vs.length->(∀(j:Nat) v,us[j]? =some v->∃k x,vs[j]? =some (k,x)/\(aBb P w).is k v=true)->Vals (kvs.map fun kv=>kV kv.1) us:=by
 intro kvs
 induction kvs with
 | nil=>
  intro vs us h hl hv;cases h;cases us with
  | nil=>exact .nil
  | cons u us=>simp at hl
 | cons a kvs ih=>
  intro vs us h hl hv;cases h with
  | cons h t=>
   cases us with
   | nil=>simp at hl
   | cons u us=>
    obtain⟨k,x,e1,e2⟩:=hv 0 u rfl;simp only[List.getElem?_cons_zero,Option.some.injEq] at e1;have e3:a.1=k:=by rw[h.1,e1]
    refine .cons (by show RelV (kV a.1) u;rw[e3];exact bQo e2) (ih t (by simpa using hl) fun j v hj=> ?_);obtain⟨k',x',e4,e5⟩:=hv (j+1) v (by simpa using hj);exact⟨k',x',by simpa using e4,e5⟩
theorem aZ7 (hc:X.calm=true):aGh X (.type "list") (fun xs H Q=> ∃p kvs,xs=[.ref p]/\Rd H p (.dK kvs)/\∀l,H l=none->Q (.ref l) (upd H l (.lst (kvs.map fun kv=>kV kv.1)))):=by
 intro pins s σ H xs us Q I r h;obtain⟨p,kvs,rfl,hp,q⟩:=h;obtain⟨u,rfl,rx⟩:=vals1 r;cases rx;obtain⟨z,hd,vs,rel,dd⟩:=aTy I.hok hp;obtain⟨ep,hat⟩:=dd.dictAt;refine PySem.W.kdl_call (PySem.W.kdl_dict (knd:=aBb X.prog X.w) (kvs:=vs) (ep:=ep) hd) (I.ok.hd hc) hat (by rw[<-rel.length];exact z) fun h' tk acc' c' kp e items=> ?_
 have r':Vals (kvs.map fun kv=>kV kv.1) acc'.toList:=bCz (P:=X.prog) (w:=X.w) rel (by rw[Q6];exact items.1) fun j v hj=>items.2 j v (by rw[<-Array.getElem?_toList];exact hj)
 exact⟨.ref s.heap.objs.size,_,I.laid (t':=tk) kp (Qo _) (show aBn X.prog X.w _ h' _ (.lst (kvs.map fun kv=>kV kv.1)) from⟨by rw[Qh];exact z,acc'.toList,c',r',by rw[Array.toArray_toList];exact e⟩),rfl,q _ (I.hok.fresh (Qo _))⟩
def aZm:D->M D
 | .dk kvs=>ok (.lst (kvs.map fun kv=>kD kv.1))
 | _=>none
theorem aX2 {K:Qc}{H H':Hp}: ∀{kvs:List (Key×D)} {vs:List (Key×V)},IsK K H kvs vs->IsL K H' (kvs.map fun kv=>kD kv.1) (vs.map fun kv=>kV kv.1)
 | _,_,.nil=> .nil
 | _,_,.cons i r=> .cons (bMq _) (aX2 r)
theorem bGu (hc:X.calm=true)(hg:Gl X "list")(hm:X.mg "list"=none)(ha:PD X B e fa)(hs:aBu e=true:=by rfl):PD X B (.Call (.Name "list" p) [e] [] pos) (f1 aZm fa):=by
 refine PE.of (aJe (aZ7 hc) hg hm boot_list (aB8 ha aDl (aAv hs)) (he:=aAv hs) (hpl:=by rfl)) fun σ H Q h=> ?_
 obtain⟨ρ,r1,h⟩:=h;refine⟨ρ,r1,(Res.bind h).imp fun d q1 v H1 e1 i1=> ?_⟩;cases i1 with
 | dk hh rr=>exact⟨_,_,rfl,hh,fun l hl=>q1 _ _ (e1.trans (aAp hl _)) (.lst (SqL.of aAm) (aX2 rr))⟩
 | _=>exact Qg q1
end
theorem aP5 {n i j i' j':Nat}(hi:i<n)(hi':i'<n)(h:nx n i j=nx n i' j'):i=i'/\j=j':=by
 unfold nx at h;have e:i=i':=by
  have:=congrArg (· %n) h
  simpa[Nat.mul_add_mod,Nat.mod_eq_of_lt hi,Nat.mod_eq_of_lt hi'] using this
 subst e;refine⟨rfl,?_⟩;have h2:n*(j+1)=n*(j'+1):=Nat.add_right_cancel h;have h3:=Nat.eq_of_mul_eq_mul_left (by omega) h2;omega
section
variable {K:Qc}{H₀ H H':Hp}{ρ:Rho}{σ:St}{O O':Nat->Option Addr}
theorem InL.bG5 {n i:Nat}(hO: ∀j b w,O (nx n i j)=some b->H b=some w->O' (nx n i j)=some b/\H' b=some w)(sm:Same (Off H O) (Off H' O')): ∀{bs:List Addr} {ls:List (List D)} {j:Nat},InL K H O n i j bs ls->InL K H' O' n i j bs ls
 | [],[],_,_=>True.intro
 | b::bs,ds::ls,j,⟨⟨h1,vs,h2,h3⟩,h4⟩=>by
  obtain⟨e1,e2⟩:=hO _ b _ h1 h2;exact⟨⟨e1,vs,e2,h3.mono sm⟩,InL.bG5 hO sm h4⟩
 | [],_::_,_,h=>Qg h
 | _::_,[],_,h=>Qg h
theorem InL.bP5 {n i:Nat}(sm:Same (Off H O) (Off H' O')): ∀{bs:List Addr} {ls:List (List D)} {j0:Nat},(∀j b w,j0<=j->O (nx n i j)=some b->H b=some w->O' (nx n i j)=some b/\H' b=some w)->InL K H O n i j0 bs ls->InL K H' O' n i j0 bs ls
 | [],[],_,_,_=>True.intro
 | b::bs,ds::ls,j,hO,⟨⟨h1,vs,h2,h3⟩,h4⟩=>by
  obtain⟨e1,e2⟩:=hO _ b _ (Qo _) h1 h2;exact⟨⟨e1,vs,e2,h3.mono sm⟩,InL.bP5 sm (fun j' b w hj=>hO j' b w (by omega)) h4⟩
 | [],_::_,_,_,h=>Qg h
 | _::_,[],_,_,h=>Qg h
theorem InL.bP4 {n i:Nat}(sm:Same (Off H O) (Off H' O')): ∀{bs:List Addr} {ls:List (List D)} {j0:Nat},(∀j b w,j<j0+ls.length->O (nx n i j)=some b->H b=some w->O' (nx n i j)=some b/\H' b=some w)->InL K H O n i j0 bs ls->InL K H' O' n i j0 bs ls
 | [],[],_,_,_=>True.intro
 | b::bs,ds::ls,j,hO,⟨⟨h1,vs,h2,h3⟩,h4⟩=>by
  obtain⟨e1,e2⟩:=hO _ b _ (by rw[Qk];omega) h1 h2;exact⟨⟨e1,vs,e2,h3.mono sm⟩,InL.bP4 sm (fun j' b w hj=>hO j' b w (by rw[Qk];omega)) h4⟩
 | [],_::_,_,_,h=>Qg h
 | _::_,[],_,_,h=>Qg h
theorem NL.bG5 {σ':St}{i:Nat}{kd:NK}{ls:List (List D)}(hl:σ'.length=σ.length)(hs:σ'[i]? =σ[i]?)(hO: ∀m b w,(m=i\/∃j,m=nx σ.length i j)->O m=some b->H b=some w->O' m=some b/\H' b=some w)(sm:Same (Off H O) (Off H' O'))
  (h:NL K H O σ i kd ls):NL K H' O' σ' i kd ls:=by
 obtain⟨a,w,bs,h1,h2,h3,h4,h5⟩:=h;obtain⟨e1,e2⟩:=hO i a w (.inl rfl) h1 h3;refine⟨a,w,bs,e1,hs.trans h2,e2,h4,?_⟩;rw[hl];exact InL.bG5 (fun j b w=>hO _ b w (.inr ⟨j,rfl⟩)) sm h5
theorem InL.length {n i:Nat}: ∀{bs:List Addr} {ls:List (List D)} {j:Nat},InL K H O n i j bs ls->bs.length=ls.length
 | [],[],_,_=>rfl
 | _::bs,_::ls,_,⟨_,h⟩=>by rw[Qk,Qk,InL.length h]
 | [],_::_,_,h=>Qg h
 | _::_,[],_,h=>Qg h
theorem InL.at {n i:Nat}{ds:List D}: ∀{bs:List Addr} {ls:List (List D)} {j0 j:Nat},InL K H O n i j0 bs ls->ls[j]? =some ds->∃b vs,bs[j]? =some b/\O (nx n i (j0+j))=some b/\H b=some (.lst vs)/\IsL K (Off H O) ds vs
 | b::bs,ds'::ls,j0,0,⟨⟨h1,vs,h2,h3⟩,_⟩,e=>by
  cases e;exact⟨b,vs,rfl,h1,h2,h3⟩
 | b::bs,ds'::ls,j0,j+1,⟨_,h⟩,e=>by
  obtain⟨b',vs,e1,e2,e3,e4⟩:=InL.at (j0:=j0+1) (j:=j) h (by simpa using e);exact⟨b',vs,by simpa using e1,by rw[show j0+(j+1)=j0+1+j by omega];exact e2,e3,e4⟩
 | [],[],_,_,_,e=>by simp at e
 | [],_::_,_,_,h,_=>Qg h
 | _::_,[],_,_,h,_=>Qg h
theorem InL.put {n i:Nat}{b:Addr}{ds':List D}{vs':List V}(hi:i<n)(h1: ∀i j a,O i=some a->O j=some a->i=j)(iv:IsL K (Off H O) ds' vs'): ∀{bs:List Addr} {ls:List (List D)} {j0 j:Nat},InL K H O n i j0 bs ls->O (nx n i (j0+j))=some b->InL K (upd H b (.lst vs')) O n i j0 bs (ls.set j ds')
 | [],[],_,_,_,_=>True.intro
 | c::bs,ds::ls,j0,0,⟨⟨g1,vs,g2,g3⟩,g4⟩,e=>by
  have eo:Off (upd H b (.lst vs')) O=Off H O:=Off.upd e;have ec:b=c:=by rw[show j0+0=j0 from rfl,g1] at e;cases e;rfl
  subst ec;refine⟨⟨g1,vs',aAm,by rw[eo];exact iv⟩,?_⟩;refine InL.bP5 (H:=H) (O:=O) (by rw[eo];exact Same.refl _) (fun j b' w hj e1 e2=> ?_) g4;refine⟨e1,?_⟩;rw[aAo (fun z=> ?_)]
  ·exact e2
  ·subst z
   have:=(aP5 hi hi (h1 _ _ _ e1 g1)).2;omega
 | c::bs,ds::ls,j0,j+1,⟨⟨g1,vs,g2,g3⟩,g4⟩,e=>by
  have eo:Off (upd H b (.lst vs')) O=Off H O:=Off.upd e;have nb:c≠b:=fun z=>by
   subst z;have:=(aP5 hi hi (h1 _ _ _ g1 e)).2;omega
  exact⟨⟨g1,vs,by rw[aAo nb];exact g2,by rw[eo];exact g3⟩,InL.put hi h1 iv g4 (by rw[show j0+1+j=j0+(j+1) by omega];exact e)⟩
 | [],_::_,_,_,h,_=>Qg h
 | _::_,[],_,_,h,_=>Qg h
theorem Slot.other {i i':Nat}{sv:SV}(h3:Slot K H O σ i' sv)(hi':i'<σ.length)(hm: ∀m b w,(m=i'\/∃j,m=nx σ.length i' j)->O m=some b->H b=some w->O' m=some b/\H' b=some w)(sm:Same (Off H O) (Off H' O')):Slot K H' O' σ i' sv:=by
 cases sv with
 | sh d=>obtain⟨v,e1,e2⟩:=h3;exact⟨v,e1,e2.mono sm⟩
 | own ds=>obtain⟨a,vs,e1,e2,e3,e4⟩:=h3;obtain⟨f1,f2⟩:=hm _ _ _ (.inl rfl) e1 e3;exact⟨a,vs,f1,e2,f2,e4.mono sm⟩
 | oin a C dx fs=>obtain⟨e1,e2,e3,vs,e4,e5⟩:=h3;obtain⟨f1,f2⟩:=hm _ _ _ (.inl rfl) e1 e4;exact⟨f1,e2,e3,vs,f2,e5.mono sm⟩
 | ow o=>obtain⟨a,w,e1,e2,e3,e4⟩:=h3;obtain⟨f1,f2⟩:=hm _ _ _ (.inl rfl) e1 e3;exact⟨a,w,f1,e2,f2,e4.mono sm⟩
 | tk ks=>obtain⟨a,e1,e2⟩:=h3;exact⟨a,e1,sm _ _ e2⟩
 | nl kd ls=>exact NL.bG5 rfl rfl hm sm h3
theorem Rel.bJb {i j:Nat}{b:Addr}{kd:NK}{ls:List (List D)}{ds':List D}{vs':List V}(h1: ∀i j a,O i=some a->O j=some a->i=j)(ho:aSe H O)(h2:Same H₀ (Off H O))(hl:ρ.length=σ.length)
  (h3: ∀i sv,ρ[i]? =some (some sv)->Slot K H O σ i sv) (q:ρ[i]? =some (some (.nl kd ls))) (hb:O (nx σ.length i j)=some b) (iv:IsL K (Off H O) ds' vs'):Rel K H₀ (ρ.set i (some (.nl kd (ls.set j ds')))) σ (upd H b (.lst vs')):=by
 have eo:Off (upd H b (.lst vs')) O=Off H O:=Off.upd hb;have hi:i<σ.length:=by have:=(List.getElem?_eq_some_iff.mp q).1;omega
 refine⟨O,h1,fun m c qm=> ?_,by rw[eo];exact h2,by rw[Q9,hl],fun i' sv q'=> ?_⟩
 ·by_cases e:c=b
  ·subst e;exact⟨_,aAm,rfl⟩
  ·obtain⟨u,w,m⟩:=ho m c qm
   exact⟨u,by rw[aAo e];exact w,m⟩
 ·have hi':i'<σ.length:=by have:=(List.getElem?_eq_some_iff.mp q').1;rw[Q9] at this;omega
  by_cases e:i'=i
  ·subst e
   rw[Q4 (by omega)] at q';have q'':=Option.some.inj (Option.some.inj q');subst q'';obtain⟨a,w,bs,g1,g2,g3,g4,g5⟩:=(show NL K H O σ i' kd ls from h3 i' _ q);have na:a≠b:=fun z=>by
    subst z;have:=h1 _ _ _ g1 hb;have:=aO8 (n:=σ.length) (i:=i') j;omega
   exact⟨a,w,bs,g1,g2,by rw[aAo na];exact g3,g4,InL.put (j0:=0) hi' h1 iv g5 (by rw[Uf];exact hb)⟩
  ·rw[Qs (Ne.symm e)] at q'
   refine (h3 i' sv q').other (i:=i) hi' (fun m c w hm e1 e2=>⟨e1,?_⟩) (by rw[eo];exact Same.refl _);rw[aAo (fun z=> ?_)]
   ·exact e2
   ·subst z
    have em:=h1 _ _ _ e1 hb;rcases hm with h |⟨j',h⟩
    ·have:=aO8 (n:=σ.length) (i:=i) j
     omega
    ·rw[em] at h
     exact e (aP5 hi hi' h).1.symm
theorem Rel.bTe {i:Nat}(r:Rel K H₀ ρ σ H)(q:ρ[i]? =some (some (.ow (.k [])))):Rel K H₀ (ρ.set i (some (.nl (.k []) []))) σ H:=by
 obtain⟨O,h1,ho,h2,hl,h3⟩:=r;refine⟨O,h1,ho,h2,by rw[Q9,hl],fun i' sv q'=> ?_⟩;by_cases e:i'=i
 ·subst e
  rw[Q4 (List.getElem?_eq_some_iff.mp q).1] at q';have q'':=Option.some.inj (Option.some.inj q');subst q'';obtain⟨a,w,g1,g2,g3,g4⟩:=h3 i' _ q;refine⟨a,w,[],g1,g2,g3,?_,True.intro⟩;cases w<;>first | exact Qg g4 | skip
  cases (show IsK K (Off H O) [] _ from g4);exact⟨rfl,rfl⟩
 ·rw[Qs (Ne.symm e)] at q'
  exact h3 i' sv q'
theorem InL.snoc {n i:Nat}{c:Addr}: ∀{bs:List Addr} {ls:List (List D)} {j0:Nat},InL K H O n i j0 bs ls->O (nx n i (j0+ls.length))=some c->H c=some (.lst [])->InL K H O n i j0 (bs++ [c]) (ls++ [[]])
 | [],[],j0,_,e,hc=>⟨⟨e,[],hc,.nil⟩,True.intro⟩
 | b::bs,ds::ls,j0,⟨h1,h2⟩,e,hc=>⟨h1,InL.snoc h2 (by rw[show j0+1+ls.length=j0+(ds::ls).length by rw[Qk];omega];exact e) hc⟩
 | [],_::_,_,h,_,_=>Qg h
 | _::_,[],_,h,_,_=>Qg h
theorem Rel.bPz {i:Nat}{a c:Addr}{ks:List Key}{k:Key}{ls:List (List D)}{bs:List Addr}(h1: ∀i j a,O i=some a->O j=some a->i=j)(ho:aSe H O)(h2:Same H₀ (Off H O))(hl:ρ.length=σ.length)
  (h3: ∀i sv,ρ[i]? =some (some sv)->Slot K H O σ i sv) (q:ρ[i]? =some (some (.nl (.k ks) ls))) (g1:O i=some a) (g2:σ[i]? =some (some (.ref a))) (g3:H a=some (.dK (ks.zip (bs.map V.ref)))) (g4:ks.length=bs.length) (g5:InL K H O σ.length i 0 bs ls) (hc:H c=none):
  Rel K H₀ (ρ.set i (some (.nl (.k (ks++ [k])) (ls++ [[]])))) σ (upd (upd H c (.lst [])) a (.dK (ks.zip (bs.map V.ref)++ [(k,.ref c)]))):=by
 have hi:i<σ.length:=by have:=(List.getElem?_eq_some_iff.mp q).1;omega
 have nc: ∀m b,O m=some b->b≠c:=fun m b e z=>by
  subst z;obtain⟨u,w,_⟩:=ho m b e;rw[w] at hc;cases hc
 have ac:a≠c:=nc _ _ g1;obtain⟨H2,hH2⟩: ∃H2,H2=upd (upd H c (.lst [])) a (.dK (ks.zip (bs.map V.ref)++ [(k,.ref c)])):=⟨_,rfl⟩;obtain⟨M,hM⟩: ∃M,M=nx σ.length i ls.length:=⟨_,rfl⟩;have iM:i≠M:=by have:=aO8 (n:=σ.length) (i:=i) ls.length;omega
 rw[<-hH2];have Ha:H2 a=some (.dK (ks.zip (bs.map V.ref)++ [(k,.ref c)])):=by rw[hH2];exact aAm
 have Hc:H2 c=some (.lst []):=by rw[hH2,aAo (Ne.symm ac)];exact aAm
 have Hb: ∀b,b≠a->b≠c->H2 b=H b:=fun b z1 z2=>by rw[hH2,aAo z1,aAo z2]
 let O2:Nat->Option Addr:=fun m=>if m=M then some c else O m
 have OM:O2 M=some c:=if_pos rfl;have On: ∀m,m≠M->O2 m=O m:=fun m e=>if_neg e
 have sm:Same (Off H O) (Off H2 O2):=fun b o qb=>by
  have qh:=Off.same H O b o qb;have nb1:b≠a:=fun z=>Off.not qb i (by rw[z];exact g1)
  have nb2:b≠c:=fun z=>by subst z;rw[hc] at qh;cases qh
  refine Off.of (by rw[Hb b nb1 nb2];exact qh) fun m z=> ?_
  by_cases e:m=M
  ·subst e;rw[OM] at z;cases z;exact nb2 rfl
  ·rw[On m e] at z;exact Off.not qb m z
 refine⟨O2,fun m m' b q1 q2=> ?_,fun m b qm=> ?_,h2.trans sm,by rw[Q9,hl],fun i' sv q'=> ?_⟩
 ·by_cases e1:m=M
  ·by_cases e2:m'=M
   ·rw[e1,e2]
   ·subst e1
    rw[OM] at q1;cases q1;rw[On m' e2] at q2;exact absurd rfl (nc _ _ q2)
  ·by_cases e2:m'=M
   ·subst e2
    rw[OM] at q2;cases q2;rw[On m e1] at q1;exact absurd rfl (nc _ _ q1)
   ·rw[On m e1] at q1
    rw[On m' e2] at q2;exact h1 m m' b q1 q2
 ·by_cases e:m=M
  ·subst e
   rw[OM] at qm;cases qm;exact⟨_,Hc,rfl⟩
  ·rw[On m e] at qm
   by_cases ea:b=a
   ·subst ea;exact⟨_,Ha,rfl⟩
   ·obtain⟨u,w,z⟩:=ho m b qm
    exact⟨u,by rw[Hb b ea (nc _ _ qm)];exact w,z⟩
 ·have hi':i'<σ.length:=by have:=(List.getElem?_eq_some_iff.mp q').1;rw[Q9] at this;omega
  by_cases e:i'=i
  ·subst e
   rw[Q4 (by omega)] at q';have q'':=Option.some.inj (Option.some.inj q');subst q'';refine⟨a,_,bs++ [c],by rw[On _ iM];exact g1,g2,Ha,⟨by rw[Qq,Qq,g4];rfl,?_⟩,?_⟩
   ·rw[Zd,List.zip_append (by rw[Qh];exact g4)]
    rfl
   ·refine InL.snoc (j0:=0) (InL.bP4 sm (j0:=0) (bs:=bs) (ls:=ls) (fun j b w hj e1 e2=> ?_) g5) (by rw[Uf,<-hM];exact OM) Hc
    have mM:nx σ.length i' j≠M:=fun z=>by
     rw[hM] at z;have:=(aP5 hi hi z).2;omega
    have ba:b≠a:=fun z=>by
     subst z;have em:=h1 _ _ _ e1 g1;have:=aO8 (n:=σ.length) (i:=i') j;omega
    exact⟨by rw[On _ mM];exact e1,by rw[Hb b ba (nc _ _ e1)];exact e2⟩
  ·rw[Qs (Ne.symm e)] at q'
   refine (h3 i' sv q').other (i:=i) hi' (fun m b w hm e1 e2=> ?_) sm;have mM:m≠M:=fun z=>by
    rcases hm with h |⟨j',h⟩
    ·have:=aO8 (n:=σ.length) (i:=i) ls.length
     omega
    ·rw[z,hM] at h
     exact e (aP5 hi hi' h).1.symm
   have ba:b≠a:=fun z=>by
    subst z;have em:=h1 _ _ _ e1 g1;rcases hm with h |⟨j',h⟩
    ·omega
    ·have:=aO8 (n:=σ.length) (i:=i') j'
     omega
   exact⟨by rw[On m mM];exact e1,by rw[Hb b ba (nc _ _ e1)];exact e2⟩
end
theorem aQp {key:Key}: ∀{ks:List Key} {bs:List Addr},ks.length=bs.length->aGj (ks.zip (bs.map V.ref)) key=(ks.findIdx? fun k=>decide (k=key)).bind fun j=>(bs[j]?).map V.ref
 | [],[],_=>rfl
 | k::ks,b::bs,h=>by
  have ih:=aQp (key:=key) (ks:=ks) (bs:=bs) (by simpa using h);rw[List.findIdx?_cons];by_cases e:k=key
  ·subst e
   simp[aGj,E5]
  ·have e1:aGj ((k::ks).zip ((b::bs).map V.ref)) key=aGj (ks.zip (bs.map V.ref)) key:=by simp[aGj,E5,e]
   rw[e1,ih,decide_eq_false e];cases ks.findIdx? fun k=>decide (k=key)<;>simp
theorem bBy {kvs:List (Key×V)}{k:Key}{v:V}(h:aGj kvs k=none):putK kvs k v=kvs++ [(k,v)]:=by
 unfold putK;rw[if_neg];intro q;rw[Zp] at q;obtain⟨kv,h1,h2⟩:=q;unfold aGj at h;rw[V4,U6] at h;exact h kv h1 h2
section
variable {X:Cx}{B:Hp}{b c:Expr}{fk fv:Rho->M D}{pos pos' p p2 p3 apos cpos bH9 bHz:Pos}{i:Nat}{x:Str}
def bBj (i:Nat):Rho->Option Out:=fun ρ=>some (.nx (ρ.set i (some (.nl (.k []) []))))
theorem bGs (hN:X.N.Nodup)(hi:X.N[i]? =some x)(hx:Loc X.env.scope x)(hs:Y3 (.Dict [] [] p) (some (.Name x pos')) pos.line X.env=pure false:=by rfl)(hf:X.fn x=true\/X.env.scope.names.lookup x=some .local:=by first | exact .inl rfl | exact .inr rfl | assumption):
  PDS X B (.Assign [.Name x pos'] (.Dict [] [] p) pos) (bBj i):=by
 refine PS.of (aS5 hN hi hx aQ5 hs hf) fun E σ H h=> ?_
 obtain⟨ρ,r,h⟩:=h;intro l hl;have r1:=r.bCd (i:=i) (o:= .k []) (w:= .dK []) hl (fun _ _=>IsK.nil) (fun _ _=>IsK.nil);by_cases hj:i<ρ.length
 ·have r2:=r1.bTe (i:=i) (Q4 hj)
  rw[List.set_set] at r2;exact h _ _ r2
 ·have e: ∀y:Option SV,ρ.set i y=ρ:=fun y=>Yr (by omega)
  rw[e] at r1;unfold bBj at h;rw[e] at h;exact h _ _ r1
def bFb (i:Nat)(fk:Rho->M D)(ga:Rho->M (List D)):Rho->Option Out:=fun ρ=>match ρ[i]? with
 | some (some (.nl (.k ks) ls))=>lft (fk ρ) ρ fun kd=>(match keyOf kd with
  | some key=>if ls.length<100000 then (match ks.findIdx? fun k=>decide (k=key) with
   | some j=>lft (ga ρ) ρ fun as=>(match as,ls[j]? with
    | [d],some ds=>if d.imm=true/\ds.length<100000 then some (.nx (ρ.set i (some (.nl (.k ks) (ls.set j (ds++ [d])))))) else none
    | _,_=>none)
   | none=>lft (ga (ρ.set i (some (.nl (.k (ks++ [key])) (ls++ [[]]))))) (ρ.set i (some (.nl (.k (ks++ [key])) (ls++ [[]])))) fun as=>(match as with
    | [d]=>if d.imm=true then some (.nx (ρ.set i (some (.nl (.k (ks++ [key])) ((ls++ [[]]).set ls.length ([]++ [d])))))) else none
    | _=>none)) else none
  | none=>none)
 | _=>none
theorem zip_inj: ∀{ks:List Key} {bs bs':List Addr},ks.length=bs.length->ks.length=bs'.length->ks.zip (bs.map V.ref)=ks.zip (bs'.map V.ref)->bs=bs'
 | [],[],[],_,_,_=>rfl
 | k::ks,b::bs,b'::bs',h1,h2,h=>by
  rw[Qv,Qv,Y6,Y6] at h
  injection h with e1 e2
  injection e1 with _ e3
  injection e3 with e4
  rw[e4,zip_inj (by simpa using h1) (by simpa using h2) e2]
theorem Rel.bCm {K:Qc}{H₀ H:Hp}{ρ:Rho}{σ:St}{ks:List Key}{ls:List (List D)}(r:Rel K H₀ ρ σ H)(q:ρ[i]? =some (some (.nl (.k ks) ls))):
  ∃(O:Nat->Option Addr) (a:Addr) (bs:List Addr),(∀i j a,O i=some a->O j=some a->i=j)/\aSe H O/\Same H₀ (Off H O)/\ρ.length=σ.length/\(∀i sv,ρ[i]? =some (some sv)->Slot K H O σ i sv)/\
   O i=some a/\σ[i]? =some (some (.ref a))/\H a=some (.dK (ks.zip (bs.map V.ref)))/\ks.length=bs.length/\InL K H O σ.length i 0 bs ls:=by
 obtain⟨O,h1,ho,h2,hl,h3⟩:=r;obtain⟨a,w,bs,g1,g2,g3,g4,g5⟩:=(show NL K H O σ i (.k ks) ls from h3 i _ q);cases w<;>first | exact Qg g4 | skip
 obtain⟨e1,e2⟩:=g4;subst e2;exact⟨O,a,bs,h1,ho,h2,hl,h3,g1,g2,g3,e1,g5⟩
theorem bLc (hN:X.N[i]? =some x)(hv:Vis X.env.scope x)(hk:PD X B b fk)(hc:PD X B c fv)(hs:aBu b=true:=by rfl)(hs2:aBu c=true:=by rfl)(hline:(apos.endLine==cpos.line)=true:=by rfl)(bQ1:(bH9.endLine==bHz.line)=true:=by rfl)
  (hbase:Jy (.Call (.Attribute (.Name x p) "setdefault" apos) [b,.List [] p2] [] cpos) "append" X.env (eval (.Call (.Attribute (.Name x p) "setdefault" apos) [b,.List [] p2] [] cpos) X.env)=eval (.Call (.Attribute (.Name x p) "setdefault" apos) [b,.List [] p2] [] cpos) X.env:=by rfl)
  (hsw:Y3 (.Call (.Attribute (.Call (.Attribute (.Name x p) "setdefault" apos) [b,.List [] p2] [] cpos) "append" bH9) [c] [] bHz) none pos.line X.env=pure false:=by rfl)
  (hd:(x==("__debug__":Str))=false:=by decide) (hcd:(x==("__classdict__":Str))=false:=by decide):
  PDS X B (.Expr (.Call (.Attribute (.Call (.Attribute (.Name x p) "setdefault" apos) [b,.List [] p2] [] cpos) "append" bH9) [c] [] bHz) pos) (bFb i fk (aAa fv aAg)):=by
 refine PS.of (aQ4 (bK7 Wd Vq PySem.F.type_list_append aN3 (bI3 (aD5 hN hv hd hcd) hk (aW6 aDl) ⟨rfl,by rw[aUt hs rfl];rfl,hline,by rw[aUt hs rfl];rfl⟩) (aAc hc aAi (aAv hs2)) (hbase:=hbase) (hfew:=by rw[aLy hs2];rfl) (hline:=bQ1) (hs:=aAv hs2) (hplain:=rfl)) hsw) fun E σ H h=> ?_
 obtain⟨ρ,r,h⟩:=h;unfold bFb at h;split at h
 ·rename_i ks ls qi
  obtain⟨O,a,bs,_,_,_,_,_,_,z2,z3,_,_⟩:=r.bCm qi;refine⟨.ref a,z2,a,rfl,.inl ⟨_,.inl z3⟩,ρ,r,(aBw r h).imp fun kd k1 u H1 s1 i1=>⟨Zy _,fun l hl=> ?_⟩⟩;clear z3;split at k1
  ·rename_i key hkey
   split at k1
   ·rename_i hz
    have eu:=aKx i1 hkey;subst eu;have r1:=r.mono s1;obtain⟨O1,a1,bs1,h1,ho,h2,hle,h3,g1,g2,g3,g4,g5⟩:=r1.bCm qi;have ea:a=a1:=by rw[z2] at g2;cases g2;rfl
    subst ea;have al:a≠l:=fun z=>by subst z;rw[hl] at g3;cases g3
    have lb:bs1.length=ls.length:=g5.length;refine⟨ks.zip (bs1.map V.ref),key,by rw[aAo al];exact g3,rfl,?_,fun v l1=> ?_,fun l1=> ?_⟩
    ·rw[List.length_zip,Qh,lb]
     have:=Z6;omega
    ·rw[aQp g4] at l1
     split at k1
     ·rename_i j hj
      rw[hj] at l1;cases hb:bs1[j]? with
      | none=>rw[show (some j:Option Nat).bind (fun j=>(bs1[j]?).map V.ref)=(bs1[j]?).map V.ref from rfl,hb] at l1;cases l1
      | some b0=>
       rw[show (some j:Option Nat).bind (fun j=>(bs1[j]?).map V.ref)=(bs1[j]?).map V.ref from rfl,hb] at l1;cases l1;have hjl:j<ls.length:=by rw[<-lb];exact (List.getElem?_eq_some_iff.mp hb).1
       have hds:ls[j]? =some ls[j]:=Qj hjl;obtain⟨b',vs1,f1,f2,f3,f4⟩:=g5.at (j0:=0) hds;rw[hb] at f1;cases f1;have bl:b0≠l:=fun z=>by subst z;rw[hl] at f3;cases f3
       have r3:=r1.mono (aAp hl (.lst []));refine⟨.inl ⟨rfl,_,SqL.of (show upd H1 l (.lst []) b0=some (.lst vs1) by rw[aAo bl];exact f3)⟩,ρ,r3,(aBw r3 k1).imp fun as k2 us H4 s4 i4=> ?_⟩;rw[hds] at k2;split at k2
       ·rename_i d ds e1 e2
        cases e2;cases i4 with
        | cons id1 rest=>
         cases rest;split at k2
         ·rename_i hh
          have r4:=r3.mono s4;obtain⟨O4,a4,bs4,y1,yo,y2,yl,y3,x1,x2,x3,x4,x5⟩:=r4.bCm qi;have ea4:a=a4:=by rw[z2] at x2;cases x2;rfl
          subst ea4;have eb:bs1=bs4:=by
           have w3:=s4 a _ (show upd H1 l (.lst []) a=some _ by rw[aAo al];exact g3);rw[w3] at x3;have:=Option.some.inj x3
           injection this with this
           exact zip_inj g4 x4 this
          subst eb;obtain⟨b',vs4,c1,c2,c3,c4⟩:=x5.at (j0:=0) hds;rw[hb] at c1;cases c1;rw[Uf] at c2;exact⟨b0,vs4,_,rfl,rfl,c3,by rw[<-c4.length];exact Q3 hh.2 (by decide),k2 _ _ (Rel.bJb y1 yo y2 yl y3 qi c2 (c4.append (.cons (aHn yo hh.1 id1) .nil)))⟩
         ·exact Qg k2
       ·exact Qg k2
     ·rename_i hj
      rw[hj] at l1;cases l1
    ·have l1':=l1
     rw[aQp g4] at l1;split at k1
     ·rename_i j hj
      exfalso
      rw[hj,show (some j:Option Nat).bind (fun j=>(bs1[j]?).map V.ref)=(bs1[j]?).map V.ref from rfl] at l1;have hjk:j<bs1.length:=by rw[<-g4];exact (List.findIdx?_eq_some_iff_getElem.mp hj).1
      rw[Qj hjk] at l1;cases l1
     ·rename_i hj
      rw[bBy l1'];have r5:=Rel.bPz (k:=key) h1 ho h2 hle h3 qi g1 g2 g3 g4 g5 hl;have hi:i<ρ.length:=(List.getElem?_eq_some_iff.mp qi).1;refine⟨.inl ⟨rfl,_,SqL.of (show upd (upd H1 l (.lst [])) a _ l=some (.lst []) by rw[aAo (Ne.symm al)];exact aAm)⟩,_,r5,(aBw r5 k1).imp fun as k2 us H4 s4 i4=> ?_⟩;split at k2
      ·rename_i d e1
       cases i4 with
       | cons id1 rest=>
        cases rest;split at k2
        ·rename_i hh
         have r4:=r5.mono s4;have qi4:(ρ.set i (some (.nl (.k (ks++ [key])) (ls++ [[]]))))[i]? =some (some (.nl (.k (ks++ [key])) (ls++ [[]]))):=Q4 hi;obtain⟨O4,a4,bs4,y1,yo,y2,yl,y3,x1,x2,x3,x4,x5⟩:=r4.bCm qi4;have ea4:a=a4:=by rw[z2] at x2;cases x2;rfl
         subst ea4;have ez:ks.zip (bs1.map V.ref)++ [(key,.ref l)]=(ks++ [key]).zip ((bs1++ [l]).map V.ref):=by
          rw[Zd,List.zip_append (by rw[Qh];exact g4)];rfl
         have eb:bs1++ [l]=bs4:=by
          have w3:=s4 a _ aAm;rw[w3] at x3;have:=Option.some.inj x3
          injection this with this
          rw[ez] at this;exact zip_inj (by rw[Qq,Qq,g4];rfl) x4 this
         subst eb;obtain⟨b',vs4,c1,c2,c3,c4⟩:=x5.at (j0:=0) (j:=ls.length) (ds:=[]) (by simp);rw[<-lb,Yy (Qo _),Nat.sub_self] at c1;cases c1;rw[Uf] at c2;have r6:=Rel.bJb y1 yo y2 yl y3 qi4 c2 (c4.append (.cons (aHn yo hh id1) .nil));rw[List.set_set] at r6;exact⟨l,vs4,_,rfl,rfl,c3,by rw[<-c4.length];exact Q3 (Nat.zero_lt_one) (by decide),k2 _ _ r6⟩
        ·exact Qg k2
      ·exact Qg k2
   ·exact Qg k1
  ·exact Qg k1
 ·exact Qg h
end
section
variable {X:Cx}{B:Hp}{a b:Expr}{fa fb:Rho->M D}{pos p2 apos cpos:Pos}
def bRf:D->D->M D:=fun d k=>match d,keyOf k with
 | .dk kvs,some key=>(match aHf kvs key with | some v=>ok v | none=>ok (.lst []))
 | _,_=>none
def getL (fa fb:Rho->M D):Rho->M D:=fun ρ=>bnd (fa ρ) fun x=>match x with
 | .dk kvs=>bnd (fb ρ) fun y=>bRf (.dk kvs) y
 | _=>none
theorem bLi {k:Nat}(hr:aFk k X.A)(ha:PD X B a fa)(hb:PD X B b fb)(hs:aBu b=true:=by rfl)(hline:(apos.endLine==cpos.line)=true:=by rfl)(hbase:Jy a "get" X.env (eval a X.env)=eval a X.env:=by rfl):
  PD X B (.Call (.Attribute a "get" apos) [b,.List [] p2] [] cpos) (getL fa fb):=by
 refine PE.of (aW7 (aZq hr) ha hb (aW6 aDl) ⟨hbase,by rw[aUt hs rfl];rfl,hline,by rw[aUt hs rfl];rfl⟩) fun σ H Q h=> ?_
 obtain⟨ρ,r1,h⟩:=h;refine⟨ρ,r1,(Res.bind h).imp fun dx h1 v H1 e1 i1=> ?_⟩;cases i1 with
 | dk hh rr=>
  rename_i a0 kvs vs;refine⟨a0,rfl,.inl ⟨_,hh⟩,ρ,r1.mono e1,(Res.bind h1).mono e1 fun dy h2 u H2 e2 i2=>⟨Zy _,fun l hl=> ?_⟩⟩;unfold bRf at h2;split at h2
  ·rename_i kvs' key e3 hk
   cases e3;have eu:=aKx i2 hk;subst eu;have sm:Same H2 (upd H2 l (.lst [])):=aAp hl _;refine⟨_,.inl ⟨_,_,bBs (e2.trans sm) hh,rfl,rfl⟩,?_⟩;rcases aKy (k:=key) (IsK.mono (e2.trans sm) rr) with⟨z1,z2⟩ |⟨d',v',z1,z2,i'⟩
   ·rw[z1] at h2
    rw[z2];exact h2 _ _ ((e1.trans e2).trans sm) (.lst (SqL.of aAm) .nil)
   ·rw[z1] at h2
    rw[z2];exact h2 _ _ ((e1.trans e2).trans sm) i'
  ·exact Qg h2
 | _=>exact Qg h1
variable {c:Expr}{fk fv:Rho->M D}{p bHz bH9:Pos}{i:Nat}{x:Str}
end
end L2.PU
namespace L2.PU
open PySem PySem.Spec PyProof.Rows PySem.W
section
variable {prog:Qx}{w:Zb}{A:Ze}{E:Qd->Qf->Prop}{s:Qf}
theorem aP4 {R:Qd->List Str->Prop}: ∀{vs:List Qd} {ts:List (List Str)},Paired R vs ts->(vs.zip ts).map Vt=vs/\(vs.zip ts).map Ju=ts/\∀q∈vs.zip ts,R q.1 q.2
 | _,_,.nil=>⟨rfl,rfl,fun _ h=>by cases h⟩
 | _,_,.cons (a:=a) (b:=b) h r=>by
  obtain⟨e1,e2,e3⟩:=aP4 r;refine⟨by rw[Y6,Qv,e1],by rw[Y6,Qv,e2],fun q hq=> ?_⟩;rw[Y6,Zt] at hq;rcases hq with rfl | hq
  ·exact h
  ·exact e3 q hq
theorem aSp {P:Qd->Prop}{a:Addr}{T:String}{o:Obj}{nn:Nat}{vals:List Qd}{ts:List (List Str)}{Q:Qd->Qf->Prop}(hT:T="list"\/T="tuple")(ho:s.heap.get? a=some o)(hcl:o.cls= .type T)(hd:o.data= .seq vals.toArray nn)
  (pr:Paired (fun v ks=>P v/\aYi (Qi prog w) s.heap v ks) vals ts) (hne:2<=ts.length->∀k∈ts,k≠[]) (hl:ts.length<64)
  (h: ∀out l h' tk d m,Paired (fun v ks=>P v/\aYi (Qi prog w) s.heap v ks) out (aUk ts)->s.heap.objs.size<=l->h'.get? l=some {cls:= .type "list",data:= .seq out.toArray m}->Kps s.heap h'->Q (.ref l) {s with heap:=h',toks:=tk,drawn:=d}):
  Qp (Qt prog w) A (call (.builtin "sorted") [.ref a]) Q E s:=by
 have hs:Qy=16777216:=Z6;obtain⟨pe,kv,hpr⟩:=aP4 pr;obtain⟨pl',hpl⟩: ∃pl',pl'=vals.zip ts:=⟨_,rfl⟩;rw[<-hpl] at pe kv hpr;have pll:pl'.length=ts.length:=by rw[<-kv,Qh]
 have vl:vals.length=ts.length:=by rw[<-pe,Qh];omega
 refine Ud kind_sorted plain_sorted entry_sorted (args_sorted1 _) ?_;unfold Builtin.«sorted»;refine Qa (m:=checkCount "sorted" 1 1 _) (Qe ?_);refine Qa (aI2 (A:=A.in1) hT ho hcl hd (by omega) ?_);obtain⟨h1,hh1⟩: ∃h1:Heap,h1=(s.heap.push (Yb "list" #[] 0)).update s.heap.objs.size (Zz (· ++vals.toArray)):=⟨_,rfl⟩;have le:s.heap.objs.size<=h1.objs.size:=by
  rw[hh1,Heap.size_update,Z2];exact J2 _
 have hk: ∀b ob,s.heap.get? b=some ob->h1.get? b=some ob:=fun b ob eb=>by
  rw[hh1,Q8 _ _ (Yc (Qn eb))];exact Qb _ eb
 obtain⟨tk,htk⟩: ∃tk,tk=s.toks:=⟨_,rfl⟩;obtain⟨d,hdd⟩: ∃d,d=s.drawn:=⟨_,rfl⟩;rw[<-hh1];show Qp _ _ _ _ _ {s with heap:=h1,toks:=s.toks,drawn:=s.drawn};rw[<-htk,<-hdd];refine Qa (wpAny_newList ?_ (by omega));have hoL:(h1.push (Yb "list" vals.toArray 0)).get? h1.objs.size=some (Yb "list" vals.toArray 0):=Ql _ rfl;show Qp _ _ _ _ _ {s with heap:=h1.push (Yb "list" vals.toArray 0),toks:=tk,drawn:=d};have gv: ∀i (hi:i<pl'.length),vals.getD i Zn=pl'[i].1/\(pl'.map Ju).getD i []=pl'[i].2:=fun i hi=>by
  rw[<-pe]
  constructor
  ·rw[Q0,Q7,Qj hi];rfl
  ·rw[Q0,Q7,Qj hi];rfl
 refine Qa (Yh (Za slot_list_sort ⟨_,hoL,rfl⟩ entry_list_sort (bIt (lt:=fun i j=>aEu ((pl'.map Ju).getD i []) ((pl'.map Ju).getD j [])) hoL (by omega) (fun h2 s' kp=> ?_) ⟨_,rfl,?_⟩) (args_list_sort _)))
 ·have tk': ∀q∈pl',aYi (Qi prog w) s'.heap q.1 q.2:=fun q hq=>(hpr q hq).2.moved fun p o _ e=>by
   have e2:=hk p o e;exact kp p o (Qz (Qn e2)) (Qb _ e2)
  obtain⟨fs,t1,t2,t3⟩:=aQe (prog:=prog) (w:=w) (h:=s'.heap) vals (fun v hv=>by
   rw[<-pe] at hv;obtain⟨q,hq,rfl⟩:=List.mem_map.mp hv;exact⟨q.2,tk' q hq,hne (by omega) _ (by rw[<-kv];exact List.mem_map.mpr ⟨q,hq,rfl⟩)⟩)
  refine kat_kind (M:=Qt prog w) (T:= .type "str") t1 (by omega) (fun v hv=> ?_) rfl ⟨rfl,fun i j C hi hj hC=> ?_⟩
  ·obtain⟨x,u,rfl⟩:=t3 v hv
   exact .now
  ·have hi':i<pl'.length:=by omega
   have hj':j<pl'.length:=by omega
   unfold kas_ask;rw[(gv i hi').1,(gv j hj').1];obtain⟨pa,ea,ka⟩:=tk' pl'[i] (Y7 _);obtain⟨pb,eb,kb⟩:=tk' pl'[j] (Y7 _);rw[ea,eb];refine bH8 ka kb ?_;rw[<-(gv i hi').2,<-(gv j hj').2];exact hC
 ·refine Qe ⟨_,rfl,?_⟩
  have k1:=Y5 hoL (fun _=> #[]);have k2:=Y5 (Qb (Yb "list" #[] 0) (Qb (Yb "tuple" vals.toArray 0) k1)) (fun _=>((aXg (fun i j=>aEu ((pl'.map Ju).getD i []) ((pl'.map Ju).getD j [])) vals.length).map fun i=>vals.getD i Zn).toArray);refine h _ h1.objs.size _ tk d _ ?_ le k2 fun b o e=> ?_
  ·have es1:aUk ts=(aXg (fun i j=>aEu ((pl'.map Ju).getD i []) ((pl'.map Ju).getD j [])) vals.length).map fun i=>(pl'.map Ju).getD i []:=by
    have e0:vals.length=(pl'.map Ju).length:=by rw[Qh];omega
    rw[e0];show aUk ts=aUk (pl'.map Ju);rw[kv]
   rw[es1];have hin: ∀i∈aXg (fun i j=>aEu ((pl'.map Ju).getD i []) ((pl'.map Ju).getD j [])) vals.length,i<pl'.length:=fun i hi=>by
    have:=List.mem_range.mp ((aNm _ _).mem_iff.mp hi);omega
   generalize aXg (fun i j=>aEu ((pl'.map Ju).getD i []) ((pl'.map Ju).getD j [])) vals.length=ol at hin
   induction ol with
   | nil=>exact .nil
   | cons i ol ih=>
    rw[Qv,Qv];refine .cons ?_ (ih fun j hj=>hin j (Qr _ hj));have hi:=hin i Qm;rw[(gv i hi).1,(gv i hi).2];exact hpr _ (Y7 _)
  ·have lt:=Qn (hk b o e)
   have ne:h1.objs.size≠b:=Yc lt;show (sortedHeap _ _ _ _).get? b=some o;unfold sortedHeap;rw[Q8 _ _ ne];refine Qb _ (Qb _ ?_);rw[Q8 _ _ ne];exact Qb _ (hk b o e)
end
section
variable {X:Cx}{B:Hp}{e:Expr}{fa:Rho->M D}{pos p:Pos}
theorem bDi {P:Qx}{w:Zb}{H:Hp}{h:Heap}(ok:HOk P w H h): ∀{vs:List V} {its:List Qd} {ts:List (List Str)},bFg H vs ts->Vals vs its->Paired (fun v ks=>bUs H v/\aYi (Qi P w) h v ks) its ts
 | _,_,_,.nil,r=>by cases r;exact .nil
 | _,_,_,.cons ⟨q,e1,e2⟩ t,r=>by
  subst e1;cases r with
  | cons r1 r2=>
   cases r1;exact .cons ⟨⟨q,_,rfl,e2⟩,q,rfl,bAt ok e2⟩ (bDi ok t r2)
theorem aR5 (hc:X.calm=true):aGh X (.builtin "sorted") (fun xs H Q=> ∃p ys ts,xs=[.ref p]/\(SqL X.K H p ys\/SqT X.K H p ys)/\bFg H ys ts/\(2<=ts.length->∀k∈ts,k≠[])/\ts.length<64/\∀r vs,H r=none->bFg H vs (aUk ts)->Q (.ref r) (upd H r (.lst vs))):=by
 intro pins s σ H xs us Q I r h;obtain⟨p,ys,ts,rfl,hp,hi,hne,h64,q⟩:=h;obtain⟨u,rfl,rx⟩:=vals1 r;cases rx;have hs:Qy=16777216:=Z6;have key: ∃(its:List Qd) (T:String) (o:Obj) (nn:Nat),Vals ys its/\(T="list"\/T="tuple")/\s.heap.get? p=some o/\o.cls= .type T/\o.data= .seq its.toArray nn:=by
  rcases hp with hp | hp
  ·obtain⟨its,r1,⟨o,nn,e1,e2,_,e3⟩,_⟩:=I.list hp
   exact⟨its,"list",o,nn,r1,.inl rfl,e1,e2,e3⟩
  ·obtain⟨its,r1,⟨o,e1,e2,nn,e3⟩,_⟩:=I.tuple hp
   exact⟨its,"tuple",o,nn,r1,.inr rfl,e1,e2,e3⟩
 obtain⟨its,T,o,nn,r1,hT,ho,hcl,hd⟩:=key;refine aSp (P:=bUs H) hT ho hcl hd (bDi I.hok hi r1) hne h64 fun out r h' tk d m hp' hr ho' kp=> ?_
 obtain⟨vs,v1,v2⟩:=aXe I.hok hp';have hvl:vs.length=ts.length:=by rw[Paired.len v2,(aI5 ts).length_eq]
 exact⟨.ref r,_,(aM1 I d).laid (t':=tk) kp hr (show aBn X.prog X.w _ h' _ (.lst _) from⟨by omega,out,m,v1,ho'⟩),rfl,q _ vs (I.hok.fresh hr) v2⟩
def aYq:D->M D
 | .lst ds=>match aCp ds with | some l=>if l.length<64/\(2<=l.length->∀k∈l,k≠[]) then ok (.lst ((aUk l).map fun x=>D.tup (x.map D.str))) else none | none=>none
 | .tup ds=>match aCp ds with | some l=>if l.length<64/\(2<=l.length->∀k∈l,k≠[]) then ok (.lst ((aUk l).map fun x=>D.tup (x.map D.str))) else none | none=>none
 | _=>none
theorem aU9 (hc:X.calm=true)(hg:Gl X "sorted")(hm:X.mg "sorted"=none)(ha:PD X B e fa)(hs:aBu e=true:=by rfl):PD X B (.Call (.Name "sorted" p) [e] [] pos) (f1 aYq fa):=by
 refine PE.of (aEr (aR5 hc) hg hm boot_sorted (aB8 ha aDl (aAv hs)) (he:=aAv hs) (hpl:=by rfl)) fun σ H Q h=> ?_
 obtain⟨ρ,r1,h⟩:=h;refine⟨ρ,r1,(Res.bind h).imp fun d q1 v H1 e1 i1=> ?_⟩;cases i1 with
 | lst hh rr=>
  dsimp only[aYq] at q1
  split at q1
  ·rename_i l hx
   have ed:=aI4 _ hx;subst ed;split at q1
   ·rename_i hz
    refine⟨_,_,l,rfl,.inl hh,aM0 rr,hz.2,hz.1,fun r vs hr' tv=>q1 _ _ (e1.trans (aAp hr' _)) (.lst (SqL.of aAm) ?_)⟩;exact aQv (Paired.bP6 tv fun v ks ⟨p,a1,a2⟩=>⟨p,a1,aAp hr' (.lst vs) _ _ a2⟩)
   ·exact Qg q1
  ·exact Qg q1
 | tup hh rr=>
  dsimp only[aYq] at q1
  split at q1
  ·rename_i l hx
   have ed:=aI4 _ hx;subst ed;split at q1
   ·rename_i hz
    refine⟨_,_,l,rfl,.inr hh.sq,aM0 rr,hz.2,hz.1,fun r vs hr' tv=>q1 _ _ (e1.trans (aAp hr' _)) (.lst (SqL.of aAm) ?_)⟩;exact aQv (Paired.bP6 tv fun v ks ⟨p,a1,a2⟩=>⟨p,a1,aAp hr' (.lst vs) _ _ a2⟩)
   ·exact Qg q1
  ·exact Qg q1
 | _=>exact Qg q1
end
section
variable {X:Cx}{B:Hp}{a b:Expr}{fa fb:Rho->M D}{pos:Pos}
theorem bAc {xs ys:List (List Str)}(h:xs.length=ys.length):(Zj xs.length).all (fun j=>decide (xs.getD j []=ys.getD j []))=decide (xs=ys):=by
 rw[Yd,Uc,decide_eq_true_eq]
 constructor
 ·intro q
  apply Uq h
  intro i h1 h2;have:=q i (List.mem_range.mpr h1)
  simpa[h1,h2] using this
 ·rintro rfl i _
  simp
theorem aWp {H:Hp}{xs:List (List Str)}{vs:List V}{its:List Qd}(t:bFg H vs xs)(r:Vals vs its){j:Nat}(h1:j<its.length): ∃p,its[j]=Q1 p/\H p=some (.tup ((xs.getD j []).map V.str)):=by
 have l1:=Paired.len r;have hv:vs[j]? =some vs[j]:=Qj (by omega);obtain⟨x,g1,p,g2,g3⟩:=Paired.at t hv;obtain⟨u,f1,f2⟩:=Paired.at r hv;rw[Qj h1] at f1;cases f1;rw[g2] at f2;refine⟨p,f2,?_⟩;rw[Q0,g1];exact g3
def bOt (K:Qc):R2:=fun x y H Q=> ∃a b vs us xs ys,x= .ref a/\y= .ref b/\SqT K H a vs/\bFg H vs xs/\SqT K H b us/\bFg H us ys/\Q (.bl (decide (xs=ys))) H
theorem bLr {k:Nat}(hr:aFk k X.A):OpR X (Yp .Eq) (bOt X.K):=by
 intro pins s σ H x y v u Q I rx ry h;obtain⟨a,b,vs,us,xs,ys,rfl,rfl,ha,t1,hb,t2,q⟩:=h;cases rx;cases ry;have hu:X.A.in1.units<cLine:=by
  show X.A.units+1<cLine;have:=hr.un;omega
 obtain⟨its,r1,p1,_⟩:=I.tuple ha;obtain⟨jts,r2,p2,_⟩:=I.tuple hb;have l1:its.length=xs.length:=by rw[<-Paired.len r1,Paired.len t1]
 have l2:jts.length=ys.length:=by rw[<-Paired.len r2,Paired.len t2]
 refine PySem.SeqAt.eq_tupleAt (e:=fun j=>decide (xs.getD j []=ys.getD j [])) p1 p2 hr.bIj (fun j h1 h2=> ?_) ⟨.bl (decide (xs=ys)),H,I,?_,q⟩
 ·have h1':j<its.length:=by simpa using h1
  have h2':j<jts.length:=by simpa using h2
  obtain⟨p,e1,e2⟩:=aWp t1 r1 h1';obtain⟨p',e3,e4⟩:=aWp t2 r2 h2';have z:=bD4 hu I.hok e4 t1 r1 its[j] (Y7 _);rw[e1,bJt e2,<-e1,<-e3] at z
  simpa using z
 ·show Value.bool _=Value.bool _
  congr 1
  rw[Qu,Qu,l1,l2];by_cases hl:xs.length=ys.length
  ·rw[<-hl,Nat.min_self,bAc hl];simp
  ·have:(xs.length==ys.length)=false:=by simpa using hl
   rw[this,Jw,decide_eq_false (fun e=>hl (by rw[e]))]
def aV1:D->D->M D
 | .tup xs,.tup ys=>match aCp xs,aCp ys with | some x,some y=>ok (.bl (decide (x=y))) | _,_=>none
 | _,_=>none
theorem bP2:aIi aV1:=by
 intro x y c h;unfold aV1 at h
 (repeat' split at h)<;>cases h
theorem bOr:aSa X (bOt X.K) aV1:=by
 intro H x y dx dy d Q ix iy e q;unfold aV1 at e;split at e
 ·split at e
  ·rename_i x' y' h1 h2
   cases e;cases ix with
   | tup g1 r1=>
    cases iy with
    | tup g2 r2=>
     have e1:=aI4 _ h1;have e2:=aI4 _ h2;subst e1 e2;exact⟨_,_,_,_,x',y',rfl,rfl,TQ.sq g1,aM0 r1,TQ.sq g2,aM0 r2,q _ H (Same.refl H) (.bl _)⟩
  ·cases e
 ·cases e
theorem bLj {k:Nat}(hr:aFk k X.A)(ha:PD X B a fa)(hb:PD X B b fb):PD X B (.Compare a [.Eq] [b] pos) (b2 aV1 fa fb):=aNl (bLr hr) bOr bP2 ha hb (aHb _)
end
end L2.PU
namespace L2.PU
open PySem PySem.Spec PyProof.Rows
def Itk (d:Addr)(o:Obj)(kvs:List (Key×V)):It where
 go:=fun i H=>i<kvs.length/\H d=some (.frz o (.dK kvs))
 yld:=fun i H x H'=>H'=H/\∃kv,kvs[i]? =some kv/\x=kV kv.1
 stop:=fun i H=>kvs.length<=i/\H d=some (.frz o (.dK kvs))
theorem aTz {P:Qx}{w:Zb}{H:Hp}{h:Heap}{d:Addr}{o:Obj}{kvs:List (Key×V)}{es:Array Jc}{ep:Nat}(x:aBn P w H h d (.frz o (.dK kvs)))(hd:o.data= .dict es ep): ∃vs,KV kvs vs/\h.DictAt (aBb P w) d vs ep:=by
 obtain⟨ho,z,_,vs,rel,dd⟩:=x;obtain⟨o',es',ep',h1,h2,h3,h4⟩:=dd;rw[ho] at h1;cases h1;rw[hd] at h3;cases h3;exact⟨vs,rel,o,es,ho,h2,hd,h4⟩
theorem bAw {P:Qx}{w:Zb}{K:Qc}{tg:Expr}(d it:Addr){o:Obj}{kvs:List (Key×V)}{es:Array Jc}{ep:Nat}(hd:o.data= .dict es ep):Turn P w K tg (Itk d o kvs) [it] it (fun i h=>h.IsKeyIter it d i kvs.length ep) where
 mem:=by simp
 obj:=fun i h st b hb=>by
  have e:b=it:=by simpa using hb
  subst e;obtain⟨o,e,c,d⟩:=st;exact⟨o,e,fun v z=>by rw[d] at z;cases z⟩
 keep:=fun i h h' st k=>st.at fun o e=>k it (by simp) o e
 item:=by
  intro X hP hw hK hc i pins s σ H E I hf st hg;subst hP hw hK;obtain⟨hi,hq⟩:=hg;obtain⟨vs,rel,hat⟩:=aTz (I.hok d _ hq) hd;obtain⟨f0,f1,f2,f3,f4,f5⟩:=hf it (by simp);have hl:kvs.length=vs.length:=rel.length;rw[hl] at st;obtain⟨⟨k,v⟩,hx⟩: ∃q,vs[i]? =some q:=⟨vs[i],Qj (by omega)⟩;refine wpAny_pyNext_dict_item st hat hx fun key h' hk st' sb=> ?_
  have I1:Inv X pins σ H {s with heap:=h'}:=I.turned (t':=s.toks) (fun b o hb e=>(sb.2 b hb).trans e) f0 f1 f3 f4 f5;obtain⟨o1,e,c,d1⟩:=id st';obtain⟨kv,g1,g2⟩: ∃kv,kvs[i]? =some kv/\kv.1=k:=by
   have h1:kvs[i]? =some kvs[i]:=Qj hi;obtain⟨q,e1,e2⟩:=Paired.at rel h1;rw[hx] at e1;cases e1;exact⟨_,h1,e2.1⟩
  exact⟨key,rfl,bHk (s:={s with heap:=h'}) e c d1 (by decide) ⟨kV k,H,I1,bQo hk,⟨rfl,kv,g1,by rw[g2]⟩,by rw[hl];exact st',fun b hb=>(hf b hb).1⟩⟩
 done:=by
  intro X hP hw hK hc i pins s σ H E I hf st hg;subst hP hw hK;obtain⟨hi,hq⟩:=hg;obtain⟨vs,rel,hat⟩:=aTz (I.hok d _ hq) hd;obtain⟨f0,f1,f2,f3,f4,f5⟩:=hf it (by simp);have hl:kvs.length=vs.length:=rel.length;rw[hl] at st;exact wpAny_pyNext_dict_end (I.ok.hd hc) st hat (Y4 (by omega)) fun h' eb=>⟨rfl,I.turned (t':=s.toks) (fun b o hb e=>eb b o hb e) f0 f1 f3 f4 f5⟩
 self:=fun _ _ _ _ _ st h=>wpAny_pyIter_keyiter st h
section
variable {X:Cx}{tg:Expr}
def bTy (tl:TE):TI:=fun σ H R=>tl σ H fun x H1=> ∃d kvs,x= .ref d/\H1 d=some (.dK kvs)/\∀o,R (Itk d o kvs) (upd H1 d (.frz o (.dK kvs)))
theorem bK3 {l:Expr}{tl:TE}(hl:PE X l tl):PI X tg l (bTy tl):=by
 intro pins s σ H R I h;refine thn (hl pins s σ H _ I h) fun v s1 ⟨x,H1,I1,r1,q1⟩=> ?_
 obtain⟨d,kvs,e,hq,q⟩:=q1;subst e;cases r1;obtain⟨z,hd,vs,rel,dd⟩:=bHw I1.hok hq;obtain⟨o,es,ep,ho,hcl,hdat,rest⟩:=id dd;have hat:s1.heap.DictAt (aBb X.prog X.w) d vs ep:=⟨o,es,ho,hcl,hdat,rest⟩;refine wpAny_pyIter_dict hd hat ?_;have I2:=I1.kept (t':=s1.toks) (h':=s1.heap.push {cls:= .type "dict_keyiterator",data:= .fields #[.ref d,.int 0 0,.int vs.length 0,.int ep 0]}) fun b o e=>Qb _ e
 have ho2:=Qb {cls:= .type "dict_keyiterator",data:= .fields #[.ref d,.int 0 0,.int vs.length 0,.int ep 0]} ho;have I3:=I2.write (x:=d) (e:=d) (o:= .frz o (.dK kvs)) (t':=s1.toks) (by rw[hq];exact True.intro) (.inl rfl) (fun b u _ e=>e) ⟨o,ho2⟩ ⟨ho2,z,hd,vs,rel,⟨o,es,ep,ho2,hcl,hdat,rest⟩⟩;refine⟨s1.heap.objs.size,[s1.heap.objs.size],_,Itk d o kvs,upd H1 d (.frz o (.dK kvs)),rfl,I3,bAw d _ hdat,?_,fun b hb=> ?_,q o⟩
 ·rw[show kvs.length=vs.length from rel.length]
  exact⟨_,Ql _ rfl,rfl,rfl⟩
 ·have e:b=s1.heap.objs.size:=by simpa using hb
  subst e;have nd:s1.heap.objs.size≠d:=fun z=>by
   have:=I1.hok.fresh (Qo s1.heap.objs.size);rw[z,hq] at this;cases this
  exact I1.bJq (Qo _) (by rw[aAo nd];exact I1.hok.fresh (Qo _))
end
section
variable {K:Qc}{H₀ H:Hp}{ρ:Rho}{σ:St}{O:Nat->Option Addr}
theorem bDj {H1:Hp}{O1:Nat->Option Addr}{n i:Nat}(sm:Same (Off H O) (Off H1 O1))(hv: ∀j b w,O (nx n i j)=some b->H b=some w->Off H1 O1 b=some w): ∀{bs:List Addr} {ls:List (List D)} {j:Nat},InL K H O n i j bs ls->IsL K (Off H1 O1) (ls.map D.lst) (bs.map V.ref)
 | [],[],_,_=> .nil
 | b::bs,ds::ls,j,⟨⟨e1,vs,h2,h3⟩,h4⟩=> .cons (.lst (SqL.of (hv j b _ e1 h2)) (h3.mono sm)) (bDj sm hv h4)
 | [],_::_,_,h=>Qg h
 | _::_,[],_,h=>Qg h
open Classical in
theorem Rel.bLy {i:Nat}{ks:List Key}{ls:List (List D)}(r:Rel K H₀ ρ σ H)(q:ρ[i]? =some (some (.nl (.k ks) ls))): ∃(d:Addr) (kvs:List (Key×V)),σ[i]? =some (some (.ref d))/\H d=some (.dK kvs)/\kvs.map (·.1)=ks/\∀o:Obj,∃B',Rel K B' (ρ.set i (some (.sh (.dk (ks.zip (ls.map D.lst)))))) σ (upd H d (.frz o (.dK kvs)))/\Same H₀ B'/\B' d=some (.frz o (.dK kvs)):=by
 obtain⟨O,d,bs,h1,ho,h2,hl,h3,g1,g2,g3,g4,g5⟩:=r.bCm q;have hi:i<σ.length:=by have:=(List.getElem?_eq_some_iff.mp q).1;omega
 refine⟨d,_,g2,g3,?_,fun o=> ?_⟩
 ·exact List.map_fst_zip (l₁:=ks) (l₂:=bs.map V.ref) (by rw[Qh];omega)
 obtain⟨O1,hO1⟩: ∃O1:Nat->Option Addr,O1=fun m=>if m=i\/∃j,m=nx σ.length i j then none else O m:=⟨_,rfl⟩
 have oc: ∀m b,O1 m=some b->O m=some b/\m≠i/\∀j,m≠nx σ.length i j:=fun m b e=>by
  rw[hO1] at e
  dsimp only at e
  split at e
  ·cases e
  ·rename_i hn
   exact⟨e,fun z=>hn (.inl z),fun j z=>hn (.inr ⟨j,z⟩)⟩
 have On: ∀m,m≠i->(∀j,m≠nx σ.length i j)->O1 m=O m:=fun m e1 e2=>by
  rw[hO1];exact if_neg (fun z=>z.elim e1 fun⟨j,z⟩=>e2 j z)
 have H1b: ∀b,b≠d->upd H d (.frz o (.dK (ks.zip (bs.map V.ref)))) b=H b:=fun b e=>aAo e
 have H1d:upd H d (.frz o (.dK (ks.zip (bs.map V.ref)))) d=some (.frz o (.dK (ks.zip (bs.map V.ref)))):=aAm;generalize upd H d (.frz o (.dK (ks.zip (bs.map V.ref))))=H1 at H1b H1d;have nd: ∀m b,O1 m=some b->b≠d:=fun m b e z=>by
  obtain⟨e1,e2,_⟩:=oc m b e;rw[z] at e1;exact e2 (h1 _ _ _ e1 g1)
 have sm:Same (Off H O) (Off H1 O1):=fun b u qb=>by
  have qh:=Off.same H O b u qb;have nb:b≠d:=fun z=>Off.not qb i (by rw[z];exact g1)
  exact Off.of (by rw[H1b b nb];exact qh) fun m z=>Off.not qb m (oc m b z).1
 have vd:Off H1 O1 d=some (.frz o (.dK (ks.zip (bs.map V.ref)))):=Off.of H1d fun m z=>nd m d z rfl
 have vb: ∀j b w,O (nx σ.length i j)=some b->H b=some w->Off H1 O1 b=some w:=fun j b w e1 e2=>by
  have nb:b≠d:=fun z=>by
   rw[z] at e1;have:=h1 _ _ _ e1 g1;have:=aO8 (n:=σ.length) (i:=i) j;omega
  refine Off.of (by rw[H1b b nb];exact e2) fun m z=> ?_
  obtain⟨f1,_,f3⟩:=oc m b z;exact f3 j (h1 _ _ _ f1 e1)
 refine⟨Off H1 O1,⟨O1,fun m m' b q1 q2=>h1 _ _ _ (oc m b q1).1 (oc m' b q2).1,fun m b qm=> ?_,Same.refl _,by rw[Q9,hl],fun i' sv q'=> ?_⟩,h2.trans sm,vd⟩
 ·obtain⟨u,w,z⟩:=ho m b (oc m b qm).1
  exact⟨u,by rw[H1b b (nd m b qm)];exact w,z⟩
 ·have hi':i'<σ.length:=by have:=(List.getElem?_eq_some_iff.mp q').1;rw[Q9] at this;omega
  by_cases e:i'=i
  ·subst e
   rw[Q4 (by omega)] at q';have q'':=Option.some.inj (Option.some.inj q');subst q'';exact⟨.ref d,g2,.dk (.inr ⟨o,vd⟩) (aVv (bDj sm vb g5))⟩
  ·rw[Qs (Ne.symm e)] at q'
   refine (h3 i' sv q').other (i:=i) hi' (fun m b w hm e1 e2=> ?_) sm;have m1:m≠i:=fun z=>by
    rcases hm with h |⟨j',h⟩
    ·omega
    ·have:=aO8 (n:=σ.length) (i:=i') j'
     omega
   have m2: ∀j,m≠nx σ.length i j:=fun j z=>by
    rcases hm with h |⟨j',h⟩
    ·have:=aO8 (n:=σ.length) (i:=i) j
     omega
    ·rw[z] at h
     exact e (aP5 hi hi' h).1.symm
   have f1:O1 m=some b:=by rw[On m m1 m2];exact e1
   exact⟨f1,by rw[H1b b (nd m b f1)];exact e2⟩
theorem bHc {d:Addr}{o:Obj}{kvs:List (Key×V)}{ks:List Key}{B:Hp}(h:B d=some (.frz o (.dK kvs)))(hk:kvs.map (·.1)=ks):ItD K (Itk d o kvs) (ks.map kD) B where
 go:=fun j H e q=>⟨by rw[<-hk,Qh,Qh] at q;exact q,e _ _ h⟩
 yld:=fun j H x H' e y q=>by
  obtain⟨y1,kv,y2,y3⟩:=y;subst y1 y3;exact⟨Same.refl _,kD kv.1,by rw[<-hk,Q7,Q7,y2];rfl,bMq _⟩
 stop:=fun j H e q=>⟨by rw[<-hk,Qh,Qh] at q;exact q,e _ _ h⟩
end
section
variable {X:Cx}{B:Hp}{tg:Expr}{body:List Stmt}{pos:Pos}{G:D->Rho->Option Rho}{F:Rho->Option Out}
def aYy (i:Nat)(G:D->Rho->Option Rho)(F:Rho->Option Out):Rho->Option Out:=fun ρ=>match ρ[i]? with
 | some (some (.nl (.k ks) ls))=>loop G F (ks.map kD) (ρ.set i (some (.sh (.dk (ks.zip (ls.map D.lst))))))
 | _=>none
theorem bGt (i:Nat){x:Str}{p:Pos}(hN:X.N[i]? =some x)(hv:Vis X.env.scope x)(hp:PassesOwn (Qt X.prog X.w) X.A X.env X.xe)(hc:X.calm=true)(hg: ∀B,PDG X B tg G)(hb: ∀B,PDB X B body F)
  (hd:(x==("__debug__":Str))=false:=by decide) (hcd:(x==("__classdict__":Str))=false:=by decide) (hs: ∀y,Ys (.Name x p) X.env y=pure y:=by intro _;rfl):PDS X B (.For tg (.Name x p) body [] pos) (aYy i G F):=by
 refine aJg hp hc (bK3 (aD5 hN hv hd hcd)) hg hb (fun E σ H R h k=> ?_) hs;obtain⟨ρ,r,h⟩:=h;unfold aYy at h;split at h
 ·rename_i ks ls q
  obtain⟨d,kvs,e1,e2,e3,e4⟩:=r.bLy q;refine⟨.ref d,e1,d,kvs,rfl,e2,fun o=> ?_⟩;obtain⟨B',b1,b2,b3⟩:=e4 o;exact k _ _ _ _ ⟨B',bHc b3 e3,b1,b2⟩ h
 ·exact Qg h
end
section
variable {X:Cx}{B:Hp}{tg e:Expr}{fa:Rho->M D}{body:List Stmt}{pos p p1:Pos}{G:D->Rho->Option Rho}{F:Rho->Option Out}
theorem Rel.aZ1 {K:Qc}{H₀ H:Hp}{ρ:Rho}{σ:St}{l:Addr}{ds:List D}{vs:List V}(r:Rel K H₀ ρ σ H)(hl:H l=none)(i: ∀H',IsL K H' ds vs): ∃B',ItD K (Itl K l) ds B'/\Rel K B' ρ σ (upd H l (.lst vs))/\Same H₀ B':=by
 obtain⟨O,h1,ho,h2,hle,h3⟩:=r;have sm:=aAp hl (.lst vs);have nl: ∀m,O m≠some l:=fun m z=>by
  obtain⟨u,w,_⟩:=ho m l z;rw[hl] at w;cases w
 refine⟨Off (upd H l (.lst vs)) O,aMz (SqL.of (Off.of aAm nl)) (i _),⟨O,h1,ho.mono sm,Same.refl _,hle,fun j sv q=>(h3 j sv q).mono sm⟩,h2.trans (Off.mono sm)⟩
end
section
variable {prog:Qx}{w:Zb}{A:Ze}{E:Qd->Qf->Prop}{s:Qf}
theorem aYs {x:Qd}{ns:List Int}{Q:Qd->Qf->Prop}(hh:A.handled=none)(hz:ns.length<64)
  (hc: ∀(B:Ze) (Q':List Qd->Qf->Prop),B.handled=none->(∀vals h' tk d,IntsAre vals ns->s.heap.objs.size<=h'.objs.size->(∀b o,s.heap.get? b=some o->h'.get? b=some o)->Q' vals {s with heap:=h',toks:=tk,drawn:=d})->Qp (Qt prog w) B (collect x) Q' E s)
  (h: ∀out l h' tk d m,IntsAre out (bAm ns)->s.heap.objs.size<=l->h'.get? l=some {cls:= .type "list",data:= .seq out.toArray m}->(∀b o,s.heap.get? b=some o->h'.get? b=some o)->Q (.ref l) {s with heap:=h',toks:=tk,drawn:=d}):
  Qp (Qt prog w) A (call (.builtin "sorted") [x]) Q E s:=by
 have hs:Qy=16777216:=Z6;refine Ud kind_sorted plain_sorted entry_sorted (args_sorted1 _) ?_;unfold Builtin.«sorted»;refine Qa (m:=checkCount "sorted" 1 1 _) (Qe ?_);refine Qa (hc A.in1 _ (by simp[hh]) fun vals h1 tk d hS le hk=> ?_);have hvl:vals.length<64:=by rw[<-hS.nums,Qh] at hz;exact hz
 refine Qa (wpAny_newList ?_ (by omega));have hoL:(h1.push (Yb "list" vals.toArray 0)).get? h1.objs.size=some (Yb "list" vals.toArray 0):=Ql _ rfl;show Qp _ _ _ _ _ {s with heap:=h1.push (Yb "list" vals.toArray 0),toks:=tk,drawn:=d};refine Qa (Yh (Za slot_list_sort ⟨_,hoL,rfl⟩ entry_list_sort (list_sort_tree hoL hS hvl fun out ns' b0 a2 a3=>⟨_,rfl,?_⟩) (args_list_sort _)));refine Qe ⟨_,rfl,?_⟩;have b1:=b0;rw[bKh a3 a2] at b1;obtain⟨ol⟩:=out;have k1:=Y5 hoL (fun _=> #[]);have k2:=Y5 (Qb (Yb "list" #[] 0) (Qb (Yb "tuple" vals.toArray 0) k1)) (fun _=>ol.toArray);refine h ol h1.objs.size _ tk d _ b1 le k2 fun b o e=> ?_
 have lt:=Qn (hk b o e);have ne:h1.objs.size≠b:=Yc lt;show (sortedHeap _ _ _ _).get? b=some o;unfold sortedHeap;rw[Q8 _ _ ne];refine Qb _ (Qb _ ?_);rw[Q8 _ _ ne];exact Qb _ (hk b o e)
end
section
variable {X:Cx}{B:Hp}{tg e:Expr}{fa:Rho->M D}{body:List Stmt}{pos p p1:Pos}{G:D->Rho->Option Rho}{F:Rho->Option Out}
theorem aT5 (hc:X.calm=true):aGh X (.builtin "sorted") (fun xs H Q=> ∃p ys ss,xs=[.ref p]/\(SqL X.K H p ys\/SqT X.K H p ys)/\IsL X.K H ((ss:List Int).map D.int) ys/\ss.length<64/\∀l,H l=none->Q (.ref l) (upd H l (.lst ((bAm ss).map V.int)))):=by
 intro pins s σ H xs us Q I r h;obtain⟨p,ys,ss,rfl,hp,hi,h64,q⟩:=h;obtain⟨u,rfl,rx⟩:=vals1 r;cases rx;have hs:Qy=16777216:=Z6;have key: ∃(its:List Qd) (T:String) (o:Obj) (nn:Nat),Vals ys its/\(T="list"\/T="tuple")/\s.heap.get? p=some o/\o.cls= .type T/\o.data= .seq its.toArray nn:=by
  rcases hp with hp | hp
  ·obtain⟨its,r1,⟨o,nn,e1,e2,_,e3⟩,_⟩:=I.list hp
   exact⟨its,"list",o,nn,r1,.inl rfl,e1,e2,e3⟩
  ·obtain⟨its,r1,⟨o,e1,e2,nn,e3⟩,_⟩:=I.tuple hp
   exact⟨its,"tuple",o,nn,r1,.inr rfl,e1,e2,e3⟩
 obtain⟨its,T,o,nn,r1,hT,ho,hcl,hd⟩:=key;have hS:=aXi hi r1;have hlen:its.length=ss.length:=by rw[<-hS.nums,Qh]
 refine aYs (ns:=ss) (I.ok.hd hc) (by omega) (fun B' Q' hB q'=>aI2 hT ho hcl hd (by omega) (q' its _ s.toks s.drawn hS ?_ fun b ob eb=> ?_)) fun out l h' tk d m hS' hl ho' kp=> ?_
 ·rw[Heap.size_update,Z2]
  exact J2 _
 ·rw[Q8 _ _ (Yc (Qn eb))]
  exact Qb _ eb
 ·have hl2:(bAm ss).length=ss.length:=bFx ss
  exact⟨.ref l,_,(aM1 I d).laid (t':=tk) kp hl (show aBn X.prog X.w _ h' _ (.lst _) from⟨by rw[Qh];omega,out,m,aTf hS',ho'⟩),rfl,q _ (I.hok.fresh hl)⟩
def aS2 (f:Rho->M D)(G:D->Rho->Option Rho)(F:Rho->Option Out):Rho->Option Out:=fun ρ=>lft (f ρ) ρ fun d=>match d with
 | .lst ds=>(match aTg ds with | some xs=>if xs.length<64 then loop G F ((bAm xs).map .int) ρ else none | none=>none)
 | _=>none
theorem bB8 (hgl:Gl X "sorted")(hm:X.mg "sorted"=none)(hp:PassesOwn (Qt X.prog X.w) X.A X.env X.xe)(hc:X.calm=true)(ha:PD X B e fa)(hg: ∀B,PDG X B tg G)(hb: ∀B,PDB X B body F)(hst:aBu e=true:=by rfl)
  (hs: ∀y,Ys (.Call (.Name "sorted" p) [e] [] p1) X.env y=pure y:=by intro _;rfl):PDS X B (.For tg (.Call (.Name "sorted" p) [e] [] p1) body [] pos) (aS2 fa G F):=by
 refine aJg hp hc (bK2 (aEr (aT5 hc) hgl hm boot_sorted (aB8 ha aDl (aAv hst)) (he:=aAv hst) (hpl:=by rfl))) hg hb (fun E σ H R h k=> ?_) hs;obtain⟨ρ,r,h⟩:=h;refine⟨ρ,r,(aBw r h).imp fun d h1 v H1 e1 i1=> ?_⟩;cases i1 with
 | lst hh rr=>
  dsimp only at h1
  split at h1
  ·rename_i xs hx
   split at h1
   ·rename_i hz
    have ex:=bLx _ hx;subst ex;refine⟨_,_,xs,rfl,.inl hh,rr,hz,fun l hl=>⟨l,rfl,⟨_,SqL.of aAm⟩,?_⟩⟩;exact k _ _ _ ρ ((r.mono e1).aZ1 hl fun H'=>bC8 _) h1
   ·exact Qg h1
  ·exact Qg h1
 | _=>exact Qg h1
end
section
variable {X:Cx}{B:Hp}{a b:Expr}{fa fb:Rho->M D}{pos:Pos}
variable {e:Expr}{es:List Expr}{ga:Rho->M (List D)}
theorem bS9 (ha:PD X B e fa)(hr:PDA X B es ga)(hs:aBu e=true:=by rfl):PDA X B (e::es) (aAa fa ga):=aAc ha hr (aAv hs)
def bRp:Rho->M D:=fun _=>ok (.dk [])
theorem aQ9:PD X B (.Dict [] [] pos) bRp:=by
 refine PE.of aQ5 fun σ H Q h=> ?_
 obtain⟨ρ,r,h⟩:=h;intro p hp;exact h _ _ (aAp hp (.dK [])) (.dk (.inl aAm) .nil)
def bSc:D->D->M D
 | .int i,.int j=>ok (.bl (decide (i<=j)))
 | .str i,.str j=>ok (.bl (!decide (j.cps.toList<i.cps.toList)))
 | _,_=>none
theorem bPr:OpR X (Yp .LtE) (fun x y H Q=>(∃i j:Int,x= .int i/\y= .int j/\Q (.bl (decide (i<=j))) H)\/∃i j:Str,x= .str i/\y= .str j/\Q (.bl (!decide (j.cps.toList<i.cps.toList))) H):=by
 intro pins s σ H x y v u Q I rx ry h;rcases h with⟨i,j,rfl,rfl,q⟩ |⟨i,j,rfl,rfl,q⟩
 ·exact bTi pins s σ H _ _ v u Q I rx ry ⟨i,j,rfl,rfl,q⟩
 ·exact bCg pins s σ H _ _ v u Q I rx ry ⟨i,j,rfl,rfl,q⟩
theorem bPi (ha:PD X B a fa)(hb:PD X B b fb):PD X B (.Compare a [.LtE] [b] pos) (b2 bSc fa fb):=
 aNl bPr (by
  intro H x y dx dy d Q ix iy e q;unfold bSc at e;split at e
  ·cases ix;cases iy;cases e
   exact .inl ⟨_,_,rfl,rfl,q _ H (Same.refl H) (.bl _)⟩
  ·cases ix;cases iy;cases e
   exact .inr ⟨_,_,rfl,rfl,q _ H (Same.refl H) (.bl _)⟩
  ·cases e) (by intro x y c h;unfold bSc at h;split at h<;>cases h) ha hb (aHb _)
end
def OkF (n:Nat)(N:List Str)(den:Rho->Option Out)(F:List D->M D):Prop:=(∀ds r,F ds=some r->ds.length=n)/\∀ds r,F ds=some r->∃d,r= .ok d/\aBd (den (aC0 N ds))=ok d
def OkI (n:Nat)(C:Addr)(N:List Str)(den:Rho->Option Out)(F:List D->M (List (Str×D))):Prop:=(∀ds r,F ds=some r->ds.length+1=n)/\∀ds r a dx,F ds=some r->∃fs,r= .ok fs/\aDm a C dx (den (aP0 N a C dx ds))=ok fs
theorem aEb {n:Nat}{N:List Str}{den:Rho->Option Out}:OkF n N den (aIj n fun ds=>aBd (den (aC0 N ds))):=⟨bFl,bN3⟩
abbrev nI (xs:List Nat):List D:=xs.map fun (x:Nat)=>D.int (x:Int)
abbrev aDj (x:Nat):Nat:=Z4 (x:Int)
theorem bEt:aDj 0=0:=rfl
theorem aJu {x:Nat}(h:x≠0):aDj x=x.log2+1:=by
 show Z4 (x:Int)=_;unfold Z4;rw[if_neg (by simpa using h)];rfl
theorem bEv (a b:Nat):Builtin.bitOr (a:Int) (b:Int)=((a ||| b:Nat):Int):=by
 have ha:¬(0<= -(a:Int)-1):=by omega
 have hb:¬(0<= -(b:Int)-1):=by omega
 have ea:(-(-(a:Int)-1)-1).toNat=a:=by omega
 have eb:(-(-(b:Int)-1)-1).toNat=b:=by omega
 unfold Builtin.bitOr Builtin.bitAnd Builtin.bitNot;rw[decide_eq_false ha,decide_eq_false hb]
 dsimp only
 rw[ea,eb];omega
theorem bAa (a b:Nat):Builtin.bitAnd (a:Int) (b:Int)=((a&&&b:Nat):Int):=by
 have ha:(0:Int)<=(a:Int):=by omega
 have hb:(0:Int)<=(b:Int):=by omega
 unfold Builtin.bitAnd;rw[decide_eq_true ha,decide_eq_true hb];rfl
theorem aWr {a b:Nat}:a&&&b=a↔∀i,a.testBit i=true->b.testBit i=true:=by
 constructor
 ·intro h i hi
  have:=congrArg (fun z=>Nat.testBit z i) h;simp only[Nat.testBit_and] at this;rw[hi] at this
  simpa using this
 ·intro h
  refine Eu fun i=> ?_
  rw[Nat.testBit_and];cases e:a.testBit i with
  | false=>rfl
  | true=>rw[h i e];rfl
theorem sub_le {a b:Nat}(h:a&&&b=a):a<=b:=by rw[<-h];exact Nat.and_le_right
abbrev Kept:=List (Nat×List Nat)
def keD (kp:Kept):List (Key×D):=kp.map fun p=>(Zl (p.1:Int),D.lst (nI p.2))
def flat (kp:Kept):List Nat:=kp.flatMap (·.2)
structure bIf (kp:Kept):Prop where
 nd:(kp.map (·.1)).Nodup
 ne: ∀p∈kp,p.2≠[]
 bl: ∀p∈kp,∀x∈p.2,aDj x=p.1
def bFd (kp:Kept)(n:Nat):List Nat:=((kp.find? fun p=>decide (p.1=n)).map (·.2)).getD []
theorem aKw (a b:Nat):decide ((Zl (a:Int):Key)=Zl (b:Int))=decide (a=b):=by
 apply decide_eq_decide.mpr
 constructor
 ·intro h
  have:=Sum.inl.inj h;omega
 ·intro h;rw[h]
theorem aUo (kp:Kept)(n:Nat):aHf (keD kp) (Zl (n:Int))=(kp.find? fun p=>decide (p.1=n)).map fun p=>D.lst (nI p.2):=by
 unfold aHf keD;rw[List.find?_map];have:((fun kv:Key×D=>decide (kv.1=Zl (n:Int)))∘fun p:Nat×List Nat=>(Zl (p.1:Int),D.lst (nI p.2)))=fun p=>decide (p.1=n):=by
  funext p
  exact aKw p.1 n
 rw[this,Option.map_map];rfl
theorem bDz {kp:Kept}(nd:(kp.map (·.1)).Nodup){p:Nat×List Nat}(hp:p∈kp):(kp.find? fun q=>decide (q.1=p.1))=some p:=by
 induction kp with
 | nil=>cases hp
 | cons q kp ih=>
  rw[Qv,Wq] at nd;rw[Zu];rcases List.mem_cons.mp hp with e | hp'
  ·rw[<-e,decide_eq_true rfl]
  ·have:q.1≠p.1:=fun e=>nd.1 (by rw[e];exact List.mem_map.mpr ⟨p,hp',rfl⟩)
   rw[decide_eq_false this];exact ih nd.2 hp'
theorem aMy {kp:Kept}{y:Nat}:y∈flat kp↔∃p∈kp,y∈p.2:=List.mem_flatMap
theorem get_mem {kp:Kept}{n y:Nat}(h:y∈bFd kp n):y∈flat kp/\∃p∈kp,p.1=n/\y∈p.2:=by
 unfold bFd at h;cases e:(kp.find? fun p=>decide (p.1=n)) with
 | none=>rw[e] at h;simp at h
 | some p=>
  rw[e] at h;have h':y∈p.2:=by simpa using h
  have h1:=U9 e;have h2:=Vm e;exact⟨aMy.mpr ⟨p,h1,h'⟩,p,h1,by simpa using h2,h'⟩
theorem bMc {kp:Kept}(hk:bIf kp){y:Nat}(h:y∈flat kp):y∈bFd kp (aDj y):=by
 obtain⟨p,hp,hy⟩:=aMy.mp h;unfold bFd;rw[hk.bl p hp y hy,bDz hk.nd hp];exact hy
def inB:Rho->Option Out:=(aAn (sIf (aA9 (b2 gEq (b2 aV3 (look 4) (look 1)) (look 4))) (aAn (aC4 (con (.bl true)))
  aAz) aAz)
  aAz)
def whB:Rho->Option Out:=(aAn (aC7 3 (f1 aT8 (look 2)))
  (aAn (aL4 (getL (look 0) (look 3)) (gN 4) inB)
  (aAn (aC7 2 (b2 aM2 (look 2) (b2 bDx (con (.int 1)) (b2 aM2 (look 3) (con (.int 1))))))
  aAz)))
def bJv:Rho->Option Out:=
  (aAn (sIf (aA9 (b2 (bFe false) (con (.int 0)) (look 0))) (aAn (aC4 (con (.bl true)))
  aAz) aAz)
  (aAn (aC7 2 (look 1))
  (aAn (aPy (aA9 (b2 gGt (look 2) (con (.int 0)))) whB)
  (aAn (aC4 (con (.bl false)))
  aAz))))
theorem bMu {one:Nat}{s0 s2 s3:Option SV}: ∀(xs:List Nat) (s4:Option SV),
  (xs.any (fun y=>decide (y&&&one=y))=true->loop (gN 4) inB (nI xs) [s0,some (.sh (.int (one:Int))),s2,s3,s4]=some (.rt (.bl true)))/\
  (xs.any (fun y=>decide (y&&&one=y))=false->∃s4',loop (gN 4) inB (nI xs) [s0,some (.sh (.int (one:Int))),s2,s3,s4]=some (.nx [s0,some (.sh (.int (one:Int))),s2,s3,s4'])):=by
 intro xs
 induction xs with
 | nil=>intro s4;exact⟨fun h=>by simp at h,fun _=>⟨s4,rfl⟩⟩
 | cons y xs ih=>
  intro s4;have ht:aA9 (b2 gEq (b2 aV3 (look 4) (look 1)) (look 4)) [s0,some (.sh (.int (one:Int))),s2,s3,some (.sh (.int (y:Int)))]=ok (decide (y&&&one=y)):=by
   have e:b2 gEq (b2 aV3 (look 4) (look 1)) (look 4) [s0,some (.sh (.int (one:Int))),s2,s3,some (.sh (.int (y:Int)))]=ok (.bl (decide (Builtin.bitAnd (y:Int) (one:Int)=(y:Int)))):=rfl;rw[bAa] at e;have e2:decide (((y&&&one:Nat):Int)=(y:Int))=decide (y&&&one=y):=decide_eq_decide.mpr (by omega);rw[e2] at e;unfold aA9;rw[e];rfl
  have hg:gN 4 (.int (y:Int)) [s0,some (.sh (.int (one:Int))),s2,s3,s4]=some [s0,some (.sh (.int (one:Int))),s2,s3,some (.sh (.int (y:Int)))]:=rfl;cases hy:decide (y&&&one=y) with
  | true=>
   rw[hy] at ht;refine⟨fun _=> ?_,fun h=>by rw[Jm,hy] at h;cases h⟩;have hb:inB [s0,some (.sh (.int (one:Int))),s2,s3,some (.sh (.int (y:Int)))]=some (.rt (.bl true)):=by
    unfold inB;unfold aAn;rw[aS1 ht];rfl
   show loop (gN 4) inB (D.int (y:Int)::nI xs) _=_;unfold loop;rw[hg]
   dsimp only
   rw[hb]
  | false=>
   rw[hy] at ht;have hb:inB [s0,some (.sh (.int (one:Int))),s2,s3,some (.sh (.int (y:Int)))]=some (.nx [s0,some (.sh (.int (one:Int))),s2,s3,some (.sh (.int (y:Int)))]):=by
    unfold inB;rw[aAe (aHl ht)];rfl
   rw[Jm,hy,Bool.false_or];have e:=aD7 (ds:=nI xs) hg hb;have:=ih (some (.sh (.int (y:Int))));rw[<-e] at this;exact this
theorem bUr {kp:Kept}(hk:bIf kp)(one rest:Nat)(hr:rest≠0):
  ((bFd kp (aDj rest)).any (fun y=>decide (y&&&one=y))=true->(flat kp).any (fun y=>decide (y≠0/\y&&&one=y/\rest.testBit (aDj y-1)=true))=true)/\
  ((bFd kp (aDj rest)).any (fun y=>decide (y&&&one=y))=false->(flat kp).any (fun y=>decide (y≠0/\y&&&one=y/\rest.testBit (aDj y-1)=true))=(flat kp).any (fun y=>decide (y≠0/\y&&&one=y/\(rest-2^(aDj rest-1)).testBit (aDj y-1)=true))):=by
 have hb:=aJu hr;have hle:=Nat.log2_self_le hr;have hlt:=Nat.lt_log2_self (n:=rest);have hr':rest-2^rest.log2<2^rest.log2:=by rw[Ej] at hlt;omega
 constructor
 ·intro h
  rw[Zp] at h⊢;obtain⟨y,hy,e⟩:=h;obtain⟨h1,p,h2,h3,h4⟩:=get_mem hy;have h5:=hk.bl p h2 y h4;have hy0:y≠0:=fun e=>by rw[e,bEt] at h5;omega
  refine⟨y,h1,?_⟩;rw[decide_eq_true_eq] at e⊢;refine⟨hy0,e,?_⟩;rw[h5,h3,hb,U8];exact Nat.testBit_log2 hr
 ·intro h
  rw[Yd,Zp,Zp];rw[Uk] at h;refine exists_congr fun y=>and_congr_right fun hy=> ?_
  rw[decide_eq_true_eq,decide_eq_true_eq];refine and_congr_right fun h0=>and_congr_right fun h1=> ?_
  rw[hb,U8];have hne:aDj y-1≠rest.log2:=by
   intro e;have hy':=bMc hk hy;have:aDj y=aDj rest:=by rw[aJu h0] at e⊢;rw[hb];omega
   rw[this] at hy';exact h y hy' (by simpa using h1)
  have key:rest.testBit (aDj y-1)=(2^rest.log2+(rest-2^rest.log2)).testBit (aDj y-1):=by
   congr 1;omega
  rw[key];rcases Nat.lt_or_gt_of_ne hne with g | g
  ·rw[Nat.testBit_two_pow_add_gt g]
  ·rw[Ei (i:=aDj y-1) (Q3 (show 2^rest.log2+(rest-2^rest.log2)<2^(rest.log2+1) by rw[Ej];omega) (Jr (by decide) (by omega)))]
   rw[Ei (i:=aDj y-1) (Q3 hr' (Jr (by decide) (by omega)))]
theorem bHj {kp:Kept}(hk:bIf kp)(one:Nat): ∀(n rest fuel:Nat) (s3 s4:Option SV),rest<2^n->n<=1000->n<fuel->
  ((flat kp).any (fun y=>decide (y≠0/\y&&&one=y/\rest.testBit (aDj y-1)=true))=true->sWh (aA9 (b2 gGt (look 2) (con (.int 0)))) whB fuel [some (.sh (.dk (keD kp))),some (.sh (.int (one:Int))),some (.sh (.int (rest:Int))),s3,s4]=some (.rt (.bl true)))/\
  ((flat kp).any (fun y=>decide (y≠0/\y&&&one=y/\rest.testBit (aDj y-1)=true))=false->∃ρ',sWh (aA9 (b2 gGt (look 2) (con (.int 0)))) whB fuel [some (.sh (.dk (keD kp))),some (.sh (.int (one:Int))),some (.sh (.int (rest:Int))),s3,s4]=some (.nx ρ')):=by
 intro n
 induction n with
 | zero=>
  intro rest fuel s3 s4 hr _ hf;have h0:rest=0:=by simpa using hr
  subst h0;obtain⟨f,rfl⟩: ∃f,fuel=f+1:=⟨fuel-1,by omega⟩;refine⟨fun h=> ?_,fun _=>⟨_,aW0 rfl f⟩⟩
  exfalso
  rw[Zp] at h;obtain⟨y,_,e⟩:=h;simp at e
 | succ n ih=>
  intro rest fuel s3 s4 hr hn hf;obtain⟨f,rfl⟩: ∃f,fuel=f+1:=⟨fuel-1,by omega⟩;by_cases h0:rest=0
  ·subst h0
   refine⟨fun h=> ?_,fun _=>⟨_,aW0 rfl f⟩⟩
   exfalso
   rw[Zp] at h;obtain⟨y,_,e⟩:=h;simp at e
  have hb:=aJu h0;have hle:=Nat.log2_self_le h0;have hlt:=Nat.lt_log2_self (n:=rest);have bXy:rest.log2<n+1:=(Nat.log2_lt h0).mpr hr;have hr':rest-2^rest.log2<2^n:=Q3 (show rest-2^rest.log2<2^rest.log2 by rw[Ej] at hlt;omega) (Jr (by decide) (by omega));have ht:aA9 (b2 gGt (look 2) (con (.int 0))) [some (.sh (.dk (keD kp))),some (.sh (.int (one:Int))),some (.sh (.int (rest:Int))),s3,s4]=ok true:=by
   have e:b2 gGt (look 2) (con (.int 0)) [some (.sh (.dk (keD kp))),some (.sh (.int (one:Int))),some (.sh (.int (rest:Int))),s3,s4]=ok (.bl (decide ((0:Int)<(rest:Int)))):=rfl;unfold aA9;rw[e,decide_eq_true (by omega)];rfl
  have e1:aC7 3 (f1 aT8 (look 2)) [some (.sh (.dk (keD kp))),some (.sh (.int (one:Int))),some (.sh (.int (rest:Int))),s3,s4]=some (.nx [some (.sh (.dk (keD kp))),some (.sh (.int (one:Int))),some (.sh (.int (rest:Int))),some (.sh (.int (aDj rest:Int))),s4]):=rfl;have e2:getL (look 0) (look 3) [some (.sh (.dk (keD kp))),some (.sh (.int (one:Int))),some (.sh (.int (rest:Int))),some (.sh (.int (aDj rest:Int))),s4]=ok (.lst (nI (bFd kp (aDj rest)))):=by
   show (match aHf (keD kp) (Zl (aDj rest:Int)) with | some v=>ok v | none=>ok (D.lst []))=_;rw[aUo];unfold bFd;cases (kp.find? fun p=>decide (p.1=aDj rest))<;>rfl
  have lp:=bMu (one:=one) (s0:=some (.sh (.dk (keD kp)))) (s2:=some (.sh (.int (rest:Int)))) (s3:=some (.sh (.int (aDj rest:Int)))) (bFd kp (aDj rest));have ac:=bUr hk one rest h0;unfold sWh;rw[ht];simp only[aLt,if_true];cases hc:(bFd kp (aDj rest)).any (fun y=>decide (y&&&one=y)) with
  | true=>
   have e3:aL4 (getL (look 0) (look 3)) (gN 4) inB [some (.sh (.dk (keD kp))),some (.sh (.int (one:Int))),some (.sh (.int (rest:Int))),some (.sh (.int (aDj rest:Int))),s4]=some (.rt (.bl true)):=by
    unfold aL4;rw[e2];cases s4<;>exact (lp _).1 hc
   have ew:whB [some (.sh (.dk (keD kp))),some (.sh (.int (one:Int))),some (.sh (.int (rest:Int))),s3,s4]=some (.rt (.bl true)):=by
    unfold whB;rw[aAe e1,aBa e3]
   rw[ew];exact⟨fun _=>rfl,fun h=>by rw[ac.1 hc] at h;cases h⟩
  | false=>
   obtain⟨s4',e3⟩: ∃s4',aL4 (getL (look 0) (look 3)) (gN 4) inB [some (.sh (.dk (keD kp))),some (.sh (.int (one:Int))),some (.sh (.int (rest:Int))),some (.sh (.int (aDj rest:Int))),s4]=some (.nx [some (.sh (.dk (keD kp))),some (.sh (.int (one:Int))),some (.sh (.int (rest:Int))),some (.sh (.int (aDj rest:Int))),s4']):=by
    unfold aL4;rw[e2];cases s4<;>exact (lp _).2 hc
   have e4:b2 aM2 (look 2) (b2 bDx (con (.int 1)) (b2 aM2 (look 3) (con (.int 1)))) [some (.sh (.dk (keD kp))),some (.sh (.int (one:Int))),some (.sh (.int (rest:Int))),some (.sh (.int (aDj rest:Int))),s4']=ok (.int ((rest-2^rest.log2:Nat):Int)):=by
    have g1:b2 aM2 (look 3) (con (.int 1)) [some (.sh (.dk (keD kp))),some (.sh (.int (one:Int))),some (.sh (.int (rest:Int))),some (.sh (.int (aDj rest:Int))),s4']=ok (.int (rest.log2:Int)):=by
     have:(aDj rest:Int)-1=(rest.log2:Int):=by rw[hb];omega
     rw[<-this];rfl
    have g2:b2 bDx (con (.int 1)) (b2 aM2 (look 3) (con (.int 1))) [some (.sh (.dk (keD kp))),some (.sh (.int (one:Int))),some (.sh (.int (rest:Int))),some (.sh (.int (aDj rest:Int))),s4']=ok (.int ((2^rest.log2:Nat):Int)):=by
     refine aB2 (x:= .int 1) rfl g1 ?_;show (if 0<=(rest.log2:Int)/\(rest.log2:Int)<=1000000/\(1:Int).natAbs<2^64 then ok (D.int (1*2^(rest.log2:Int).toNat)) else none)=_;rw[if_pos ⟨by omega,by omega,by decide⟩,Int.one_mul,Zc]
     congr 2
    refine aB2 (x:= .int (rest:Int)) rfl g2 ?_;show ok (D.int ((rest:Int)-((2^rest.log2:Nat):Int)))=_
    congr 2
    omega
   have e5:=aA5 (i:=2) e4 rfl;have ew:whB [some (.sh (.dk (keD kp))),some (.sh (.int (one:Int))),some (.sh (.int (rest:Int))),s3,s4]=some (.nx [some (.sh (.dk (keD kp))),some (.sh (.int (one:Int))),some (.sh (.int ((rest-2^rest.log2:Nat):Int))),some (.sh (.int (aDj rest:Int))),s4']):=by
    unfold whB;rw[aAe e1,aAe e3,aAe e5];rfl
   rw[ew];have q:=ih (rest-2^rest.log2) f (some (.sh (.int (aDj rest:Int)))) s4' hr' (by omega) (by omega);have he:aDj rest-1=rest.log2:=by rw[hb,U8]
   rw[ac.2 hc,he];exact q
def bDm (kp:Kept)(one:Nat):Bool:=(flat kp).any fun y=>decide (y&&&one=y)
theorem bQ3 {kp:Kept}(hk:bIf kp){one:Nat}(ho:one<2^1000):aBd (bJv [some (.sh (.dk (keD kp))),some (.sh (.int (one:Int))),none,none,none])=ok (.bl (bDm kp one)):=by
 have g:b2 (bFe false) (con (.int 0)) (look 0) [some (.sh (.dk (keD kp))),some (.sh (.int (one:Int))),none,none,none]=ok (.bl (kp.find? fun p=>decide (p.1=0)).isSome):=by
  show ok (D.bl (aHf (keD kp) (Zl ((0:Nat):Int))).isSome)=_;rw[aUo,W4]
 unfold bJv;cases hz:(kp.find? fun p=>decide (p.1=0)).isSome with
 | true=>
  rw[hz] at g;have ht:aA9 (b2 (bFe false) (con (.int 0)) (look 0)) [some (.sh (.dk (keD kp))),some (.sh (.int (one:Int))),none,none,none]=ok true:=by unfold aA9;rw[g];rfl
  obtain⟨p,hp⟩:=Option.isSome_iff_exists.mp hz;have h1:=U9 hp;have h2:p.1=0:=by simpa using Vm hp
  have:bDm kp one=true:=by
   unfold bDm;rw[Zp];obtain⟨x,hx⟩:=List.exists_mem_of_ne_nil _ (hk.ne p h1);have h3:=hk.bl p h1 x hx;have hx0:x=0:=Vh fun q=>by rw[aJu q] at h3;omega
   subst hx0;exact⟨0,aMy.mpr ⟨p,h1,hx⟩,by simp⟩
  rw[this];unfold aAn;rw[aS1 ht];rfl
 | false=>
  rw[hz] at g;have ht:aA9 (b2 (bFe false) (con (.int 0)) (look 0)) [some (.sh (.dk (keD kp))),some (.sh (.int (one:Int))),none,none,none]=ok false:=by unfold aA9;rw[g];rfl
  rw[aAe (aHl ht)];show aBd (aAn _ _ [some (.sh (.dk (keD kp))),some (.sh (.int (one:Int))),none,none,none])=_;rw[aAe (aA5 (f:=look 1) (d:= .int (one:Int)) rfl rfl)];have ec:(flat kp).any (fun y=>decide (y≠0/\y&&&one=y/\one.testBit (aDj y-1)=true))=bDm kp one:=by
   unfold bDm;rw[Yd,Zp,Zp];refine exists_congr fun y=>and_congr_right fun hy=> ?_
   rw[decide_eq_true_eq,decide_eq_true_eq];refine⟨fun h=>h.2.1,fun h=> ?_⟩;have h0:y≠0:=by
    rintro rfl
    obtain⟨q,h1,h2⟩:=aMy.mp hy;have h3:=hk.bl q h1 0 h2;rw[Option.isSome_eq_false_iff,Option.isNone_iff_eq_none,U6] at hz;exact hz q h1 (by rw[decide_eq_true_eq,<-h3];rfl)
   refine⟨h0,h,?_⟩;rw[aJu h0,U8];exact aWr.mp h _ (Nat.testBit_log2 h0)
  have lp:=bHj hk one 1000 one 100000 none none ho (Qo _) (by decide);rw[ec] at lp;show aBd (aAn (aPy (aA9 (b2 gGt (look 2) (con (.int 0)))) whB) _ [some (.sh (.dk (keD kp))),some (.sh (.int (one:Int))),some (.sh (.int (one:Int))),none,none])=_;cases hh:bDm kp one with
  | true=>
   rw[aBa ((show aPy _ _ _=_ from lp.1 hh))];rfl
  | false=>
   obtain⟨ρ',e⟩:=lp.2 hh;rw[aAe ((show aPy _ _ _=_ from e))];rfl
structure aSc (ns L:List Nat):Prop where
 nd:L.Nodup
 sub: ∀y∈L,y∈ns
 cov: ∀x∈ns,∃y∈L,y&&&x=y
 anti: ∀y∈L,∀y'∈L,y&&&y'=y->y=y'
theorem aSc.perm {ns ns' L L':List Nat}(h:aSc ns L)(hn: ∀x,x∈ns'↔x∈ns)(hl:L'.Perm L):aSc ns' L' where
 nd:=hl.nodup_iff.mpr h.nd
 sub:=fun y hy=>(hn y).mpr (h.sub y (hl.mem_iff.mp hy))
 cov:=fun x hx=>by
  obtain⟨y,h1,h2⟩:=h.cov x ((hn x).mp hx);exact⟨y,hl.mem_iff.mpr h1,h2⟩
 anti:=fun y hy y' hy'=>h.anti y (hl.mem_iff.mp hy) y' (hl.mem_iff.mp hy')
def keS (kp:Kept):SV:= .nl (.k (kp.map fun (p:Nat×List Nat)=>Zl (p.1:Int))) (kp.map fun (p:Nat×List Nat)=>nI p.2)
theorem bMk (kp:Kept):(keS kp).cur= .dk (keD kp):=by
 show D.dk ((kp.map fun (p:Nat×List Nat)=>(Zl (p.1:Int):Key)).zip ((kp.map fun (p:Nat×List Nat)=>nI p.2).map D.lst))=_;rw[Zr,V5];rfl
theorem bF3 {i j:Nat}{fk:Rho->M D}{ga:Rho->M (List D)}{ρ:Rho}{ks:List Key}{ls:List (List D)}{kd d:D}{key:Key}{ds:List D}(h1:ρ[i]? =some (some (.nl (.k ks) ls)))(h2:fk ρ=ok kd)(h3:keyOf kd=some key)(h4:ls.length<100000)
  (h5:(ks.findIdx? fun k=>decide (k=key))=some j) (h6:ga ρ=ok [d]) (h7:ls[j]? =some ds) (h8:d.imm=true) (h9:ds.length<100000):bFb i fk ga ρ=some (.nx (ρ.set i (some (.nl (.k ks) (ls.set j (ds++ [d])))))):=by
 unfold bFb;simp only[h1,h2,aLt,h3,if_pos h4,h5,h6,h7,h8,h9,and_self,if_true]
theorem bF4 {i:Nat}{fk:Rho->M D}{ga:Rho->M (List D)}{ρ:Rho}{ks:List Key}{ls:List (List D)}{kd d:D}{key:Key}(h1:ρ[i]? =some (some (.nl (.k ks) ls)))(h2:fk ρ=ok kd)(h3:keyOf kd=some key)(h4:ls.length<100000)
  (h5:(ks.findIdx? fun k=>decide (k=key))=none) (h6:ga (ρ.set i (some (.nl (.k (ks++ [key])) (ls++ [[]]))))=ok [d]) (h8:d.imm=true):bFb i fk ga ρ=some (.nx (ρ.set i (some (.nl (.k (ks++ [key])) ((ls++ [[]]).set ls.length ([]++ [d])))))):=by
 unfold bFb;simp only[h1,h2,aLt,h3,if_pos h4,h5,h6,h8,if_true]
theorem bC4 {kp:Kept}(hk:bIf kp)(one:Nat){s0 s2 s3 s4:Option SV}(hs2:s2=some (.sh (.int (one:Int))))(hn:kp.length<100000)(hm:(flat kp).length<100000): ∃kp',bIf kp'/\(flat kp').Perm (one::flat kp)/\kp'.length<=kp.length+1/\
  bFb 1 (f1 aT8 (look 2)) (aAa (look 2) aAg) [s0,some (keS kp),s2,s3,s4]=some (.nx [s0,some (keS kp'),s2,s3,s4]):=by
 subst hs2;cases hf:(kp.map fun (p:Nat×List Nat)=>(Zl (p.1:Int):Key)).findIdx? fun k=>decide (k=Zl (aDj one:Int)) with
 | some j=>
  obtain⟨hj,h1,_⟩:=List.findIdx?_eq_some_iff_getElem.mp hf;have hj':j<kp.length:=by rw[Qh] at hj;exact hj
  rw[Vg,aKw,decide_eq_true_eq] at h1;have hg:(kp.map fun (p:Nat×List Nat)=>nI p.2)[j]? =some (nI (kp[j]'hj').2):=by rw[Q7,Qj hj'];rfl
  have hp:kp[j]'hj'∈kp:=Y7 _;have hlen:(kp[j]'hj').2.length<=(flat kp).length:=by
   have: ∀(l:Kept) (p:Nat×List Nat),p∈l->p.2.length<=(flat l).length:=by
    intro l
    induction l with
    | nil=>intro p h;cases h
    | cons q l ih=>
     intro p h;have:flat (q::l)=q.2++flat l:=rfl;rw[this,Qq];rcases List.mem_cons.mp h with rfl | h
     ·omega
     ·have:=ih p h;omega
   exact this kp _ hp
  have split:kp=kp.take j++kp[j]'hj'::kp.drop (j+1):=by rw[Wo,Ws]
  refine⟨kp.set j (aDj one,(kp[j]'hj').2++ [one]),?_,?_,by rw[Q9];omega,?_⟩
  ·refine⟨?_,fun p hp=> ?_,fun p hp x hx=> ?_⟩
   ·have:(kp.set j (aDj one,(kp[j]'hj').2++ [one])).map (·.1)=kp.map (·.1):=by
     rw[Ed];show (kp.map (·.1)).set j (aDj one)=_;rw[<-h1];have:(kp[j]'hj').1=(kp.map (·.1))[j]'(by rw[Qh];exact hj'):=by rw[Vg]
     rw[this,Ek]
    rw[this];exact hk.nd
   ·rcases V1 hp with h | h
    ·exact hk.ne p h
    ·rw[h];simp
   ·rcases V1 hp with h | h
    ·exact hk.bl p h x hx
    ·rw[h] at hx⊢
     rcases List.mem_append.mp hx with hx | hx
     ·show aDj x=aDj one
      rw[hk.bl _ (Y7 hj') x hx,h1]
     ·rw[List.mem_singleton.mp hx]
  ·rw[List.set_eq_take_append_cons_drop,if_pos hj']
   conv=>rhs;rw[split]
   unfold flat;rw[Ui,Ui,Wh,Wh]
   dsimp only
   generalize (kp.take j).flatMap (·.2)=A;generalize (kp[j]'hj').2=B;generalize (kp.drop (j+1)).flatMap (·.2)=C;refine (List.Perm.trans ?_ Ve);refine List.Perm.append_left _ ?_;rw[Z1];exact Ve
  ·refine (bF3 (i:=1) (key:=Zl (aDj one:Int)) rfl (kd:= .int (aDj one:Int)) rfl rfl (by rw[Qh];exact hn) hf (d:= .int (one:Int)) rfl hg rfl (by rw[Qh];omega)).trans ?_
   have eA:((kp.set j (aDj one,(kp[j]'hj').2++ [one])).map fun (p:Nat×List Nat)=>(Zl (p.1:Int):Key))=kp.map fun (p:Nat×List Nat)=>(Zl (p.1:Int):Key):=by
    rw[Ed];show (kp.map fun (p:Nat×List Nat)=>(Zl (p.1:Int):Key)).set j (Zl (aDj one:Int))=_;have:(Zl (aDj one:Int):Key)=(kp.map fun (p:Nat×List Nat)=>(Zl (p.1:Int):Key))[j]'(by rw[Qh];exact hj'):=by rw[Vg,h1]
    rw[this,Ek]
   have eB:((kp.set j (aDj one,(kp[j]'hj').2++ [one])).map fun (p:Nat×List Nat)=>nI p.2)=(kp.map fun (p:Nat×List Nat)=>nI p.2).set j (nI (kp[j]'hj').2++ [D.int (one:Int)]):=by
    rw[Ed]
    congr 1
    show Wl _ _=_;rw[Zd];rfl
   unfold keS;rw[eA,eB];rfl
 | none=>
  have hno: ∀p∈kp,p.1≠aDj one:=fun p hp e=>by
   have:=List.findIdx?_eq_none_iff.mp hf (Zl (p.1:Int)) (List.mem_map.mpr ⟨p,hp,rfl⟩);rw[aKw,e] at this;simp at this
  refine⟨kp++ [(aDj one,[one])],⟨?_,fun p hp=> ?_,fun p hp x hx=> ?_⟩,?_,by simp,?_⟩
  ·rw[Zd]
   refine List.nodup_append.mpr ⟨hk.nd,by simp,fun a ha b hb=> ?_⟩;obtain⟨p,hp,rfl⟩:=List.mem_map.mp ha;simp at hb;subst hb;exact hno p hp
  ·rcases List.mem_append.mp hp with h | h
   ·exact hk.ne p h
   ·rw[List.mem_singleton.mp h];simp
  ·rcases List.mem_append.mp hp with h | h
   ·exact hk.bl p h x hx
   ·rw[List.mem_singleton.mp h] at hx⊢
    rw[List.mem_singleton.mp hx]
  ·unfold flat
   rw[Ui];exact List.perm_append_comm
  ·refine (bF4 (i:=1) (key:=Zl (aDj one:Int)) rfl (kd:= .int (aDj one:Int)) rfl rfl (by rw[Qh];exact hn) hf (d:= .int (one:Int)) rfl rfl).trans ?_
   have eA:((kp++ [(aDj one,[one])]).map fun (p:Nat×List Nat)=>(Zl (p.1:Int):Key))=(kp.map fun (p:Nat×List Nat)=>(Zl (p.1:Int):Key))++ [Zl (aDj one:Int)]:=by
    rw[Zd];rfl
   have eB:((kp++ [(aDj one,[one])]).map fun (p:Nat×List Nat)=>nI p.2)=((kp.map fun (p:Nat×List Nat)=>nI p.2)++ [[]]).set (kp.map fun (p:Nat×List Nat)=>nI p.2).length ([]++ [D.int (one:Int)]):=by
    rw[Zd,List.set_append_right _ _ (Qo _),Nat.sub_self];rfl
   unfold keS;rw[eA,eB];rfl
def lbB (F:List D->M D):Rho->Option Out:=(aAn (sIf (aKi (test (app F (aAa (look 1) (aAa (look 2) aAg))))) (aAn (bFb 1 (f1 aT8 (look 2)) (aAa (look 2) aAg))
  aAz) aAz)
  aAz)
def ltB:Rho->Option Out:=(aAn (aYz 3 (aAa (b2 aV2 (look 1) (look 4)) aAg))
  aAz)
def bRr (F:List D->M D):Rho->Option Out:=
  (aAn (bBj 1)
  (aAn (aS2 (look 0) (gN 2) (lbB F))
  (aAn (sNew 3 aAg)
  (aAn (aYy 1 (gN 4) ltB)
  (aAn (aC4 (look 3))
  aAz)))))
theorem bHr {kp:Kept}(hk:bIf kp):kp.length<=(flat kp).length:=by
 have: ∀(l:Kept),(∀p∈l,p.2≠[])->l.length<=(flat l).length:=by
  intro l
  induction l with
  | nil=>intro _;exact Zy _
  | cons q l ih=>
   intro h;have e:flat (q::l)=q.2++flat l:=rfl;have h1:=ih fun p hp=>h p (Qr _ hp)
   have h2:0<q.2.length:=List.length_pos_iff.mpr (h q Qm);rw[e,Qq,Qk];omega
 exact this kp hk.ne
theorem bTt {F:List D->M D}(hF: ∀(kp:Kept) (one:Nat),bIf kp->one<2^1000->F [.dk (keD kp),.int (one:Int)]=ok (.bl (bDm kp one))){ns:List Nat}(hl:ns.length<64)(hb: ∀x∈ns,x<2^1000):
  ∃L,aSc ns L/\aBd (bRr F [some (.sh (.lst (nI ns))),none,none,none,none])=ok (.lst (nI L)):=by
 obtain⟨ss,hss,hsp⟩: ∃ss:List Nat,bAm (ns.map fun (x:Nat)=>(x:Int))=ss.map (fun (x:Nat)=>(x:Int))/\ss.Perm ns:=by
  have hp:=aNa (ns.map fun (x:Nat)=>(x:Int));refine⟨(bAm (ns.map fun (x:Nat)=>(x:Int))).map Int.toNat,?_,?_⟩
  ·rw[Zr]
   conv=>lhs;rw[<-Er (bAm (ns.map fun (x:Nat)=>(x:Int)))]
   refine Jt fun x hx=> ?_
   obtain⟨y,_,rfl⟩:=List.mem_map.mp (hp.mem_iff.mp hx);simp
  ·have:=hp.map Int.toNat
   rw[Zr] at this;have e:(Int.toNat∘fun (x:Nat)=>(x:Int))=id:=by funext x;simp
   rw[e,Er] at this;exact this
 have hso:ss.Pairwise (· <= ·):=by
  have h:=aSn (ns.map fun (x:Nat)=>(x:Int));rw[hss,Jq] at h;exact h.imp fun h=>by omega
 have hsl:ss.length=ns.length:=hsp.length_eq;have lp:=aN8 (G:=gN 2) (F:=lbB F) (fun pr ρ=> ∃(P:List Nat) (kp:Kept) (o:Option SV),pr=nI P/\bIf kp/\aSc P (flat kp)/\ρ=[some (.sh (.lst (nI ns))),some (keS kp),o,none,none]) (nI ss) [some (.sh (.lst (nI ns))),some (keS []),none,none,none]
  ⟨[],[],none,rfl,⟨by simp,by simp,by simp⟩,⟨by simp[flat],by simp[flat],by simp,by simp[flat]⟩,rfl⟩ (by
   rintro p d q ρ e ⟨P,kp,o,rfl,hk,hL,rfl⟩
   have ess: ∃(x:Nat) (Q:List Nat),ss=P++x::Q/\d= .int (x:Int):=by
    obtain⟨A,B,h1,h2,h3⟩:=List.map_eq_append_iff.mp e;have hA:A=P:=by
     have: ∀(u v:List Nat),nI u=nI v->u=v:=fun u v h=>(E3 (f:=fun (x:Nat)=>D.int (x:Int)) (fun a b hab=>by injection hab with z;omega)).mp h
     exact this _ _ h2
    subst hA;obtain⟨x,Q,rfl,h4,_⟩:=List.map_eq_cons_iff.mp h3;exact⟨x,Q,h1,h4.symm⟩
   obtain⟨x,Q,hs,rfl⟩:=ess;have hx:x∈ns:=hsp.mem_iff.mp (by rw[hs];exact Zh _ Qm);have hPl:P.length<1000:=by
    have:=congrArg Uu hs;rw[Qq,Qk] at this;omega
   have hfl:(flat kp).length<=P.length:=aGs hL.nd hL.sub;have hkl:=bHr hk;have hpx: ∀y∈P,y<=x:=fun y hy=>by
    rw[hs] at hso;exact (List.pairwise_append.mp hso).2.2 y hy x Qm
   have ht:test (app F (aAa (look 1) (aAa (look 2) aAg))) [some (.sh (.lst (nI ns))),some (keS kp),some (.sh (.int (x:Int))),none,none]=ok (bDm kp x):=by
    have l1:look 1 [some (.sh (.lst (nI ns))),some (keS kp),some (.sh (.int (x:Int))),none,none]=ok (.dk (keD kp)):=by
     show ok (keS kp).cur=_;rw[bMk]
    have:=(aBo (F:=F) (aAf l1 (aAf (f:=look 2) (d:= .int (x:Int)) rfl aAq))).trans (hF kp x hk (hb x hx));unfold test;rw[this];rfl
   refine⟨[some (.sh (.lst (nI ns))),some (keS kp),some (.sh (.int (x:Int))),none,none],?_⟩;cases hw:bDm kp x with
   | true=>
    refine⟨_,rfl,.inl (?_:_=some (Out.nx [some (.sh (.lst (nI ns))),some (keS kp),some (.sh (.int (x:Int))),none,none])),P++ [x],kp,some (.sh (.int (x:Int))),(by show _=Wl _ _;rw[Zd];rfl),hk,?_,rfl⟩
    ·unfold lbB
     show aAn _ _ [some (.sh (.lst (nI ns))),some (keS kp),some (.sh (.int (x:Int))),none,none]=_;rw[hw] at ht;have hn:aKi (test (app F (aAa (look 1) (aAa (look 2) aAg)))) [some (.sh (.lst (nI ns))),some (keS kp),some (.sh (.int (x:Int))),none,none]=ok false:=by unfold aKi;rw[ht];rfl
     rw[aAe (aHl hn)];rfl
    ·refine⟨hL.nd,fun y hy=>Ja _ (hL.sub y hy),fun z hz=> ?_,hL.anti⟩
     rcases List.mem_append.mp hz with hz | hz
     ·exact hL.cov z hz
     ·rw[List.mem_singleton.mp hz]
      unfold bDm at hw;rw[Zp] at hw;obtain⟨y,h1,h2⟩:=hw;exact⟨y,h1,by simpa using h2⟩
   | false=>
    obtain⟨kp',hk',hpm,bXz,e'⟩:=bC4 hk x (s0:=some (.sh (.lst (nI ns)))) (s3:=none) (s4:=none) rfl (by omega) (by omega);have hno: ∀y∈flat kp,y&&&x≠y:=fun y hy e=>by
     unfold bDm at hw;rw[Uk] at hw;exact hw y hy (by simpa using e)
    refine⟨_,rfl,.inl (?_:_=some (Out.nx [some (.sh (.lst (nI ns))),some (keS kp'),some (.sh (.int (x:Int))),none,none])),P++ [x],kp',some (.sh (.int (x:Int))),(by show _=Wl _ _;rw[Zd];rfl),hk',?_,rfl⟩
    ·unfold lbB
     show aAn _ _ [some (.sh (.lst (nI ns))),some (keS kp),some (.sh (.int (x:Int))),none,none]=_;rw[hw] at ht;have hn:aKi (test (app F (aAa (look 1) (aAa (look 2) aAg)))) [some (.sh (.lst (nI ns))),some (keS kp),some (.sh (.int (x:Int))),none,none]=ok true:=by unfold aKi;rw[ht];rfl
     have:sIf (aKi (test (app F (aAa (look 1) (aAa (look 2) aAg))))) (aAn (bFb 1 (f1 aT8 (look 2)) (aAa (look 2) aAg)) aAz) aAz [some (.sh (.lst (nI ns))),some (keS kp),some (.sh (.int (x:Int))),none,none]=some (.nx [some (.sh (.lst (nI ns))),some (keS kp'),some (.sh (.int (x:Int))),none,none]):=by
      rw[aS1 hn,aAe e'];rfl
     rw[aAe this];rfl
    ·refine aSc.perm (ns:=P++ [x]) (L:=x::flat kp) ⟨?_,?_,?_,?_⟩ (fun _=>Iff.rfl) hpm
     ·refine List.nodup_cons.mpr ⟨fun h=>hno x h (Nat.and_self x),hL.nd⟩
     ·intro y hy
      rcases List.mem_cons.mp hy with rfl | hy
      ·exact Zh _ Qm
      ·exact Ja _ (hL.sub y hy)
     ·intro z hz
      rcases List.mem_append.mp hz with hz | hz
      ·obtain⟨y,h1,h2⟩:=hL.cov z hz
       exact⟨y,Qr _ h1,h2⟩
      ·rw[List.mem_singleton.mp hz]
       exact⟨x,Qm,Nat.and_self x⟩
     ·intro y hy y' hy' h
      rcases List.mem_cons.mp hy with e1 | hy1
      ·rcases List.mem_cons.mp hy' with e2 | hy2
       ·rw[e1,e2]
       ·have h1:=sub_le h
        have h2:=hpx y' (hL.sub y' hy2);omega
      ·rcases List.mem_cons.mp hy' with e2 | hy2
       ·rw[e2] at h;exact absurd h (hno y hy1)
       ·exact hL.anti y hy1 y' hy2 h)
 obtain⟨ρ',lp,P,kp,o,hP,hk,hL,rfl⟩:=lp;have hPs:P=ss:=by
  have: ∀(u v:List Nat),nI u=nI v->u=v:=fun u v h=>(E3 (f:=fun (x:Nat)=>D.int (x:Int)) (fun a b hab=>by injection hab with z;omega)).mp h
  exact (this _ _ hP).symm
 subst hPs;have hfl:(flat kp).length<=P.length:=aGs hL.nd hL.sub;refine⟨flat kp,hL.perm (fun x=>hsp.symm.mem_iff) (List.Perm.refl _),?_⟩;unfold bRr;have s1:bBj 1 [some (.sh (.lst (nI ns))),none,none,none,none]=some (.nx [some (.sh (.lst (nI ns))),some (keS []),none,none,none]):=rfl;have s2:aS2 (look 0) (gN 2) (lbB F) [some (.sh (.lst (nI ns))),some (keS []),none,none,none]=some (.nx [some (.sh (.lst (nI ns))),some (keS kp),o,none,none]):=by
  unfold aS2;show (match aTg (nI ns) with | some xs=>if xs.length<64 then loop (gN 2) (lbB F) ((bAm xs).map .int) [some (.sh (.lst (nI ns))),some (keS []),none,none,none] else none | none=>none)=_;have e:nI ns=(ns.map fun (x:Nat)=>(x:Int)).map D.int:=by rw[Zr];rfl
  rw[show aTg (nI ns)=some (ns.map fun (x:Nat)=>(x:Int)) by rw[e,bGz]]
  dsimp only
  rw[if_pos (by rw[Qh];exact hl),hss,Zr];exact lp
 have s3:sNew 3 aAg [some (.sh (.lst (nI ns))),some (keS kp),o,none,none]=some (.nx [some (.sh (.lst (nI ns))),some (keS kp),o,some (.own []),none]):=rfl;rw[aAe s1,aAe s2,aAe s3];have lp2:=aN8 (G:=gN 4) (F:=ltB) (fun pr ρ=> ∃(K:Kept) (o4:Option SV),(∃K2,kp=K++K2)/\pr=(K.map fun (p:Nat×List Nat)=>D.int (p.1:Int))/\ρ=[some (.sh (.lst (nI ns))),some (.sh (.dk (keD kp))),o,some (.own (nI (flat K))),o4]) (kp.map fun (p:Nat×List Nat)=>D.int (p.1:Int)) [some (.sh (.lst (nI ns))),some (.sh (.dk (keD kp))),o,some (.own []),none]
  ⟨[],none,⟨kp,rfl⟩,rfl,rfl⟩ (by
   rintro p d q ρ e ⟨K,o4,⟨K2,hK⟩,rfl,rfl⟩
   have ek: ∃x K3,K2=x::K3/\d= .int (x.1:Int):=by
    rw[hK,Zd] at e;have e':=Ec e;obtain⟨x,K3,h1,h2,_⟩:=List.map_eq_cons_iff.mp e';exact⟨x,K3,h1,h2.symm⟩
   obtain⟨x,K3,rfl,rfl⟩:=ek;have hx:x∈kp:=by rw[hK];exact Zh _ Qm
   have hfK:(flat K).length+x.2.length<=(flat kp).length:=by
    rw[hK];unfold flat;rw[Ui,Wh,Qq,Qq];omega
   refine⟨[some (.sh (.lst (nI ns))),some (.sh (.dk (keD kp))),o,some (.own (nI (flat K))),some (.sh (.int (x.1:Int)))],[some (.sh (.lst (nI ns))),some (.sh (.dk (keD kp))),o,some (.own (nI (flat (K++ [x])))),some (.sh (.int (x.1:Int)))],rfl,.inl ?_,K++ [x],some (.sh (.int (x.1:Int))),⟨K3,by rw[hK,Z1];rfl⟩,by rw[Zd];rfl,rfl⟩;have g:b2 aV2 (look 1) (look 4) [some (.sh (.lst (nI ns))),some (.sh (.dk (keD kp))),o,some (.own (nI (flat K))),some (.sh (.int (x.1:Int)))]=ok (.lst (nI x.2)):=by
    show (match aHf (keD kp) (Zl (x.1:Int)) with | some v=>ok v | none=>none)=_;rw[aUo,bDz hk.nd hx];rfl
   have im: ∀l:List Nat,aIq (nI l)=true:=by
    intro l
    induction l with
    | nil=>rfl
    | cons y l ih=>show ((D.int (y:Int)).imm&&aIq (nI l))=true;rw[ih];rfl
   have s:aYz 3 (aAa (b2 aV2 (look 1) (look 4)) aAg) [some (.sh (.lst (nI ns))),some (.sh (.dk (keD kp))),o,some (.own (nI (flat K))),some (.sh (.int (x.1:Int)))]=some (.nx [some (.sh (.lst (nI ns))),some (.sh (.dk (keD kp))),o,some (.own (nI (flat (K++ [x])))),some (.sh (.int (x.1:Int)))]):=by
    unfold aYz;show lft _ _ _=_;rw[aAf g aAq];show (if aIq (nI x.2)=true/\(nI (flat K)).length+(nI x.2).length<=100000 then _ else _)=_;rw[if_pos ⟨im _,by rw[Qh,Qh];omega⟩];have:nI (flat (K++ [x]))=nI (flat K)++nI x.2:=by
     unfold flat;rw[Ui,Wh,List.flatMap_nil,Z9];exact Zd
    rw[this];rfl
   unfold ltB;rw[aAe s];rfl)
 obtain⟨ρ2,lp2,K,o4,⟨K2,hK⟩,hKe,rfl⟩:=lp2;have hK2:K=kp:=by
  have:=congrArg Uu hKe;rw[Qh,Qh,hK,Qq] at this;have:K2=[]:=List.length_eq_zero_iff.mp (by omega);rw[hK,this,Z9]
 subst hK2;have s4:aYy 1 (gN 4) ltB [some (.sh (.lst (nI ns))),some (keS K),o,some (.own []),none]=some (.nx [some (.sh (.lst (nI ns))),some (.sh (.dk (keD K))),o,some (.own (nI (flat K))),o4]):=by
  rw[<-lp2];unfold aYy keS;show loop (gN 4) ltB ((K.map fun (p:Nat×List Nat)=>(Zl (p.1:Int):Key)).map kD) [some (.sh (.lst (nI ns))),some (.sh (.dk ((K.map fun (p:Nat×List Nat)=>(Zl (p.1:Int):Key)).zip ((K.map fun (p:Nat×List Nat)=>nI p.2).map D.lst)))),o,some (.own []),none]=_;rw[Zr,Zr,V5];rfl
 rw[aAe s4];rfl
def nmF:Nat->List Str->List (Key×D)
 | _,[]=> []
 | i,k::ks=>(Yl k,D.int (i:Int))::nmF (i+1) ks
abbrev nmD (ks:List Str):List (Key×D):=nmF 0 ks
theorem aVl: ∀(i:Nat) (ks:List Str),(nmF i ks).length=ks.length
 | _,[]=>rfl
 | i,k::ks=>congrArg (· +1) (aVl (i+1) ks)
theorem bMj (a b:Str):decide ((Yl a:Key)=Yl b)=decide (a=b):=by
 apply decide_eq_decide.mpr
 exact⟨fun h=>Sum.inr.inj h,fun h=>by rw[h]⟩
theorem aVk (x:Str): ∀(ks:List Str) (i:Nat),aHf (nmF i ks) (Yl x)=if x∈ks then some (D.int ((i+ks.idxOf x:Nat):Int)) else none:=by
 intro ks
 induction ks with
 | nil=>intro i;rfl
 | cons k ks ih=>
  intro i;unfold nmF aHf;rw[Zu,bMj];by_cases e:k=x
  ·subst e
   rw[decide_eq_true rfl,if_pos Qm,List.idxOf_cons_self];rfl
  ·rw[decide_eq_false e]
   have:=ih (i+1);unfold aHf at this;show Option.map (fun x=>x.snd) (E5 (fun kv=>decide (kv.1=Yl x)) (nmF (i+1) ks))=_;rw[this,List.idxOf_cons,show (k==x)=false by simpa using e,cond_false];by_cases hm:x∈ks
   ·rw[if_pos hm,if_pos (Qr _ hm)]
    congr 3
    omega
   ·rw[if_neg hm,if_neg (fun h=>(List.mem_cons.mp h).elim (fun z=>e z.symm) hm)]
theorem aXl (x:Str): ∀(ks:List Str) (i:Nat),nmF i (ks++ [x])=nmF i ks++ [(Yl x,D.int ((i+ks.length:Nat):Int))]
 | [],_=>rfl
 | k::ks,i=>by
  show _::nmF (i+1) (ks++ [x])=_::(nmF (i+1) ks++_);rw[aXl x ks (i+1),Qk]
  congr 5
  omega
theorem bJa {ks:List Str}{x:Str}(h:x∈ks):aHf (nmD ks) (Yl x)=some (D.int (ks.idxOf x:Int)):=by
 rw[aVk,if_pos h,Uf]
def nmI:Rho->Option Out:=(aAn (bOm 1 (look 3) (f1 bR9 (look 1)))
  aAz)
def nmO:Rho->Option Out:=(aAn (aGm 2 (gN 3) nmI)
  aAz)
def bD8:Rho->Option Out:=
  (aAn (aU1 1)
  (aAn (aGm 0 (gN 2) nmO)
  (aAn (aC4 (look 1))
  aAz)))
theorem bG1 {s0 s2:Option SV}: ∀(xs ks:List Str) (s3:Option SV),ks.length+xs.length<100000->∃s3',loop (gN 3) nmI (xs.map D.str) [s0,some (.ow (.k (nmD ks))),s2,s3]=some (.nx [s0,some (.ow (.k (nmD (xs.foldl aG0 ks)))),s2,s3']):=by
 intro xs
 induction xs with
 | nil=>intro ks s3 _;exact⟨s3,rfl⟩
 | cons x xs ih=>
  intro ks s3 hl;rw[Qk] at hl;have e:nmI [s0,some (.ow (.k (nmD ks))),s2,some (.sh (.str x))]=some (.nx [s0,some (.ow (.k (nmD (aG0 ks x)))),s2,some (.sh (.str x))]):=by
   have s:bOm 1 (look 3) (f1 bR9 (look 1)) [s0,some (.ow (.k (nmD ks))),s2,some (.sh (.str x))]=some (.nx [s0,some (.ow (.k (nmD (aG0 ks x)))),s2,some (.sh (.str x))]):=by
    show (if (D.int ((nmD ks).length:Int)).imm=true/\(nmD ks).length<100000 then (if (aHf (nmD ks) (Yl x)).isSome=true then some (Out.nx [s0,some (.ow (.k (nmD ks))),s2,some (.sh (.str x))]) else some (Out.nx [s0,some (.ow (.k (aUl (nmD ks) (Yl x) (.int ((nmD ks).length:Int))))),s2,some (.sh (.str x))])) else none)=_;rw[if_pos ⟨rfl,by rw[aVl];omega⟩];unfold aG0;by_cases hm:x∈ks
    ·rw[bJa hm,if_pos Eo,if_pos (by simpa using hm)]
    ·rw[aVk,if_neg hm,if_neg (by simp),if_neg (by simpa using hm)]
     congr 7
     unfold aUl;have hn:(nmD ks).any (fun kv=>decide (kv.1=Yl x))=false:=by
      rw[Uk];intro kv hkv hc;have h1:aHf (nmD ks) (Yl x)=none:=by rw[aVk,if_neg hm]
      unfold aHf at h1;rw[V4,U6] at h1;exact h1 kv hkv hc
     rw[hn];show nmD ks++ [(Yl x,D.int ((nmD ks).length:Int))]=nmF 0 (ks++ [x]);rw[aXl,aVl,Uf]
   unfold nmI;rw[aAe s];rfl
  obtain⟨s3',h⟩:=ih (aG0 ks x) (some (.sh (.str x))) (by rw[aH6];split<;>omega);exact⟨s3',(aD7 rfl e).trans h⟩
theorem bG0 {s0:Option SV}: ∀(S:List (List Str)) (ks:List Str) (s2 s3:Option SV),ks.length+S.flatten.length<100000->∃s2' s3',loop (gN 2) nmO (S.map tS) [s0,some (.ow (.k (nmD ks))),s2,s3]=some (.nx [s0,some (.ow (.k (nmD (S.flatten.foldl aG0 ks)))),s2',s3']):=by
 intro S
 induction S with
 | nil=>intro ks s2 s3 _;exact⟨s2,s3,rfl⟩
 | cons xs S ih=>
  intro ks s2 s3 hl;rw[W8,Qq] at hl;obtain⟨s3',h⟩:=bG1 (s0:=s0) (s2:=some (.sh (tS xs))) xs ks s3 (by omega);have e:nmO [s0,some (.ow (.k (nmD ks))),some (.sh (tS xs)),s3]=some (.nx [s0,some (.ow (.k (nmD (xs.foldl aG0 ks)))),some (.sh (tS xs)),s3']):=by
   unfold nmO;rw[aAe (show aGm 2 (gN 3) nmI [s0,some (.ow (.k (nmD ks))),some (.sh (tS xs)),s3]=_ from h)];rfl
  have hl2:(xs.foldl aG0 ks).length<=ks.length+xs.length:=by
   have g: ∀(vs σ:List Str),(vs.foldl aG0 σ).length<=σ.length+vs.length:=by
    intro vs
    induction vs with
    | nil=>intro σ;exact Qo _
    | cons v vs ih=>
     intro σ;rw[J5];have h1:=ih (aG0 σ v);have h2:(aG0 σ v).length<=σ.length+1:=by rw[aH6];split<;>omega
     rw[Qk];omega
   exact g xs ks
  obtain⟨s2',bV4,h'⟩:=ih (xs.foldl aG0 ks) (some (.sh (tS xs))) s3' (by omega);refine⟨s2',bV4,?_⟩;have hg:gN 2 (tS xs) [s0,some (.ow (.k (nmD ks))),s2,s3]=some [s0,some (.ow (.k (nmD ks))),some (.sh (tS xs)),s3]:=by
   show some (aMs 2 (tS xs) _)=_;rw[aI7 (aJr xs)];rfl
  rw[Qv];refine (aD7 hg e).trans (h'.trans ?_);rw[W8,W7]
abbrev aTh (S:List (List Str)):List Str:=aDh S.flatten
theorem bLw {d:D}{S:List (List Str)}(hd:itD d=ok (S.map tS))(hl:S.flatten.length<100000):aBd (bD8 [some (.sh d),none,none,none])=ok (.dk (nmD (aTh S))):=by
 obtain⟨s2',s3',h⟩:=bG0 (s0:=some (.sh d)) S [] none none (by simpa using hl);unfold bD8;rw[aAe (show aU1 1 [some (.sh d),none,none,none]=some (.nx [some (.sh d),some (.ow (.k (nmD []))),none,none]) from rfl)];have s:aGm 0 (gN 2) nmO [some (.sh d),some (.ow (.k (nmD []))),none,none]=some (.nx [some (.sh d),some (.ow (.k (nmD (S.flatten.foldl aG0 [])))),s2',s3']):=by
  unfold aGm;show (match itD d with | some (.ok ds)=>loop (gN 2) nmO ds [some (.sh d),some (.ow (.k (nmD []))),none,none] | _=>none)=_;rw[hd];exact h
 rw[aAe s];rfl
theorem aMx {S:List (List Str)}{xs:List Str}(h:xs∈S){x:Str}(hx:x∈xs):x∈aTh S:=by
 have:=aGt S.flatten x;rw[<-Q5,this,Q5];exact List.mem_flatten.mpr ⟨xs,h,hx⟩
def aHw (ks:List Str)(xs:List Str):Nat:=xs.foldl (fun b x=>b ||| 2^ks.idxOf x) 0
theorem aGa (ks:List Str)(xs:List Str)(i:Nat):(aHw ks xs).testBit i=xs.any fun x=>decide (ks.idxOf x=i):=by
 have g: ∀(xs:List Str) (b:Nat),(xs.foldl (fun b x=>b ||| 2^ks.idxOf x) b).testBit i=(b.testBit i || xs.any fun x=>decide (ks.idxOf x=i)):=by
  intro xs
  induction xs with
  | nil=>intro b;simp
  | cons x xs ih=>
   intro b;rw[J5,ih,Nat.testBit_or,Nat.testBit_two_pow,Jm,V8]
 have:=g xs 0;unfold aHw
 simpa using this
theorem bMz {ks:List Str}{x y:Str}(hx:x∈ks)(h:ks.idxOf x=ks.idxOf y):x=y:=by
 have h1:=List.idxOf_lt_length_iff.mpr hx;have h2:ks.idxOf y<ks.length:=by omega
 have e1:=E4 h1;have e2:=E4 h2;rw[<-e1,<-e2]
 congr 1
theorem bits_sub {ks xs ys:List Str}(hx: ∀x∈xs,x∈ks):aHw ks xs&&&aHw ks ys=aHw ks xs↔∀x∈xs,x∈ys:=by
 rw[aWr]
 constructor
 ·intro h x hxx
  have:=h (ks.idxOf x) (by rw[aGa,Zp];exact⟨x,hxx,by simp⟩);rw[aGa,Zp] at this;obtain⟨y,hy,e⟩:=this;rw[bMz (hx x hxx) (by simpa using e:ks.idxOf y=ks.idxOf x).symm];exact hy
 ·intro h i hi
  rw[aGa,Zp] at hi⊢;obtain⟨x,hx,e⟩:=hi;exact⟨x,h x hx,e⟩
theorem bH6 {ks xs:List Str}(hx: ∀x∈xs,x∈ks):aHw ks xs<2^ks.length:=by
 refine Nat.lt_pow_two_of_testBit _ fun i hi=> ?_
 rw[aGa,Uk];intro x hxx e;have:=List.idxOf_lt_length_iff.mpr (hx x hxx);have e':ks.idxOf x=i:=by simpa using e
 omega
theorem aZ9 {ks xs ys:List Str}(h: ∀x,x∈xs↔x∈ys):aHw ks xs=aHw ks ys:=by
 refine Eu fun i=> ?_
 rw[aGa,aGa,Yd,Zp,Zp];exact⟨fun⟨x,h1,h2⟩=>⟨x,(h x).mp h1,h2⟩,fun⟨x,h1,h2⟩=>⟨x,(h x).mpr h1,h2⟩⟩
def biB:Rho->Option Out:=(aAn (aC7 2 (b2 bNw (look 2) (b2 bDx (con (.int 1)) (b2 aV2 (look 1) (look 3)))))
  aAz)
def bD9:Rho->Option Out:=
  (aAn (aC7 2 (con (.int 0)))
  (aAn (aGm 0 (gN 3) biB)
  (aAn (aC4 (look 2))
  aAz)))
theorem bEu {ks:List Str}{s0:Option SV}(hk:ks.length<=100000): ∀(xs:List Str) (b:Nat) (s3:Option SV),(∀x∈xs,x∈ks)->∃s3',loop (gN 3) biB (xs.map D.str) [s0,some (.sh (.dk (nmD ks))),some (.sh (.int (b:Int))),s3]=some (.nx [s0,some (.sh (.dk (nmD ks))),some (.sh (.int ((xs.foldl (fun b x=>b ||| 2^ks.idxOf x) b:Nat):Int))),s3']):=by
 intro xs
 induction xs with
 | nil=>intro b s3 _;exact⟨s3,rfl⟩
 | cons x xs ih=>
  intro b s3 hx;have hxk:=hx x Qm;have hlt:=List.idxOf_lt_length_iff.mpr hxk;have g1:b2 aV2 (look 1) (look 3) [s0,some (.sh (.dk (nmD ks))),some (.sh (.int (b:Int))),some (.sh (.str x))]=ok (.int (ks.idxOf x:Int)):=by
   show (match aHf (nmD ks) (Yl x) with | some v=>ok v | none=>none)=_;rw[bJa hxk]
  have g2:b2 bDx (con (.int 1)) (b2 aV2 (look 1) (look 3)) [s0,some (.sh (.dk (nmD ks))),some (.sh (.int (b:Int))),some (.sh (.str x))]=ok (.int ((2^ks.idxOf x:Nat):Int)):=by
   refine aB2 (x:= .int 1) rfl g1 ?_;show (if 0<=(ks.idxOf x:Int)/\(ks.idxOf x:Int)<=1000000/\(1:Int).natAbs<2^64 then ok (D.int (1*2^(ks.idxOf x:Int).toNat)) else none)=_;rw[if_pos ⟨by omega,by omega,by decide⟩,Int.one_mul,Zc]
   congr 2
  have g3:b2 bNw (look 2) (b2 bDx (con (.int 1)) (b2 aV2 (look 1) (look 3))) [s0,some (.sh (.dk (nmD ks))),some (.sh (.int (b:Int))),some (.sh (.str x))]=ok (.int ((b ||| 2^ks.idxOf x:Nat):Int)):=by
   refine aB2 (x:= .int (b:Int)) rfl g2 ?_;show ok (D.int (Builtin.bitOr (b:Int) ((2^ks.idxOf x:Nat):Int)))=_;rw[bEv]
  have e:biB [s0,some (.sh (.dk (nmD ks))),some (.sh (.int (b:Int))),some (.sh (.str x))]=some (.nx [s0,some (.sh (.dk (nmD ks))),some (.sh (.int ((b ||| 2^ks.idxOf x:Nat):Int))),some (.sh (.str x))]):=by
   unfold biB;rw[aAe (aA5 g3 rfl)];rfl
  obtain⟨s3',h⟩:=ih (b ||| 2^ks.idxOf x) (some (.sh (.str x))) fun y hy=>hx y (Qr _ hy)
  exact⟨s3',(aD7 rfl e).trans h⟩
theorem bNh {ks xs:List Str}(hk:ks.length<=100000)(hx: ∀x∈xs,x∈ks):aBd (bD9 [some (.sh (tS xs)),some (.sh (.dk (nmD ks))),none,none])=ok (.int (aHw ks xs:Int)):=by
 obtain⟨s3',h⟩:=bEu (s0:=some (.sh (tS xs))) hk xs 0 none hx;unfold bD9;rw[aAe (show aC7 2 (con (.int 0)) [some (.sh (tS xs)),some (.sh (.dk (nmD ks))),none,none]=some (.nx [some (.sh (tS xs)),some (.sh (.dk (nmD ks))),some (.sh (.int ((0:Nat):Int))),none]) from rfl)];rw[aAe (show aGm 0 (gN 3) biB [some (.sh (tS xs)),some (.sh (.dk (nmD ks))),some (.sh (.int ((0:Nat):Int))),none]=_ from h)];rfl
abbrev bJ2 (r:List Str):Prop:=r.Pairwise fun a b=>decide (a.cps.toList<b.cps.toList)=true
structure aQm (P:List Str->Prop)(R:List (List Str)):Prop where
 frm: ∀r∈R,bJ2 r/\∃xs,P xs/\∀z,z∈r↔z∈xs
 cov: ∀xs,P xs->∃r∈R,∀z∈r,z∈xs
 anti: ∀r∈R,∀r'∈R,(∀z∈r,z∈r')->r=r'
 asc:R.Pairwise fun a b=>aEu a b=true
theorem aWw {xs:List Str}(h:xs.Nodup):bJ2 (aGk xs):=by
 have h1:=aI6 xs;have h2:(aGk xs).Nodup:=(aD3 xs).nodup_iff.mpr h;refine (h1.and h2).imp fun⟨h,hn⟩=> ?_
 exact bJe (fun e=>hn e.symm) (by rw[aIx,h];rfl)
theorem aPz {r:List Str}(h:bJ2 r):r.Nodup:=h.imp fun h e=>by rw[e,aN6] at h;cases h
theorem bF9 {r r':List Str}(h:bJ2 r)(h':bJ2 r')(e: ∀z,z∈r↔z∈r'):r=r':=by
 have p:r.Perm r':=(U4 (aPz h) (aPz h')).mpr e;refine List.Perm.eq_of_pairwise (fun a b _ _ h1 h2=> ?_) h h' p;have:=aXr h1 h2;rw[aN6] at this;cases this
theorem aZk {ks:List Str}{N L:List Nat}{f:Nat->List Str}{P:List Str->Prop}(h1: ∀b∈N,∃xs,P xs/\aHw ks xs=b/\bJ2 (f b)/\∀z,z∈f b↔z∈xs)(h2: ∀xs,P xs->aHw ks xs∈N)(h3: ∀xs,P xs->∀x∈xs,x∈ks)
  (hL:aSc N L):aQm P (aUk (L.map f))/\(L.map f).Nodup/\(2<=(L.map f).length->∀k∈L.map f,k≠[])/\∀r∈aUk (L.map f),r∈L.map f:=by
 have hm: ∀r,r∈aUk (L.map f)↔r∈L.map f:=fun r=>(aI5 (L.map f)).mem_iff
 have bHi: ∀b∈L,aHw ks (f b)=b/\(∀z∈f b,z∈ks):=fun b hb=>by
  obtain⟨xs,p1,p2,p3,p4⟩:=h1 b (hL.sub b hb);exact⟨(aZ9 p4).trans p2,fun z hz=>h3 xs p1 z ((p4 z).mp hz)⟩
 have bM0: ∀b∈L,∀b'∈L,(∀z∈f b,z∈f b')->b=b':=fun b hb b' hb' h=>by
  refine hL.anti b hb b' hb' ?_;have:=(bits_sub (ys:=f b') (bHi b hb).2).mpr h;rw[(bHi b hb).1,(bHi b' hb').1] at this;exact this
 have hnd:(L.map f).Nodup:=by
  unfold E8;rw[Jq];refine List.Pairwise.imp_of_mem (fun {a b} ha hb hne e=>hne (bM0 a ha b hb fun z hz=>by rw[<-e];exact hz)) hL.nd
 refine⟨⟨?_,?_,?_,bFv hnd⟩,hnd,?_,fun r hr=>(hm r).mp hr⟩
 ·intro r hr
  obtain⟨b,hb,rfl⟩:=List.mem_map.mp ((hm r).mp hr);obtain⟨xs,p1,p2,p3,p4⟩:=h1 b (hL.sub b hb);exact⟨p3,xs,p1,p4⟩
 ·intro xs hxs
  obtain⟨b,hb,e⟩:=hL.cov _ (h2 xs hxs);refine⟨f b,(hm _).mpr (List.mem_map.mpr ⟨b,hb,rfl⟩),?_⟩;have hb2:=bHi b hb;rw[<-hb2.1] at e;exact (bits_sub hb2.2).mp e
 ·intro r hr r' hr' h
  obtain⟨b,hb,rfl⟩:=List.mem_map.mp ((hm r).mp hr);obtain⟨b',hb',rfl⟩:=List.mem_map.mp ((hm r').mp hr');rw[bM0 b hb b' hb' h]
 ·intro hlen k hk e
  obtain⟨b,hb,rfl⟩:=List.mem_map.mp hk;have hall: ∀b'∈L,b'=b:=fun b' hb'=>(bM0 b hb b' hb' fun z hz=>by rw[e] at hz;cases hz).symm
  rw[Qh] at hlen;have:=hL.nd
  match L,hall,this,hlen with
  | x::y::r,hall,hn,_=>
   have e1:=hall x Qm;have e2:=hall y (Qr _ Qm);rw[Wq] at hn;exact hn.1 (by rw[e1,e2];exact Qm)
  | [_],_,_,h=>simp at h
  | [],_,_,h=>simp at h
theorem aQm.self {P:List Str->Prop}{R R':List (List Str)}(h:aQm P R)(h':aQm (· ∈R) R'):R'=R:=by
 have m: ∀r,r∈R'↔r∈R:=by
  have m1: ∀r∈R',r∈R:=fun r hr=>by
   obtain⟨p1,xs,p2,p3⟩:=h'.frm r hr;rw[bF9 p1 (h.frm xs p2).1 p3];exact p2
  refine fun r=>⟨m1 r,fun hr=> ?_⟩
  obtain⟨r',h1,h2⟩:=h'.cov r hr;rw[<-h.anti r' (m1 r' h1) r hr h2];exact h1
 have nd: ∀{l:List (List Str)},l.Pairwise (fun a b=>aEu a b=true)->l.Nodup:=fun h=>h.imp fun h e=>by rw[e,aP8] at h;cases h
 refine List.Perm.eq_of_pairwise (fun a b _ _ h1 h2=> ?_) h'.asc h.asc ((U4 (nd h'.asc) (nd h.asc)).mpr m);have:=aP7 h1 h2;rw[aP8] at this;cases this
section
variable {α:Type}
def puB (st:List (Nat×α))(b:Nat)(v:α):List (Nat×α):=if (st.any fun e=>decide (e.1=b))=true then st.map (fun e=>if e.1=b then (e.1,v) else e) else st++ [(b,v)]
def stD (g:α->D)(st:List (Nat×α)):List (Key×D):=st.map fun e=>(Zl (e.1:Int),g e.2)
theorem bKv (g:α->D)(st:List (Nat×α))(b:Nat)(v:α):aUl (stD g st) (Zl (b:Int)) (g v)=stD g (puB st b v):=by
 have hc: ∀e:Nat×α,((Zl (e.1:Int):Key)=Zl (b:Int))↔e.1=b:=fun e=>by
  have:=aKw e.1 b;rw[decide_eq_decide] at this;exact this
 have ha:(stD g st).any (fun kv=>decide (kv.1=Zl (b:Int)))=st.any fun e=>decide (e.1=b):=by
  unfold stD;rw[List.any_map]
  congr 1
  funext e
  exact aKw e.1 b
 unfold aUl puB;rw[ha];split
 ·unfold stD
  rw[Zr,Zr];refine Jt fun e _=> ?_
  show (if (Zl (e.1:Int):Key)=Zl (b:Int) then _ else _)=_;by_cases h:e.1=b
  ·rw[if_pos ((hc e).mpr h)]
   show _=(fun e:Nat×α=>((Zl (e.1:Int):Key),g e.2)) (if e.1=b then (e.1,v) else e);rw[if_pos h]
  ·rw[if_neg fun z=>h ((hc e).mp z)]
   show _=(fun e:Nat×α=>((Zl (e.1:Int):Key),g e.2)) (if e.1=b then (e.1,v) else e);rw[if_neg h]
 ·unfold stD
  rw[Zd];rfl
theorem bJ6 (g:α->D)(st:List (Nat×α))(b:Nat):aHf (stD g st) (Zl (b:Int))=(st.find? fun e=>decide (e.1=b)).map fun e=>g e.2:=by
 unfold aHf stD;rw[List.find?_map];have:((fun kv:Key×D=>decide (kv.1=Zl (b:Int)))∘fun e:Nat×α=>((Zl (e.1:Int):Key),g e.2))=fun e=>decide (e.1=b):=by
  funext e
  exact aKw e.1 b
 rw[this,Option.map_map];rfl
theorem bKe (g:α->D)(st:List (Nat×α)):(stD g st).length=st.length:=Qh _
theorem bFu (g:α->D)(st:List (Nat×α)):aZm (.dk (stD g st))=ok (.lst (nI (st.map (·.1)))):=by
 show ok (D.lst ((stD g st).map fun kv=>kD kv.1))=_;unfold stD;rw[Zr,show nI (st.map (·.1))=st.map ((fun (x:Nat)=>D.int (x:Int))∘(·.1)) from Zr];rfl
structure bIc (key:α->Nat)(P:List α)(st:List (Nat×α)):Prop where
 ent: ∀e∈st,e.2∈P/\key e.2=e.1
 cov: ∀p∈P,key p∈st.map (·.1)
 len:st.length<=P.length
 nd:(st.map (·.1)).Nodup
theorem bIc.put {key:α->Nat}{P:List α}{st:List (Nat×α)}(h:bIc key P st)(v:α):bIc key (P++ [v]) (puB st (key v) v):=by
 unfold puB;split
 ·rename_i hc
  rw[Zp] at hc;obtain⟨e0,he0,hc⟩:=hc;have hkeys:(st.map (fun e=>if e.1=key v then (e.1,v) else e)).map (·.1)=st.map (·.1):=by
   rw[Zr];refine Jt fun e _=> ?_
   show (if e.1=key v then (e.1,v) else e).1=e.1;split<;>rfl
  refine⟨fun e he=> ?_,fun p hp=> ?_,by rw[Qh,Qq];exact Nat.le_succ_of_le h.len,by rw[hkeys];exact h.nd⟩
  ·obtain⟨e',he',rfl⟩:=List.mem_map.mp he
   split
   ·rename_i hk
    exact⟨Zh _ Qm,hk.symm⟩
   ·exact⟨Ja _ (h.ent e' he').1,(h.ent e' he').2⟩
  ·rw[hkeys]
   rcases List.mem_append.mp hp with hp | hp
   ·exact h.cov p hp
   ·rw[List.mem_singleton.mp hp]
    exact List.mem_map.mpr ⟨e0,he0,by simpa using hc⟩
 ·rename_i hc
  refine⟨fun e he=> ?_,fun p hp=> ?_,by rw[Qq,Qq];exact Nat.succ_le_succ h.len,?_⟩
  rotate_left 2
  ·rw[Zd]
   refine List.nodup_append.mpr ⟨h.nd,by simp,fun a ha b hb=> ?_⟩;obtain⟨e,he,rfl⟩:=List.mem_map.mp ha;rw[List.mem_singleton.mp hb];exact fun z=>hc (List.any_eq_true.mpr ⟨e,he,by simpa using z⟩)
  ·rcases List.mem_append.mp he with he | he
   ·exact⟨Ja _ (h.ent e he).1,(h.ent e he).2⟩
   ·rw[List.mem_singleton.mp he]
    exact⟨Zh _ Qm,rfl⟩
  ·rw[Zd]
   rcases List.mem_append.mp hp with hp | hp
   ·exact Ja _ (h.cov p hp)
   ·rw[List.mem_singleton.mp hp]
    exact Zh _ Qm
theorem bIc.few {key:α->Nat}{P:List α}{st:List (Nat×α)}(h:bIc key P st)(hN: ∀b∈st.map (·.1),b<2^5):(st.map (·.1)).length<64:=by
 have:=aGs h.nd (m:=Zj (2^5)) fun b hb=>List.mem_range.mpr (hN b hb)
 rw[Zo] at this;omega
theorem bIc.get {key:α->Nat}{P:List α}{st:List (Nat×α)}(h:bIc key P st){b:Nat}(hb:b∈st.map (·.1)): ∃p∈P,key p=b/\(st.find? fun e=>decide (e.1=b))=some (b,p):=by
 cases hf:st.find? fun e=>decide (e.1=b) with
 | none=>
  obtain⟨e,he,hb⟩:=List.mem_map.mp hb;rw[U6] at hf;exact absurd (by simpa using hb) (hf e he)
 | some e=>
  have h1:=U9 hf;have h2:e.1=b:=by simpa using Vm hf
  obtain⟨p1,p2⟩:=h.ent e h1;exact⟨e.2,p1,p2.trans h2,by rw[<-h2]⟩
theorem bKw {i:Nat}{fk f:Rho->M D}{ρ:Rho}{g:α->D}{st:List (Nat×α)}{b:Nat}{v:α}(hi:ρ[i]? =some (some (.ow (.k (stD g st)))))(hk:fk ρ=ok (.int (b:Int)))(hf:f ρ=ok (g v))(hg:(g v).imm=true)(hl:st.length<100000):
  aYx i fk f ρ=some (.nx (ρ.set i (some (.ow (.k (stD g (puB st b v))))))):=by
 unfold aYx;simp only[hi,hf,hk,aLt,keyOf,bKe,hg,hl,and_self,if_true,bKv]
end
theorem aM7 (l:List (List Str)):aCp (l.map tS)=some l:=by
 induction l with
 | nil=>rfl
 | cons x l ih=>
  rw[Qv];show (match aIk (x.map D.str),aCp (l.map tS) with | some x,some l=>some (x::l) | _,_=>none)=_;rw[aH2,ih]
theorem bKi {l:List (List Str)}(h1:l.length<64)(h2:2<=l.length->∀k∈l,k≠[]):aYq (.lst (l.map tS))=ok (.lst ((aUk l).map tS)):=by
 show (match aCp (l.map tS) with | some l=>if l.length<64/\(2<=l.length->∀k∈l,k≠[]) then ok (D.lst ((aUk l).map fun (x:List Str)=>D.tup (x.map D.str))) else none | none=>none)=_;rw[aM7];exact if_pos ⟨h1,h2⟩
theorem bKf {xs:List Str}{z:Str}:z∈aGk (aDh xs)↔z∈xs:=by
 rw[(aD3 _).mem_iff,<-Q5,aGt,Q5]
theorem bCs {ks xs:List Str}(h: ∀x∈xs,x∈ks):(aDh xs).length<=ks.length:=aGs (aF8 xs) fun x hx=>h x (by rw[<-Q5,aGt,Q5] at hx;exact hx)
theorem bA1 {xs:List Str}(h:xs.length<=2000):toS (tS xs)=ok (.set (aDh xs)):=by
 show (match aIk (xs.map D.str) with | some xs=>if xs.length<=2000 then ok (D.set (aDh xs)) else none | none=>none)=_;rw[aH2];exact if_pos h
theorem bCx {m:Nat}{N L:List Nat}(hL:aSc N L)(hN: ∀b∈N,b<2^m):L.length<=2^m:=by
 have:=aGs hL.nd (m:=Zj (2^m)) fun b hb=>List.mem_range.mpr (hN b (hL.sub b hb))
 rwa [Zo] at this
def loB (Fb:List D->M D):Rho->Option Out:=(aAn (aYx 2 (app Fb (aAa (look 3) (aAa (look 1) aAg))) (look 3))
  aAz)
def bRq (Fb FL FN:List D->M D):Rho->Option Out:=
  (aAn (aC7 1 (app FN (aAa (look 0) aAg)))
  (aAn (aU1 2)
  (aAn (aGm 0 (gN 3) (loB Fb))
  (aAn (aC4 (f1 toT (f1 aYq (cmp 1 (itE (app FL (aAa (f1 aZm (look 2)) aAg))) [4] h1 (fun _=>ok true) (f1 toT (f1 bIs (f1 toS (b2 aV2 (look 2) (look 4)))))))))
  aAz))))
structure bNs (Fb FL FN:List D->M D):Prop where
 b: ∀ks xs:List Str,ks.length<=100000->(∀x∈xs,x∈ks)->Fb [tS xs,.dk (nmD ks)]=ok (.int (aHw ks xs:Int))
 l: ∀ns:List Nat,ns.length<64->(∀x∈ns,x<2^1000)->∃L,aSc ns L/\FL [.lst (nI ns)]=ok (.lst (nI L))
 n: ∀(d:D) (S:List (List Str)),itD d=ok (S.map tS)->S.flatten.length<100000->FN [d]=ok (.dk (nmD (aTh S)))
section
variable {Fb FL FN:List D->M D}
theorem bMd (hF:bNs Fb FL FN){ks:List Str}(hk:ks.length<=1000){s0:Option SV}: ∀(S P:List (List Str)) (st:List (Nat×List Str)) (s3:Option SV),bIc (aHw ks) P st->P.length+S.length<100000->(∀xs∈S,∀x∈xs,x∈ks)->
  ∃st' s3',bIc (aHw ks) (P++S) st'/\loop (gN 3) (loB Fb) (S.map tS) [s0,some (.sh (.dk (nmD ks))),some (.ow (.k (stD tS st))),s3]=some (.nx [s0,some (.sh (.dk (nmD ks))),some (.ow (.k (stD tS st'))),s3']):=by
 intro S
 induction S with
 | nil=>intro P st s3 h _ _;exact⟨st,s3,by rw[Z9];exact h,rfl⟩
 | cons xs S ih=>
  intro P st s3 h hl hx;rw[Qk] at hl;have hlen:=h.len;have hg:gN 3 (tS xs) [s0,some (.sh (.dk (nmD ks))),some (.ow (.k (stD tS st))),s3]=some [s0,some (.sh (.dk (nmD ks))),some (.ow (.k (stD tS st))),some (.sh (tS xs))]:=by
   show some (aMs 3 (tS xs) _)=_;rw[aI7 (aJr xs)];rfl
  have hb:app Fb (aAa (look 3) (aAa (look 1) aAg)) [s0,some (.sh (.dk (nmD ks))),some (.ow (.k (stD tS st))),some (.sh (tS xs))]=ok (.int (aHw ks xs:Int)):=
   (aBo (aAf (d:=tS xs) rfl (aAf (d:= .dk (nmD ks)) rfl aAq))).trans (hF.b ks xs (by omega) (hx xs Qm))
  have e:loB Fb [s0,some (.sh (.dk (nmD ks))),some (.ow (.k (stD tS st))),some (.sh (tS xs))]=some (.nx [s0,some (.sh (.dk (nmD ks))),some (.ow (.k (stD tS (puB st (aHw ks xs) xs)))),some (.sh (tS xs))]):=by
   unfold loB;rw[aAe (bKw (i:=2) (g:=tS) (v:=xs) rfl hb rfl (aJr xs) (by omega))];rfl
  obtain⟨st',s3',h1,h2⟩:=ih (P++ [xs]) _ (some (.sh (tS xs))) (h.put xs) (by rw[Qq];simp;omega) fun ys hy=>hx ys (Qr _ hy)
  refine⟨st',s3',by rw[Z1] at h1;exact h1,?_⟩;rw[Qv];exact (aD7 hg e).trans h2
theorem bTq (hF:bNs Fb FL FN){d:D}{S:List (List Str)}(hd:itD d=ok (S.map tS))(hl:S.length<=1000)(hf:S.flatten.length<=2000)(hk:(aTh S).length<=5):
  ∃R,aQm (· ∈S) R/\R.length<=32/\R.length<=S.length/\aBd (bRq Fb FL FN [some (.sh d),none,none,none])=ok (.tup (R.map tS)):=by
 obtain⟨st,s3',h1,h2⟩:=bMd hF (ks:=aTh S) (by omega) (s0:=some (.sh d)) S [] [] none ⟨by simp,by simp,by simp,by simp⟩ (by simp;omega) fun xs hx x hxx=>aMx hx hxx
 rw[List.nil_append] at h1;have hlen:=h1.len;have hN: ∀b∈st.map (·.1),b<2^5:=fun b hb=>by
  obtain⟨p,p1,p2,_⟩:=h1.get hb;rw[<-p2];exact Q3 (bH6 fun x hx=>aMx p1 hx) (Jr (by decide) hk)
 obtain⟨L,hL,eL⟩:=hF.l (st.map (·.1)) (h1.few hN) fun b hb=>Q3 (hN b hb) (Jr (by decide) (by decide))
 have hLl:L.length<=32:=bCx hL hN
 let f:Nat->List Str:=fun b=>aGk (aDh (((st.find? fun e=>decide (e.1=b)).map (·.2)).getD []))
 have hsz: ∀xs∈S,xs.length<=2000:=fun xs hx=>by
  have: ∀(l:List (List Str)),xs∈l->xs.length<=l.flatten.length:=by
   intro l
   induction l with
   | nil=>intro h;cases h
   | cons y l ih=>
    intro h;rw[W8,Qq];rcases List.mem_cons.mp h with rfl | h
    ·omega
    ·have:=ih h;omega
  have:=this S hx;omega
 obtain⟨c1,c2,c3,c4⟩:=aZk (ks:=aTh S) (f:=f) (P:=(· ∈S)) (fun b hb=>by
   obtain⟨p,p1,p2,p3⟩:=h1.get hb;refine⟨p,p1,p2,?_,?_⟩
   ·exact aWw (aF8 _)
   ·intro z
    show z∈aGk (aDh (((st.find? fun e=>decide (e.1=b)).map (·.2)).getD []))↔_;rw[p3];exact bKf) (fun xs hx=>h1.cov xs hx) (fun xs hx x hxx=>aMx hx hxx) hL
 have hLs:L.length<=st.length:=by have:=aGs hL.nd hL.sub;rwa [Qh] at this
 refine⟨aUk (L.map f),c1,by rw[(aI5 _).length_eq,Qh];exact hLl,by rw[(aI5 _).length_eq,Qh];omega,?_⟩;unfold bRq;have s1:aC7 1 (app FN (aAa (look 0) aAg)) [some (.sh d),none,none,none]=some (.nx [some (.sh d),some (.sh (.dk (nmD (aTh S)))),none,none]):=by
  refine (aQ2 ((aBo (aAf (f:=look 0) (d:=d) rfl aAq)).trans (hF.n d S hd (by omega))) rfl).trans rfl
 have s2:aU1 2 [some (.sh d),some (.sh (.dk (nmD (aTh S)))),none,none]=some (.nx [some (.sh d),some (.sh (.dk (nmD (aTh S)))),some (.ow (.k (stD tS []))),none]):=rfl;have s3:aGm 0 (gN 3) (loB Fb) [some (.sh d),some (.sh (.dk (nmD (aTh S)))),some (.ow (.k (stD tS []))),none]=some (.nx [some (.sh d),some (.sh (.dk (nmD (aTh S)))),some (.ow (.k (stD tS st))),s3']):=by
  unfold aGm;show (match itD d with | some (.ok ds)=>loop (gN 3) (loB Fb) ds [some (.sh d),some (.sh (.dk (nmD (aTh S)))),some (.ow (.k (stD tS []))),none] | _=>none)=_;rw[hd];exact h2
 rw[aAe s1,aAe s2,aAe s3];have k1:f1 aZm (look 2) [some (.sh d),some (.sh (.dk (nmD (aTh S)))),some (.ow (.k (stD tS st))),s3']=ok (.lst (nI (st.map (·.1)))):=aFt (d:= .dk (stD tS st)) rfl (bFu tS st);have k2:itE (app FL (aAa (f1 aZm (look 2)) aAg)) [some (.sh d),some (.sh (.dk (nmD (aTh S)))),some (.ow (.k (stD tS st))),s3']=ok (nI L):=by
  unfold itE;rw[(aBo (aAf k1 aAq)).trans eL];rfl
 have k3:=aR3 (m:=1) (k:=4) (fe:=f1 toT (f1 bIs (f1 toS (b2 aV2 (look 2) (look 4))))) (e:=fun (x:Nat)=>D.int (x:Int)) (g:=fun b=>tS (f b)) k2 (by omega) fun b hb=>by
  obtain⟨p,p1,p2,p3⟩:=h1.get (hL.sub b hb);refine⟨?_,aJr _⟩;have g1:b2 aV2 (look 2) (look 4) ((ext 1 (free [some (.sh d),some (.sh (.dk (nmD (aTh S)))),some (.ow (.k (stD tS st))),s3'])).set 4 (some (.sh (.int (b:Int)))))=ok (tS p):=by
   show (match aHf (stD tS st) (Zl (b:Int)) with | some v=>ok v | none=>none)=_;rw[bJ6,p3];rfl
  have ef:f b=aGk (aDh p):=by
   show aGk (aDh (((st.find? fun e=>decide (e.1=b)).map (·.2)).getD []))=_;rw[p3];rfl
  rw[ef];exact aFt (aFt (aFt g1 (bA1 (hsz p p1))) (aWx (aF8 _) (by have:=bCs (ks:=aTh S) (xs:=p) fun x hx=>aMx p1 hx;omega))) rfl
 have k4:L.map (fun b=>tS (f b))=(L.map f).map tS:=by rw[Zr];rfl
 rw[k4] at k3;rw[aBa (aBl (aFt (g:=toT) (aFt k3 (bKi (by rw[Qh];omega) c3)) rfl))];rfl
end
end L2.PU
namespace K07
open PySem PySem.Spec PyProof.Rows L2 L2.PU
abbrev St:=L2.St
def top (i:Nat):Stmt:=PySem.Challenge.pw_whence_k07_what_is_a_mark.main.body.getD i (.Pass ⟨0,0,0,0⟩)
abbrev aPv:Stmt:=top 5
abbrev aPw:Stmt:=top 6
abbrev aJc:Stmt:=top 7
abbrev aIl:Stmt:=top 8
abbrev aHg:Stmt:=inClass (top 10) 0
abbrev aIm:Stmt:=inClass (top 10) 3
abbrev aPx:Stmt:=top 11
abbrev aFd:Stmt:=inClass (top 13) 0
abbrev aF4:Stmt:=inClass (top 13) 3
abbrev aPs:Stmt:=top 14
abbrev aLl:Stmt:=top 15
abbrev aS0:Stmt:=top 16
abbrev aLm:Stmt:=top 17
abbrev aLn:Stmt:=top 18
abbrev aF2:Stmt:=inClass (top 20) 0
abbrev aG5:Stmt:=inClass (top 20) 3
abbrev aF5:Stmt:=inClass (top 21) 0
abbrev aG9:Stmt:=inClass (top 21) 3
abbrev aF3:Stmt:=inClass (top 22) 0
abbrev aG7:Stmt:=inClass (top 22) 3
abbrev aHa:Stmt:=inClass (top 23) 0
abbrev aHk:Stmt:=inClass (top 23) 3
abbrev aG6:Stmt:=inClass (top 24) 0
abbrev aHh:Stmt:=inClass (top 24) 3
abbrev aHj:Stmt:=inClass (top 25) 0
abbrev aIn:Stmt:=inClass (top 25) 3
abbrev aG8:Stmt:=inClass (top 26) 0
abbrev aHi:Stmt:=inClass (top 26) 3
abbrev aWz:Stmt:=top 28
abbrev aSz:Stmt:=top 30
abbrev aPu:Stmt:=top 31
abbrev aSy:Stmt:=top 32
abbrev aEy:Stmt:=top 33
abbrev aF1:Stmt:=top 34
abbrev aD4:Stmt:=top 35
abbrev aPt:Stmt:=top 36
abbrev bF5:Stmt:=top 37
set_option genInjectivity false in
structure Adr where
 aBv:Addr
 aAu:Addr
 aAr:Addr
 aA3:Addr
 aAw:Addr
 aA2:Addr
 aA7:Addr
 aBp:Addr
 aA8:Addr
 aK4:Addr
 aK5:Addr
 aGw:Addr
 aFq:Addr
 aE2:Addr
 aFr:Addr
 aK6:Addr
 aC8:Addr
 aDp:Addr
 aK1:Addr
 aHr:Addr
 aOq:Addr
 aHs:Addr
 aHt:Addr
 aDn:Addr
 aEf:Addr
 aDq:Addr
 aEj:Addr
 aDo:Addr
 aEh:Addr
 aEk:Addr
 aE6:Addr
 aEg:Addr
 aE3:Addr
 aE5:Addr
 aFs:Addr
 aEi:Addr
 aE4:Addr
 aRw:Addr
 aOp:Addr
 aK3:Addr
 aOo:Addr
 aE1:Addr
 aF9:Addr
 aD8:Addr
 aK2:Addr
 aV4:Addr
def cs (t:Adr)(C:Addr):Bool:=decide (C=t.aBv) || decide (C=t.aAu) || decide (C=t.aAr) || decide (C=t.aA3) || decide (C=t.aAw) || decide (C=t.aA2) || decide (C=t.aA7) || decide (C=t.aBp) || decide (C=t.aA8)
structure Txt (K:Qc)(mg:Str->Option Qd)(t:Adr):Prop where
 bQ8:mg "Sums"=some (.ref t.aBv)
 bNd:Cls K t.aBv
 bL9:Mk K t.aBv t.aE2
 aN4:Meth K t.aBv "is_mark" t.aFr
 bDw:mg "Reasons"=some (.ref t.aAu)
 aZ6:Cls K t.aAu
 aZe:Mk K t.aAu t.aC8
 aJn:Meth K t.aAu "is_mark" t.aDp
 bHn:mg "Truths"=some (.ref t.aAr)
 bEj:Cls K t.aAr
 bCp:Mk K t.aAr t.aDn
 aKr:Meth K t.aAr "is_mark" t.aEf
 bHp:mg "Counts"=some (.ref t.aA3)
 bEl:Cls K t.aA3
 bCr:Mk K t.aA3 t.aDq
 aKt:Meth K t.aA3 "is_mark" t.aEj
 bHo:mg "Rounds"=some (.ref t.aAw)
 bEk:Cls K t.aAw
 bCq:Mk K t.aAw t.aDo
 aKs:Meth K t.aAw "is_mark" t.aEh
 bM3:mg "Costs"=some (.ref t.aA2)
 bH2:Cls K t.aA2
 bG8:Mk K t.aA2 t.aEk
 aMj:Meth K t.aA2 "is_mark" t.aE6
 bM1:mg "Seers"=some (.ref t.aA7)
 bH0:Cls K t.aA7
 bG6:Mk K t.aA7 t.aEg
 aMh:Meth K t.aA7 "is_mark" t.aE3
 bQ9:mg "Lows"=some (.ref t.aBp)
 bNe:Cls K t.aBp
 bMa:Mk K t.aBp t.aE5
 aN5:Meth K t.aBp "is_mark" t.aFs
 bM2:mg "Pairs"=some (.ref t.aA8)
 bH1:Cls K t.aA8
 bG7:Mk K t.aA8 t.aEi
 aMi:Meth K t.aA8 "is_mark" t.aE4
 bCo: ∀C,cs t C=true->Cls K C/\aE8 K C "left"
 aRg: ∀C,cs t C=true->Cls K C/\aE8 K C "many"
 aB9: ∀C,cs t C=true->Cls K C/\aE8 K C "nought"
 aHc: ∀C,cs t C=true->Cls K C/\aE8 K C "one"
 aXm: ∀C,cs t C=true->Cls K C/\aE8 K C "right"
 aAj: ∃fd,Fun K "is_whole" "is_whole" aPv t.aK4 fd/\Binds K fd ["thing","least"] []
 aZx:mg "is_whole"=some (.ref t.aK4)
 aA1: ∃fd,Fun K "is_texts" "is_texts" aPw t.aK5 fd/\Binds K fd ["thing"] []
 aZy:mg "is_texts"=some (.ref t.aK5)
 aA0: ∃fd,Fun K "never_falls" "never_falls" aJc t.aGw fd/\Binds K fd ["things"] []
 aRt:mg "never_falls"=some (.ref t.aGw)
 aAx: ∃fd,Fun K "always_rises" "always_rises" aIl t.aFq fd/\Binds K fd ["things"] []
 aPj:mg "always_rises"=some (.ref t.aFq)
 aOv: ∃fd,Fun K "__init__" "Sums.__init__" aHg t.aE2 fd/\Binds K fd ["self"] []
 aPo: ∃fd,Fun K "is_mark" "Sums.is_mark" aIm t.aFr fd/\Binds K fd ["self","thing"] []
 aDx: ∃fd,Fun K "is_entry" "is_entry" aPx t.aK6 fd/\Binds K fd ["thing"] []
 aZz:mg "is_entry"=some (.ref t.aK6)
 aJ0: ∃fd,Fun K "__init__" "Reasons.__init__" aFd t.aC8 fd/\Binds K fd ["self"] []
 aLf: ∃fd,Fun K "is_mark" "Reasons.is_mark" aF4 t.aDp fd/\Binds K fd ["self","thing"] []
 aDu: ∃fd,Fun K "least_of" "least_of" aPs t.aK1 fd/\Binds K fd ["some"] []
 aZt:mg "least_of"=some (.ref t.aK1)
 aCb: ∃fd,Fun K "numbers_of" "numbers_of" aLl t.aHr fd/\Binds K fd ["some"] []
 aTs:mg "numbers_of"=some (.ref t.aHr)
 aFc: ∃fd,Fun K "bits_of" "bits_of" aS0 t.aOq fd/\Binds K fd ["names","numbers"] []
 bDv:mg "bits_of"=some (.ref t.aOq)
 aCc: ∃fd,Fun K "least_bits" "least_bits" aLm t.aHs fd/\Binds K fd ["sets"] []
 aTt:mg "least_bits"=some (.ref t.aHs)
 aCe: ∃fd,Fun K "has_within" "has_within" aLn t.aHt fd/\Binds K fd ["kept","one"] []
 aTv:mg "has_within"=some (.ref t.aHt)
 aLd: ∃fd,Fun K "__init__" "Truths.__init__" aF2 t.aDn fd/\Binds K fd ["self"] []
 aMm: ∃fd,Fun K "is_mark" "Truths.is_mark" aG5 t.aEf fd/\Binds K fd ["self","thing"] []
 aLg: ∃fd,Fun K "__init__" "Counts.__init__" aF5 t.aDq fd/\Binds K fd ["self"] []
 aMq: ∃fd,Fun K "is_mark" "Counts.is_mark" aG9 t.aEj fd/\Binds K fd ["self","thing"] []
 aLe: ∃fd,Fun K "__init__" "Rounds.__init__" aF3 t.aDo fd/\Binds K fd ["self","many"] []
 aMo: ∃fd,Fun K "is_mark" "Rounds.is_mark" aG7 t.aEh fd/\Binds K fd ["self","thing"] []
 aMr: ∃fd,Fun K "__init__" "Costs.__init__" aHa t.aEk fd/\Binds K fd ["self"] []
 aO1: ∃fd,Fun K "is_mark" "Costs.is_mark" aHk t.aE6 fd/\Binds K fd ["self","thing"] []
 aMn: ∃fd,Fun K "__init__" "Seers.__init__" aG6 t.aEg fd/\Binds K fd ["self","people"] []
 aOw: ∃fd,Fun K "is_mark" "Seers.is_mark" aHh t.aE3 fd/\Binds K fd ["self","thing"] []
 aO0: ∃fd,Fun K "__init__" "Lows.__init__" aHj t.aE5 fd/\Binds K fd ["self","many"] []
 aPp: ∃fd,Fun K "is_mark" "Lows.is_mark" aIn t.aFs fd/\Binds K fd ["self","thing"] []
 aMp: ∃fd,Fun K "__init__" "Pairs.__init__" aG8 t.aEi fd/\Binds K fd ["self","left","right"] []
 aOy: ∃fd,Fun K "is_mark" "Pairs.is_mark" aHi t.aE4 fd/\Binds K fd ["self","thing"] []
 aCz: ∃fd,Fun K "_law_at" "_law_at" aWz t.aRw fd/\Binds K fd ["_law_script","_law_k"] []
 bHm:mg "_law_at"=some (.ref t.aRw)
 aFb: ∃fd,Fun K "_law_mix" "_law_mix" aSz t.aOp fd/\Binds K fd ["_law_cell"] []
 bDu:mg "_law_mix"=some (.ref t.aOp)
 aDw: ∃fd,Fun K "_law_name" "_law_name" aPu t.aK3 fd/\Binds K fd ["_law_style","_law_k"] []
 aZw:mg "_law_name"=some (.ref t.aK3)
 aFa: ∃fd,Fun K "_law_sum" "_law_sum" aSy t.aOo fd/\Binds K fd ["_law_names","_law_cell"] []
 bDt:mg "_law_sum"=some (.ref t.aOo)
 aC3: ∃fd,Fun K "_law_plain" "_law_plain" aEy t.aE1 fd/\Binds K fd ["_law_many","_law_big"] []
 aVz:mg "_law_plain"=some (.ref t.aE1)
 aDv: ∃fd,Fun K "_law_sets" "_law_sets" aF1 t.aF9 fd/\Binds K fd ["_law_low","_law_high","_law_far"] []
 aZv:mg "_law_sets"=some (.ref t.aF9)
 aCd: ∃fd,Fun K "_law_totals" "_law_totals" aD4 t.aD8 fd/\Binds K fd ["_law_low","_law_high","_law_big"] []
 aTu:mg "_law_totals"=some (.ref t.aD8)
 aCm: ∃fd,Fun K "_law_told" "_law_told" aPt t.aK2 fd/\Binds K fd ["_law_ways","_law_thing"] []
 aZu:mg "_law_told"=some (.ref t.aK2)
 bUv: ∃fd,Fun K "law" "law" bF5 t.aV4 fd/\Binds K fd ["_law_script"] []
 bT7:mg "law"=some (.ref t.aV4)
 bAb:mg "all"=none
 bEx:mg "bool"=none
 bUq:mg "int"=none
 aBh:mg "isinstance"=none
 aPm:mg "len"=none
 bJz:mg "list"=none
 aWc:mg "range"=none
 bH7:mg "set"=none
 aD0:mg "sorted"=none
 bUp:mg "str"=none
 aDa:mg "tuple"=none
 bRz:mg "zip"=none
 aO9:t.aBv≠t.aAr
 aPb:t.aBv≠t.aA3
 aPa:t.aBv≠t.aAw
 aRi:t.aBv≠t.aA2
 aRh:t.aBv≠t.aA7
 aTj:t.aBv≠t.aBp
 aNw:t.aAu≠t.aBv
 aKj:t.aAu≠t.aAr
 aKl:t.aAu≠t.aA3
 aKk:t.aAu≠t.aAw
 aMd:t.aAu≠t.aA2
 aMc:t.aAu≠t.aA7
 aNx:t.aAu≠t.aBp
 aMf:t.aA3≠t.aAr
 aMa:t.aAw≠t.aAr
 aMb:t.aAw≠t.aA3
 aHo:t.aA2≠t.aAr
 aN2:t.aA2≠t.aA3
 aN1:t.aA2≠t.aAw
 aNt:t.aA7≠t.aAr
 aNv:t.aA7≠t.aA3
 aNu:t.aA7≠t.aAw
 aPc:t.aA7≠t.aA2
 aPf:t.aBp≠t.aAr
 aPh:t.aBp≠t.aA3
 aPg:t.aBp≠t.aAw
 aRm:t.aBp≠t.aA2
 aRl:t.aBp≠t.aA7
 aRj:t.aA8≠t.aBv
 aMe:t.aA8≠t.aAu
 aNy:t.aA8≠t.aAr
 aN0:t.aA8≠t.aA3
 aNz:t.aA8≠t.aAw
 aPe:t.aA8≠t.aA2
 aPd:t.aA8≠t.aA7
 aRk:t.aA8≠t.aBp
section
variable {P:Qx}{w:Zb}{K:Qc}{mg:Str->Option Qd}{base:Heap}{t:Adr}
def aH8:List Str:=["thing","least"]
theorem aUx:aAt aH8 ["thing","least"] (aAk aPv):=by constructor<;>first | rfl | decide+kernel
def aHv (t:Adr):Rho->Option Out:=
  (aAn (aC4 (aO3 (isi "int" (look 0)) (aO3 (bU8 (isi "bool" (look 0))) (b2 gGe (look 0) (look 1)))))
  aAz)
theorem aVg (T:Txt K mg t){k:Nat}{F:List D->M D}(h:OkF 2 aH8 (aHv t) F):Def P w K mg base (k+1) "is_whole" F:=by
 obtain⟨hL,hq⟩:=h;obtain⟨fd,Fu,bi⟩:=T.aAj;refine⟨_,_,_,T.aZx,Fu.kp,bi,hL,aJ2 Fu aUx hL fun cdv A outer s H E hr=>⟨aHv t,fun B=> ?_,hq⟩⟩;refine aAb ?_ ?_;(refine aAs ?_;(refine aIp ?_ ?_;(refine aHm (T:="int") rfl T.aBh rfl T.bUq (by decide+kernel) (by decide) ?_;(exact aAd 0));(refine aIp ?_ ?_;(refine bPg ?_;(refine aHm (T:="bool") rfl T.aBh rfl T.bEx (by decide+kernel) (by decide) ?_;(exact aAd 0)));(refine aLq ?_;(refine bTd ?_ ?_;(exact aAd 0);(exact aAd 1))))));(exact aAh)
def aH9:List Str:=["thing"]
def aJw:List Str:=["?0","part"]
theorem aRo:aJw.Nodup:=by decide+kernel
theorem aUy:aAt aH9 ["thing"] (aAk aPw):=by constructor<;>first | rfl | decide+kernel
def aFh (t:Adr):Rho->Option Out:=
  (aAn (aC4 (aO3 (isi "tuple" (look 0)) (f1 bAd (cmp 1 (itE (look 0)) [1] h1 (fun _=>ok true) (isi "str" (look 1))))))
  aAz)
theorem aVh (T:Txt K mg t){k:Nat}{F:List D->M D}(h:OkF 1 aH9 (aFh t) F):Def P w K mg base (k+1) "is_texts" F:=by
 obtain⟨hL,hq⟩:=h;obtain⟨fd,Fu,bi⟩:=T.aA1;refine⟨_,_,_,T.aZy,Fu.kp,bi,hL,aJ2 Fu aUy hL fun cdv A outer s H E hr=>⟨aFh t,fun B=> ?_,hq⟩⟩;refine aAb ?_ ?_;(refine aAs ?_;(refine aIp ?_ ?_;(refine aHm (T:="tuple") rfl T.aBh rfl T.aDa (by decide+kernel) (by decide) ?_;(exact aAd 0));(refine aLq ?_;(refine aP3 rfl rfl T.bAb ?_;(refine aEt (N':=aJw) (m:=1) (ks:=[1]) rfl rfl rfl rfl (by repeat (first | exact aJo | refine aGu rfl (by first | exact Qw rfl | exact Yt rfl) ?_)) rfl rfl rfl rfl rfl ?_ (fun C s₀ H₀ ex=> ?_) (fun C s₀ H₀ ex B=> ?_) (fun C s₀ H₀ ex B=> ?_);(refine aY5 ?_;(exact aAd 0));(exact aU8 aRo rfl (Qw rfl));(exact aEq);(refine aHm (T:="str") rfl T.aBh rfl T.bUp (by decide+kernel) (by decide) ?_;(exact aAd 1)))))));(exact aAh)
def aDb:List Str:=["things"]
def aHe:List Str:=["?0","ahead","behind"]
theorem aMg:aHe.Nodup:=by decide+kernel
theorem aO5:aAt aDb ["things"] (aAk aJc):=by constructor<;>first | rfl | decide+kernel
def aCa (t:Adr):Rho->Option Out:=
  (aAn (aC4 (f1 bAd (cmp 2 (itZ (look 0) (aPl (look 0) (aFm (con (.int 1))) aGr)) [1,2] h2 (fun _=>ok true) (b2 bSc (look 1) (look 2)))))
  aAz)
theorem aO7 (T:Txt K mg t){k:Nat}{F:List D->M D}(h:OkF 1 aDb (aCa t) F):Def P w K mg base (k+1) "never_falls" F:=by
 obtain⟨hL,hq⟩:=h;obtain⟨fd,Fu,bi⟩:=T.aA0;refine⟨_,_,_,T.aRt,Fu.kp,bi,hL,aJ2 Fu aO5 hL fun cdv A outer s H E hr=>⟨aCa t,fun B=> ?_,hq⟩⟩;refine aAb ?_ ?_;(refine aAs ?_;(refine aP3 rfl rfl T.bAb ?_;(refine aEt (N':=aHe) (m:=2) (ks:=[1,2]) rfl rfl rfl rfl (by repeat (first | exact aJo | refine aGu rfl (by first | exact Qw rfl | exact Yt rfl) ?_)) rfl rfl rfl rfl rfl ?_ (fun C s₀ H₀ ex=> ?_) (fun C s₀ H₀ ex B=> ?_) (fun C s₀ H₀ ex B=> ?_);(refine bB2 rfl T.bRz ?_ ?_;(exact aAd 0);(refine aGp ?_ ?_ ?_;(exact aAd 0);(refine aGn ?_;(exact aAl));(exact aGo)));(exact bPf rfl aMg rfl (Qw rfl) rfl (Qw rfl));(exact aEq);(refine bPi ?_ ?_;(exact aAd 1);(exact aAd 2)))));(exact aAh)
def aCr:List Str:=["things"]
def aGb:List Str:=["?0","ahead","behind"]
theorem aKm:aGb.Nodup:=by decide+kernel
theorem aNd:aAt aCr ["things"] (aAk aIl):=by constructor<;>first | rfl | decide+kernel
def aBz (t:Adr):Rho->Option Out:=
  (aAn (aC4 (f1 bAd (cmp 2 (itZ (look 0) (aPl (look 0) (aFm (con (.int 1))) aGr)) [1,2] h2 (fun _=>ok true) (b2 bSb (look 1) (look 2)))))
  aAz)
theorem aNp (T:Txt K mg t){k:Nat}{F:List D->M D}(h:OkF 1 aCr (aBz t) F):Def P w K mg base (k+1) "always_rises" F:=by
 obtain⟨hL,hq⟩:=h;obtain⟨fd,Fu,bi⟩:=T.aAx;refine⟨_,_,_,T.aPj,Fu.kp,bi,hL,aJ2 Fu aNd hL fun cdv A outer s H E hr=>⟨aBz t,fun B=> ?_,hq⟩⟩;refine aAb ?_ ?_;(refine aAs ?_;(refine aP3 rfl rfl T.bAb ?_;(refine aEt (N':=aGb) (m:=2) (ks:=[1,2]) rfl rfl rfl rfl (by repeat (first | exact aJo | refine aGu rfl (by first | exact Qw rfl | exact Yt rfl) ?_)) rfl rfl rfl rfl rfl ?_ (fun C s₀ H₀ ex=> ?_) (fun C s₀ H₀ ex B=> ?_) (fun C s₀ H₀ ex B=> ?_);(refine bB2 rfl T.bRz ?_ ?_;(exact aAd 0);(refine aGp ?_ ?_ ?_;(exact aAd 0);(refine aGn ?_;(exact aAl));(exact aGo)));(exact bPf rfl aKm rfl (Qw rfl) rfl (Qw rfl));(exact aEq);(refine bPh hr ?_ ?_;(exact aAd 1);(exact aAd 2)))));(exact aAh)
def aE9:List Str:=["self"]
theorem aLz:aAt aE9 ["self"] (aAk aHg):=by constructor<;>first | rfl | decide+kernel
def aDr (t:Adr):Rho->Option Out:=
  (aAn (aEz (cs t) 0 "nought" (mkT aAg))
  (aAn (aEz (cs t) 0 "one" (mkT (aAa (mkT (aAa (mkT aAg) (aAa (con (.int 1)) aAg))) aAg)))
  aAz))
theorem aL5 (T:Txt K mg t){k:Nat}{F:List D->M (List (Str×D))}(h:OkI 1 t.aBv aE9 (aDr t) F):Ctor P w K mg base (k+1) "Sums" t.aBv F:=by
 obtain⟨hL,hq⟩:=h;obtain⟨fd,Fu,bi⟩:=T.aOv;refine⟨_,_,_,T.bQ8,T.bL9,bi,hL,aJq Fu aLz hL fun cdv A outer s H E hr=>⟨aDr t,fun B=> ?_,hq⟩⟩;refine aAb ?_ ?_;(refine aBm (f:="nought") (i:=0) (T.aB9) rfl (Qw rfl) ?_;(refine aBt ?_;(exact aAi)));(refine aAb ?_ ?_;(refine aBm (f:="one") (i:=0) (T.aHc) rfl (Qw rfl) ?_;(refine aBt ?_;(refine aAc ?_ ?_;(refine aBt ?_;(refine aAc ?_ ?_;(refine aBt ?_;(exact aAi));(refine aAc ?_ ?_;(exact aAl);(exact aAi))));(exact aAi))));(exact aAh))
def aD1:List Str:=["self","thing"]
def aGd:List Str:=["?0","?1","part"]
theorem aKo:aGd.Nodup:=by decide+kernel
def aGc:List Str:=["?0","?1","part"]
theorem aKn:aGc.Nodup:=by decide+kernel
theorem aNe:aAt aD1 ["self","thing"] (aAk aIm):=by constructor<;>first | rfl | decide+kernel
def aCs (t:Adr)(aAx:List D->M D)(aDx:List D->M D):Rho->Option Out:=
  (aAn (sIf (orB (aKi (test (isi "tuple" (look 1)))) (aKi (test (f1 bAd (cmp 1 (itE (look 1)) [2] h1 (fun _=>ok true) (app aDx (aAa (look 2) aAg))))))) (aAn (aC4 (con (.bl false)))
  aAz) aAz)
  (aAn (aC4 (app aAx (aAa (cmp 1 (itE (look 1)) [2] h1 (fun _=>ok true) (b2 gIx (look 2) (con (.int 0)))) aAg)))
  aAz))
theorem aNq (T:Txt K mg t){k:Nat}{aAx:List D->M D}(aFx:Def P w K mg base k "always_rises" aAx){aDx:List D->M D}(bAk:Def P w K mg base k "is_entry" aDx){F:List D->M D}(h:OkF 2 aD1 (aCs t aAx aDx) F):Mth P w K mg base (k+1) t.aBv "is_mark" F:=by
 obtain⟨hL,hq⟩:=h;obtain⟨fd,Fu,bi⟩:=T.aPo;refine⟨_,_,_,T.bNd,T.aN4,bi,hL,aJ2 Fu aNe hL fun cdv A outer s H E hr=>⟨aCs t aAx aDx,fun B=> ?_,hq⟩⟩;refine aAb ?_ ?_;(refine aDk ?_ ?_ ?_;(refine PDW.pdt ?_;(refine aS8 ?_ ?_;(refine aE0 ?_;(refine aEd ?_;(refine aHm (T:="tuple") rfl T.aBh rfl T.aDa (by decide+kernel) (by decide) ?_;(exact aAd 1))));(refine aNk ?_;(refine aE0 ?_;(refine aEd ?_;(refine aP3 rfl rfl T.bAb ?_;(refine aEt (N':=aGc) (m:=1) (ks:=[2]) rfl rfl rfl rfl (by repeat (first | exact aJo | refine aGu rfl (by first | exact Qw rfl | exact Yt rfl) ?_)) rfl rfl rfl rfl rfl ?_ (fun C s₀ H₀ ex=> ?_) (fun C s₀ H₀ ex B=> ?_) (fun C s₀ H₀ ex B=> ?_);(refine aY5 ?_;(exact aAd 1));(exact aU8 aKn rfl (Qw rfl));(exact aEq);(refine aAy bAk hr rfl ?_;(refine aAc ?_ ?_;(exact aAd 2);(exact aAi))))))))));(refine aAb ?_ ?_;(refine aAs ?_;(exact aIg));(exact aAh));(exact aAh));(refine aAb ?_ ?_;(refine aAs ?_;(refine aAy aFx hr rfl ?_;(refine aAc ?_ ?_;(refine aEt (N':=aGd) (m:=1) (ks:=[2]) rfl rfl rfl rfl (by repeat (first | exact aJo | refine aGu rfl (by first | exact Qw rfl | exact Yt rfl) ?_)) rfl rfl rfl rfl rfl ?_ (fun C s₀ H₀ ex=> ?_) (fun C s₀ H₀ ex B=> ?_) (fun C s₀ H₀ ex B=> ?_);(refine aY5 ?_;(exact aAd 1));(exact aU8 aKo rfl (Qw rfl));(exact aEq);(refine aJh ?_ ?_ (fun _ _=>rfl);(exact aAd 2);(exact aAl)));(exact aAi))));(exact aAh))
def aIa:List Str:=["thing"]
theorem aUz:aAt aIa ["thing"] (aAk aPx):=by constructor<;>first | rfl | decide+kernel
def aFi (t:Adr)(aA1:List D->M D)(aAj:List D->M D)(aA0:List D->M D):Rho->Option Out:=
  (aAn (sIf (orB (aKi (test (isi "tuple" (look 0)))) (aA9 (b2 gNe (f1 aI3 (look 0)) (con (.int 2))))) (aAn (aC4 (con (.bl false)))
  aAz) aAz)
  (aAn (aC4 (aO3 (app aA1 (aAa (b2 gIx (look 0) (con (.int 0))) aAg)) (aO3 (app aA0 (aAa (b2 gIx (look 0) (con (.int 0))) aAg)) (app aAj (aAa (b2 gIx (look 0) (con (.int 1))) (aAa (con (.int 1)) aAg))))))
  aAz))
theorem aVi (T:Txt K mg t){k:Nat}{aA1:List D->M D}(aGg:Def P w K mg base k "is_texts" aA1){aAj:List D->M D}(aBk:Def P w K mg base k "is_whole" aAj){aA0:List D->M D}(aG2:Def P w K mg base k "never_falls" aA0){F:List D->M D}(h:OkF 1 aIa (aFi t aA1 aAj aA0) F):Def P w K mg base (k+1) "is_entry" F:=by
 obtain⟨hL,hq⟩:=h;obtain⟨fd,Fu,bi⟩:=T.aDx;refine⟨_,_,_,T.aZz,Fu.kp,bi,hL,aJ2 Fu aUz hL fun cdv A outer s H E hr=>⟨aFi t aA1 aAj aA0,fun B=> ?_,hq⟩⟩;refine aAb ?_ ?_;(refine aDk ?_ ?_ ?_;(refine PDW.pdt ?_;(refine aS8 ?_ ?_;(refine aE0 ?_;(refine aEd ?_;(refine aHm (T:="tuple") rfl T.aBh rfl T.aDa (by decide+kernel) (by decide) ?_;(exact aAd 0))));(refine aNk ?_;(refine aW8 ?_ ?_;(refine aLs rfl T.aPm ?_;(exact aAd 0));(exact aAl)))));(refine aAb ?_ ?_;(refine aAs ?_;(exact aIg));(exact aAh));(exact aAh));(refine aAb ?_ ?_;(refine aAs ?_;(refine aIp ?_ ?_;(refine aAy aGg hr rfl ?_;(refine aAc ?_ ?_;(refine aJh ?_ ?_ (fun _ _=>rfl);(exact aAd 0);(exact aAl));(exact aAi)));(refine aIp ?_ ?_;(refine aAy aG2 hr rfl ?_;(refine aAc ?_ ?_;(refine aJh ?_ ?_ (fun _ _=>rfl);(exact aAd 0);(exact aAl));(exact aAi)));(refine aLq ?_;(refine aAy aBk hr rfl ?_;(refine aAc ?_ ?_;(refine aJh ?_ ?_ (fun _ _=>rfl);(exact aAd 0);(exact aAl));(refine aAc ?_ ?_;(exact aAl);(exact aAi))))))));(exact aAh))
def aDd:List Str:=["self"]
theorem aIt:aAt aDd ["self"] (aAk aFd):=by constructor<;>first | rfl | decide+kernel
def aCn (t:Adr):Rho->Option Out:=
  (aAn (aEz (cs t) 0 "nought" (mkT aAg))
  (aAn (aEz (cs t) 0 "one" (mkT (aAa (mkT aAg) aAg)))
  aAz))
theorem aIw (T:Txt K mg t){k:Nat}{F:List D->M (List (Str×D))}(h:OkI 1 t.aAu aDd (aCn t) F):Ctor P w K mg base (k+1) "Reasons" t.aAu F:=by
 obtain⟨hL,hq⟩:=h;obtain⟨fd,Fu,bi⟩:=T.aJ0;refine⟨_,_,_,T.bDw,T.aZe,bi,hL,aJq Fu aIt hL fun cdv A outer s H E hr=>⟨aCn t,fun B=> ?_,hq⟩⟩;refine aAb ?_ ?_;(refine aBm (f:="nought") (i:=0) (T.aB9) rfl (Qw rfl) ?_;(refine aBt ?_;(exact aAi)));(refine aAb ?_ ?_;(refine aBm (f:="one") (i:=0) (T.aHc) rfl (Qw rfl) ?_;(refine aBt ?_;(refine aAc ?_ ?_;(refine aBt ?_;(exact aAi));(exact aAi))));(exact aAh))
def aCl:List Str:=["self","thing"]
def aEo:List Str:=["?0","?1","part"]
theorem aIh:aEo.Nodup:=by decide+kernel
theorem aJa:aAt aCl ["self","thing"] (aAk aF4):=by constructor<;>first | rfl | decide+kernel
def aBy (t:Adr)(aA1:List D->M D)(aDu:List D->M D):Rho->Option Out:=
  (aAn (sIf (orB (aKi (test (isi "tuple" (look 1)))) (aKi (test (f1 bAd (cmp 1 (itE (look 1)) [2] h1 (fun _=>ok true) (app aA1 (aAa (look 2) aAg))))))) (aAn (aC4 (con (.bl false)))
  aAz) aAz)
  (aAn (aC4 (b2 aV1 (app aDu (aAa (f1 toL (look 1)) aAg)) (look 1)))
  aAz))
theorem aJl (T:Txt K mg t){k:Nat}{aA1:List D->M D}(aGg:Def P w K mg base k "is_texts" aA1){aDu:List D->M D}(bAh:Def P w K mg base k "least_of" aDu){F:List D->M D}(h:OkF 2 aCl (aBy t aA1 aDu) F):Mth P w K mg base (k+1) t.aAu "is_mark" F:=by
 obtain⟨hL,hq⟩:=h;obtain⟨fd,Fu,bi⟩:=T.aLf;refine⟨_,_,_,T.aZ6,T.aJn,bi,hL,aJ2 Fu aJa hL fun cdv A outer s H E hr=>⟨aBy t aA1 aDu,fun B=> ?_,hq⟩⟩;refine aAb ?_ ?_;(refine aDk ?_ ?_ ?_;(refine PDW.pdt ?_;(refine aS8 ?_ ?_;(refine aE0 ?_;(refine aEd ?_;(refine aHm (T:="tuple") rfl T.aBh rfl T.aDa (by decide+kernel) (by decide) ?_;(exact aAd 1))));(refine aNk ?_;(refine aE0 ?_;(refine aEd ?_;(refine aP3 rfl rfl T.bAb ?_;(refine aEt (N':=aEo) (m:=1) (ks:=[2]) rfl rfl rfl rfl (by repeat (first | exact aJo | refine aGu rfl (by first | exact Qw rfl | exact Yt rfl) ?_)) rfl rfl rfl rfl rfl ?_ (fun C s₀ H₀ ex=> ?_) (fun C s₀ H₀ ex B=> ?_) (fun C s₀ H₀ ex B=> ?_);(refine aY5 ?_;(exact aAd 1));(exact aU8 aIh rfl (Qw rfl));(exact aEq);(refine aAy aGg hr rfl ?_;(refine aAc ?_ ?_;(exact aAd 2);(exact aAi))))))))));(refine aAb ?_ ?_;(refine aAs ?_;(exact aIg));(exact aAh));(exact aAh));(refine aAb ?_ ?_;(refine aAs ?_;(refine bLj hr ?_ ?_;(refine aAy bAh hr rfl ?_;(refine aAc ?_ ?_;(refine bLf rfl T.bJz ?_;(exact aAd 1));(exact aAi)));(exact aAd 1)));(exact aAh))
def aLa:List Str:=["some","numbers","sets","names"]
def aJv:List Str:=["?0","?1","sets","?3","kept"]
theorem aRn:aJv.Nodup:=by decide+kernel
theorem aGl:aAt aLa ["some"] (aAk aPs):=by constructor<;>first | rfl | decide+kernel
def aHu (t:Adr)(aFc:List D->M D)(aCc:List D->M D)(aCb:List D->M D):Rho->Option Out:=
  (aAn (aC7 1 (app aCb (aAa (look 0) aAg)))
  (aAn (aU1 2)
  (aAn (aGm 0 (gN 3) (aAn (aYx 2 (app aFc (aAa (look 3) (aAa (look 1) aAg))) (look 3))
  aAz))
  (aAn (aC4 (f1 toT (f1 aYq (cmp 1 (itE (app aCc (aAa (f1 aZm (look 2)) aAg))) [4] h1 (fun _=>ok true) (f1 toT (f1 bIs (f1 toS (b2 aV2 (look 2) (look 4)))))))))
  aAz))))
theorem aVc (T:Txt K mg t){k:Nat}{aFc:List D->M D}(bE6:Def P w K mg base k "bits_of" aFc){aCc:List D->M D}(aUf:Def P w K mg base k "least_bits" aCc){aCb:List D->M D}(aUe:Def P w K mg base k "numbers_of" aCb){F:List D->M D}(h:OkF 1 aLa (aHu t aFc aCc aCb) F):Def P w K mg base (k+1) "least_of" F:=by
 obtain⟨hL,hq⟩:=h;obtain⟨fd,Fu,bi⟩:=T.aDu;refine⟨_,_,_,T.aZt,Fu.kp,bi,hL,aJ2 Fu aGl hL fun cdv A outer s H E hr=>⟨aHu t aFc aCc aCb,fun B=> ?_,hq⟩⟩;refine aAb ?_ ?_;(refine aA6 (i:=1) (aGl).nd rfl (Qw rfl) ?_;(refine aAy aUe hr rfl ?_;(refine aAc ?_ ?_;(exact aAd 0);(exact aAi))));(refine aAb ?_ ?_;(exact aW9 (i:=2) (aGl).nd rfl (Yt rfl));(refine aAb ?_ ?_;(refine aJf 0 rfl (Qw rfl) Yi rfl (fun B=> ?_) (fun B=> ?_);(exact aEs (i:=3) (aGl).nd rfl (Qw rfl));(refine aAb ?_ ?_;(refine bGq hr 2 ?_ ?_;(refine aAy bE6 hr rfl ?_;(refine aAc ?_ ?_;(exact aAd 3);(refine aAc ?_ ?_;(exact aAd 1);(exact aAi))));(exact aAd 3));(exact aAh)));(refine aAb ?_ ?_;(refine aAs ?_;(refine aFe rfl T.aDa ?_;(refine aU9 rfl rfl T.aD0 ?_;(refine aEt (N':=aJv) (m:=1) (ks:=[4]) rfl rfl rfl rfl (by repeat (first | exact aJo | refine aGu rfl (by first | exact Qw rfl | exact Yt rfl) ?_)) rfl rfl rfl rfl rfl ?_ (fun C s₀ H₀ ex=> ?_) (fun C s₀ H₀ ex B=> ?_) (fun C s₀ H₀ ex B=> ?_);(refine aY5 ?_;(refine aAy aUf hr rfl ?_;(refine aAc ?_ ?_;(refine bGu (by rfl) rfl T.bJz ?_;(exact aAd 2));(exact aAi))));(exact aU8 aRn rfl (Qw rfl));(exact aEq);(refine aFe rfl T.aDa ?_;(refine aTb rfl rfl T.aD0 ?_;(refine aXc rfl rfl T.bH7 ?_;(refine bCa hr ?_ ?_;(exact aAd 2);(exact aAd 4)))))))));(exact aAh))))
def aHy:List Str:=["some","numbers","names","name"]
theorem aEp:aAt aHy ["some"] (aAk aLl):=by constructor<;>first | rfl | decide+kernel
def aFu (t:Adr):Rho->Option Out:=
  (aAn (aU1 1)
  (aAn (aGm 0 (gN 2) (aAn (aGm 2 (gN 3) (aAn (bOm 1 (look 3) (f1 bR9 (look 1)))
  aAz))
  aAz))
  (aAn (aC4 (look 1))
  aAz)))
theorem aRb (T:Txt K mg t){k:Nat}{F:List D->M D}(h:OkF 1 aHy (aFu t) F):Def P w K mg base (k+1) "numbers_of" F:=by
 obtain⟨hL,hq⟩:=h;obtain⟨fd,Fu,bi⟩:=T.aCb;refine⟨_,_,_,T.aTs,Fu.kp,bi,hL,aJ2 Fu aEp hL fun cdv A outer s H E hr=>⟨aFu t,fun B=> ?_,hq⟩⟩;refine aAb ?_ ?_;(exact aW9 (i:=1) (aEp).nd rfl (Qw rfl));(refine aAb ?_ ?_;(refine aJf 0 rfl (Qw rfl) Yi rfl (fun B=> ?_) (fun B=> ?_);(exact aEs (i:=2) (aEp).nd rfl (Qw rfl));(refine aAb ?_ ?_;(refine aJf 2 rfl (Qw rfl) Yi rfl (fun B=> ?_) (fun B=> ?_);(exact aEs (i:=3) (aEp).nd rfl (Qw rfl));(refine aAb ?_ ?_;(refine bLb (i:=1) rfl (Qw rfl) ?_ ?_;(exact aAd 3);(refine bLh rfl T.aPm ?_;(exact aAd 1)));(exact aAh)));(exact aAh)));(refine aAb ?_ ?_;(refine aAs ?_;(exact aAd 1));(exact aAh)))
def aOu:List Str:=["names","numbers","bits","name"]
theorem aH3:aAt aOu ["names","numbers"] (aAk aS0):=by constructor<;>first | rfl | decide+kernel
def aI1 (t:Adr):Rho->Option Out:=
  (aAn (aC7 2 (con (.int 0)))
  (aAn (aGm 0 (gN 3) (aAn (aC7 2 (b2 bNw (look 2) (b2 bDx (con (.int 1)) (b2 aV2 (look 1) (look 3)))))
  aAz))
  (aAn (aC4 (look 2))
  aAz)))
theorem aZc (T:Txt K mg t){k:Nat}{F:List D->M D}(h:OkF 2 aOu (aI1 t) F):Def P w K mg base (k+1) "bits_of" F:=by
 obtain⟨hL,hq⟩:=h;obtain⟨fd,Fu,bi⟩:=T.aFc;refine⟨_,_,_,T.bDv,Fu.kp,bi,hL,aJ2 Fu aH3 hL fun cdv A outer s H E hr=>⟨aI1 t,fun B=> ?_,hq⟩⟩;refine aAb ?_ ?_;(refine aA6 (i:=2) (aH3).nd rfl (Qw rfl) ?_;(exact aAl));(refine aAb ?_ ?_;(refine aJf 0 rfl (Qw rfl) Yi rfl (fun B=> ?_) (fun B=> ?_);(exact aEs (i:=3) (aH3).nd rfl (Qw rfl));(refine aAb ?_ ?_;(refine aA6 (i:=2) (aH3).nd rfl (Qw rfl) ?_;(refine bPk ?_ ?_;(exact aAd 2);(refine bI6 ?_ ?_;(exact aAl);(refine bCa hr ?_ ?_;(exact aAd 1);(exact aAd 3)))));(exact aAh)));(refine aAb ?_ ?_;(refine aAs ?_;(exact aAd 2));(exact aAh)))
def aHz:List Str:=["sets","kept","one","least","top"]
theorem aC5:aAt aHz ["sets"] (aAk aLm):=by constructor<;>first | rfl | decide+kernel
def aFv (t:Adr)(aCe:List D->M D):Rho->Option Out:=
  (aAn (bBj 1)
  (aAn (aS2 (look 0) (gN 2) (aAn (sIf (aKi (test (app aCe (aAa (look 1) (aAa (look 2) aAg))))) (aAn (bFb 1 (f1 aT8 (look 2)) (aAa (look 2) aAg))
  aAz) aAz)
  aAz))
  (aAn (sNew 3 aAg)
  (aAn (aYy 1 (gN 4) (aAn (aYz 3 (aAa (b2 aV2 (look 1) (look 4)) aAg))
  aAz))
  (aAn (aC4 (look 3))
  aAz)))))
theorem aRc (T:Txt K mg t){k:Nat}{aCe:List D->M D}(aUh:Def P w K mg base k "has_within" aCe){F:List D->M D}(h:OkF 1 aHz (aFv t aCe) F):Def P w K mg base (k+1) "least_bits" F:=by
 obtain⟨hL,hq⟩:=h;obtain⟨fd,Fu,bi⟩:=T.aCc;refine⟨_,_,_,T.aTt,Fu.kp,bi,hL,aJ2 Fu aC5 hL fun cdv A outer s H E hr=>⟨aFv t aCe,fun B=> ?_,hq⟩⟩;refine aAb ?_ ?_;(exact bGs (i:=1) (aC5).nd rfl (Qw rfl));(refine aAb ?_ ?_;(refine bB8 rfl T.aD0 Yi rfl ?_ (fun B=> ?_) (fun B=> ?_);(exact aAd 0);(exact aEs (i:=2) (aC5).nd rfl (Qw rfl));(refine aAb ?_ ?_;(refine aDk ?_ ?_ ?_;(refine aE0 ?_;(refine aEd ?_;(refine aAy aUh hr rfl ?_;(refine aAc ?_ ?_;(exact aAd 1);(refine aAc ?_ ?_;(exact aAd 2);(exact aAi))))));(refine aAb ?_ ?_;(refine bLc (i:=1) rfl (Qw rfl) ?_ ?_;(refine bCb ?_;(exact aAd 2));(exact aAd 2));(exact aAh));(exact aAh));(exact aAh)));(refine aAb ?_ ?_;(refine bB7 (i:=3) (aC5).nd rfl (Qw rfl) ?_;(exact aAi));(refine aAb ?_ ?_;(refine bGt 1 rfl (Qw rfl) Yi rfl (fun B=> ?_) (fun B=> ?_);(exact aEs (i:=4) (aC5).nd rfl (Qw rfl));(refine aAb ?_ ?_;(refine aU7 (i:=3) rfl (Qw rfl) ?_;(refine bCa hr ?_ ?_;(exact aAd 1);(exact aAd 4)));(exact aAh)));(refine aAb ?_ ?_;(refine aAs ?_;(exact aAd 3));(exact aAh)))))
def aH0:List Str:=["kept","one","rest","top","other"]
theorem aC6:aAt aH0 ["kept","one"] (aAk aLn):=by constructor<;>first | rfl | decide+kernel
def aFw (t:Adr):Rho->Option Out:=
  (aAn (sIf (aA9 (b2 (bFe false) (con (.int 0)) (look 0))) (aAn (aC4 (con (.bl true)))
  aAz) aAz)
  (aAn (aC7 2 (look 1))
  (aAn (aPy (aA9 (b2 gGt (look 2) (con (.int 0)))) (aAn (aC7 3 (f1 aT8 (look 2)))
  (aAn (aL4 (getL (look 0) (look 3)) (gN 4) (aAn (sIf (aA9 (b2 gEq (b2 aV3 (look 4) (look 1)) (look 4))) (aAn (aC4 (con (.bl true)))
  aAz) aAz)
  aAz))
  (aAn (aC7 2 (b2 aM2 (look 2) (b2 bDx (con (.int 1)) (b2 aM2 (look 3) (con (.int 1))))))
  aAz))))
  (aAn (aC4 (con (.bl false)))
  aAz))))
theorem aRe (T:Txt K mg t){k:Nat}{F:List D->M D}(h:OkF 2 aH0 (aFw t) F):Def P w K mg base (k+1) "has_within" F:=by
 obtain⟨hL,hq⟩:=h;obtain⟨fd,Fu,bi⟩:=T.aCe;refine⟨_,_,_,T.aTv,Fu.kp,bi,hL,aJ2 Fu aC6 hL fun cdv A outer s H E hr=>⟨aFw t,fun B=> ?_,hq⟩⟩;refine aAb ?_ ?_;(refine aDk ?_ ?_ ?_;(refine bLa hr ?_ ?_;(exact aAl);(exact aAd 0));(refine aAb ?_ ?_;(refine aAs ?_;(exact aIg));(exact aAh));(exact aAh));(refine aAb ?_ ?_;(refine aA6 (i:=2) (aC6).nd rfl (Qw rfl) ?_;(exact aAd 1));(refine aAb ?_ ?_;(refine bB6 Yi ?_ ?_;(refine bI5 ?_ ?_;(exact aAd 2);(exact aAl));(refine aAb ?_ ?_;(refine aA6 (i:=3) (aC6).nd rfl (Qw rfl) ?_;(refine bCb ?_;(exact aAd 2)));(refine aAb ?_ ?_;(refine aXa Yi rfl ?_ (fun B=> ?_) (fun B=> ?_);(refine bLi hr ?_ ?_;(exact aAd 0);(exact aAd 3));(exact aEs (i:=4) (aC6).nd rfl (Qw rfl));(refine aAb ?_ ?_;(refine aDk ?_ ?_ ?_;(refine bB5 ?_ ?_;(refine bLl ?_ ?_;(exact aAd 4);(exact aAd 1));(exact aAd 4));(refine aAb ?_ ?_;(refine aAs ?_;(exact aIg));(exact aAh));(exact aAh));(exact aAh)));(refine aAb ?_ ?_;(refine aA6 (i:=2) (aC6).nd rfl (Qw rfl) ?_;(refine aLp ?_ ?_;(exact aAd 2);(refine bI6 ?_ ?_;(exact aAl);(refine aLp ?_ ?_;(exact aAd 3);(exact aAl)))));(exact aAh)))));(refine aAb ?_ ?_;(refine aAs ?_;(exact aIg));(exact aAh))))
def aDs:List Str:=["self"]
theorem aI8:aAt aDs ["self"] (aAk aF2):=by constructor<;>first | rfl | decide+kernel
def aC1 (t:Adr):Rho->Option Out:=
  (aAn (aEz (cs t) 0 "nought" (con (.bl false)))
  (aAn (aEz (cs t) 0 "one" (con (.bl true)))
  aAz))
theorem aJj (T:Txt K mg t){k:Nat}{F:List D->M (List (Str×D))}(h:OkI 1 t.aAr aDs (aC1 t) F):Ctor P w K mg base (k+1) "Truths" t.aAr F:=by
 obtain⟨hL,hq⟩:=h;obtain⟨fd,Fu,bi⟩:=T.aLd;refine⟨_,_,_,T.bHn,T.bCp,bi,hL,aJq Fu aI8 hL fun cdv A outer s H E hr=>⟨aC1 t,fun B=> ?_,hq⟩⟩;refine aAb ?_ ?_;(refine aBm (f:="nought") (i:=0) (T.aB9) rfl (Qw rfl) ?_;(exact aIg));(refine aAb ?_ ?_;(refine aBm (f:="one") (i:=0) (T.aHc) rfl (Qw rfl) ?_;(exact aIg));(exact aAh))
def aCu:List Str:=["self","thing"]
theorem aJ4:aAt aCu ["self","thing"] (aAk aG5):=by constructor<;>first | rfl | decide+kernel
def aB3 (t:Adr):Rho->Option Out:=
  (aAn (aC4 (isi "bool" (look 1)))
  aAz)
theorem aKc (T:Txt K mg t){k:Nat}{F:List D->M D}(h:OkF 2 aCu (aB3 t) F):Mth P w K mg base (k+1) t.aAr "is_mark" F:=by
 obtain⟨hL,hq⟩:=h;obtain⟨fd,Fu,bi⟩:=T.aMm;refine⟨_,_,_,T.bEj,T.aKr,bi,hL,aJ2 Fu aJ4 hL fun cdv A outer s H E hr=>⟨aB3 t,fun B=> ?_,hq⟩⟩;refine aAb ?_ ?_;(refine aAs ?_;(refine aHm (T:="bool") rfl T.aBh rfl T.bEx (by decide+kernel) (by decide) ?_;(exact aAd 1)));(exact aAh)
def aDt:List Str:=["self"]
theorem aJb:aAt aDt ["self"] (aAk aF5):=by constructor<;>first | rfl | decide+kernel
def aC2 (t:Adr):Rho->Option Out:=
  (aAn (aEz (cs t) 0 "nought" (con (.int 0)))
  (aAn (aEz (cs t) 0 "one" (con (.int 1)))
  aAz))
theorem aJm (T:Txt K mg t){k:Nat}{F:List D->M (List (Str×D))}(h:OkI 1 t.aA3 aDt (aC2 t) F):Ctor P w K mg base (k+1) "Counts" t.aA3 F:=by
 obtain⟨hL,hq⟩:=h;obtain⟨fd,Fu,bi⟩:=T.aLg;refine⟨_,_,_,T.bHp,T.bCr,bi,hL,aJq Fu aJb hL fun cdv A outer s H E hr=>⟨aC2 t,fun B=> ?_,hq⟩⟩;refine aAb ?_ ?_;(refine aBm (f:="nought") (i:=0) (T.aB9) rfl (Qw rfl) ?_;(exact aAl));(refine aAb ?_ ?_;(refine aBm (f:="one") (i:=0) (T.aHc) rfl (Qw rfl) ?_;(exact aAl));(exact aAh))
def aCy:List Str:=["self","thing"]
theorem aJ8:aAt aCy ["self","thing"] (aAk aG9):=by constructor<;>first | rfl | decide+kernel
def aB7 (t:Adr)(aAj:List D->M D):Rho->Option Out:=
  (aAn (aC4 (app aAj (aAa (look 1) (aAa (con (.int 0)) aAg))))
  aAz)
theorem aKg (T:Txt K mg t){k:Nat}{aAj:List D->M D}(aBk:Def P w K mg base k "is_whole" aAj){F:List D->M D}(h:OkF 2 aCy (aB7 t aAj) F):Mth P w K mg base (k+1) t.aA3 "is_mark" F:=by
 obtain⟨hL,hq⟩:=h;obtain⟨fd,Fu,bi⟩:=T.aMq;refine⟨_,_,_,T.bEl,T.aKt,bi,hL,aJ2 Fu aJ8 hL fun cdv A outer s H E hr=>⟨aB7 t aAj,fun B=> ?_,hq⟩⟩;refine aAb ?_ ?_;(refine aAs ?_;(refine aAy aBk hr rfl ?_;(refine aAc ?_ ?_;(exact aAd 1);(refine aAc ?_ ?_;(exact aAl);(exact aAi)))));(exact aAh)
def aCk:List Str:=["self","many"]
theorem aI9:aAt aCk ["self","many"] (aAk aF3):=by constructor<;>first | rfl | decide+kernel
def aBx (t:Adr)(aAj:List D->M D):Rho->Option Out:=
  (aAn (sIf (aKi (test (app aAj (aAa (look 1) (aAa (con (.int 2)) aAg))))) (fun _=>none) aAz)
  (aAn (aS3 (cs t) 0 "many" 1)
  (aAn (aEz (cs t) 0 "nought" (con (.int 0)))
  (aAn (aEz (cs t) 0 "one" (con (.int 1)))
  aAz))))
theorem aJk (T:Txt K mg t){k:Nat}{aAj:List D->M D}(aBk:Def P w K mg base k "is_whole" aAj){F:List D->M (List (Str×D))}(h:OkI 2 t.aAw aCk (aBx t aAj) F):Ctor P w K mg base (k+1) "Rounds" t.aAw F:=by
 obtain⟨hL,hq⟩:=h;obtain⟨fd,Fu,bi⟩:=T.aLe;refine⟨_,_,_,T.bHo,T.bCq,bi,hL,aJq Fu aI9 hL fun cdv A outer s H E hr=>⟨aBx t aAj,fun B=> ?_,hq⟩⟩;refine aAb ?_ ?_;(refine aDk ?_ ?_ ?_;(refine aE0 ?_;(refine aEd ?_;(refine aAy aBk hr rfl ?_;(refine aAc ?_ ?_;(exact aAd 1);(refine aAc ?_ ?_;(exact aAl);(exact aAi))))));(exact aTa);(exact aAh));(refine aAb ?_ ?_;(exact aMu (f:="many") (i:=0) (j:=1) (T.aRg) rfl (Qw rfl) rfl (Qw rfl));(refine aAb ?_ ?_;(refine aBm (f:="nought") (i:=0) (T.aB9) rfl (Qw rfl) ?_;(exact aAl));(refine aAb ?_ ?_;(refine aBm (f:="one") (i:=0) (T.aHc) rfl (Qw rfl) ?_;(exact aAl));(exact aAh))))
def aCw:List Str:=["self","thing"]
theorem aJ6:aAt aCw ["self","thing"] (aAk aG7):=by constructor<;>first | rfl | decide+kernel
def aB5 (t:Adr)(aAj:List D->M D):Rho->Option Out:=
  (aAn (aC4 (aO3 (app aAj (aAa (look 1) (aAa (con (.int 0)) aAg))) (b2 gLt (look 1) (fld (cs t) "many" (look 0)))))
  aAz)
theorem aKe (T:Txt K mg t){k:Nat}{aAj:List D->M D}(aBk:Def P w K mg base k "is_whole" aAj){F:List D->M D}(h:OkF 2 aCw (aB5 t aAj) F):Mth P w K mg base (k+1) t.aAw "is_mark" F:=by
 obtain⟨hL,hq⟩:=h;obtain⟨fd,Fu,bi⟩:=T.aMo;refine⟨_,_,_,T.bEk,T.aKs,bi,hL,aJ2 Fu aJ6 hL fun cdv A outer s H E hr=>⟨aB5 t aAj,fun B=> ?_,hq⟩⟩;refine aAb ?_ ?_;(refine aAs ?_;(refine aIp ?_ ?_;(refine aAy aBk hr rfl ?_;(refine aAc ?_ ?_;(exact aAd 1);(refine aAc ?_ ?_;(exact aAl);(exact aAi))));(refine aLq ?_;(refine bTb ?_ ?_;(exact aAd 1);(refine aJi (f:="many") (T.aRg) ?_;(exact aAd 0))))));(exact aAh)
def aEm:List Str:=["self"]
theorem aJ9:aAt aEm ["self"] (aAk aHa):=by constructor<;>first | rfl | decide+kernel
def aC9 (t:Adr):Rho->Option Out:=
  (aAn (aEz (cs t) 0 "nought" (con .non))
  (aAn (aEz (cs t) 0 "one" (con (.int 0)))
  aAz))
theorem aKh (T:Txt K mg t){k:Nat}{F:List D->M (List (Str×D))}(h:OkI 1 t.aA2 aEm (aC9 t) F):Ctor P w K mg base (k+1) "Costs" t.aA2 F:=by
 obtain⟨hL,hq⟩:=h;obtain⟨fd,Fu,bi⟩:=T.aMr;refine⟨_,_,_,T.bM3,T.bG8,bi,hL,aJq Fu aJ9 hL fun cdv A outer s H E hr=>⟨aC9 t,fun B=> ?_,hq⟩⟩;refine aAb ?_ ?_;(refine aBm (f:="nought") (i:=0) (T.aB9) rfl (Qw rfl) ?_;(exact aTd));(refine aAb ?_ ?_;(refine aBm (f:="one") (i:=0) (T.aHc) rfl (Qw rfl) ?_;(exact aAl));(exact aAh))
def aDg:List Str:=["self","thing"]
theorem aL3:aAt aDg ["self","thing"] (aAk aHk):=by constructor<;>first | rfl | decide+kernel
def aCj (t:Adr)(aAj:List D->M D):Rho->Option Out:=
  (aAn (aC4 (orV (b2 gIs (look 1) (con .non)) (app aAj (aAa (look 1) (aAa (con (.int 0)) aAg)))))
  aAz)
theorem aL9 (T:Txt K mg t){k:Nat}{aAj:List D->M D}(aBk:Def P w K mg base k "is_whole" aAj){F:List D->M D}(h:OkF 2 aDg (aCj t aAj) F):Mth P w K mg base (k+1) t.aA2 "is_mark" F:=by
 obtain⟨hL,hq⟩:=h;obtain⟨fd,Fu,bi⟩:=T.aO1;refine⟨_,_,_,T.bH2,T.aMj,bi,hL,aJ2 Fu aL3 hL fun cdv A outer s H E hr=>⟨aCj t aAj,fun B=> ?_,hq⟩⟩;refine aAb ?_ ?_;(refine aAs ?_;(refine bTa ?_ ?_;(refine bTc ?_ ?_;(exact aAd 1);(exact aTd));(refine aLq ?_;(refine aAy aBk hr rfl ?_;(refine aAc ?_ ?_;(exact aAd 1);(refine aAc ?_ ?_;(exact aAl);(exact aAi)))))));(exact aAh)
def aCv:List Str:=["self","people"]
theorem aJ5:aAt aCv ["self","people"] (aAk aG6):=by constructor<;>first | rfl | decide+kernel
def aB4 (t:Adr):Rho->Option Out:=
  (aAn (aEz (cs t) 0 "nought" (mkT aAg))
  (aAn (aEz (cs t) 0 "one" (f1 toT (f1 bIs (f1 toS (look 1)))))
  aAz))
theorem aKd (T:Txt K mg t){k:Nat}{F:List D->M (List (Str×D))}(h:OkI 2 t.aA7 aCv (aB4 t) F):Ctor P w K mg base (k+1) "Seers" t.aA7 F:=by
 obtain⟨hL,hq⟩:=h;obtain⟨fd,Fu,bi⟩:=T.aMn;refine⟨_,_,_,T.bM1,T.bG6,bi,hL,aJq Fu aJ5 hL fun cdv A outer s H E hr=>⟨aB4 t,fun B=> ?_,hq⟩⟩;refine aAb ?_ ?_;(refine aBm (f:="nought") (i:=0) (T.aB9) rfl (Qw rfl) ?_;(refine aBt ?_;(exact aAi)));(refine aAb ?_ ?_;(refine aBm (f:="one") (i:=0) (T.aHc) rfl (Qw rfl) ?_;(refine aFe rfl T.aDa ?_;(refine aTb rfl rfl T.aD0 ?_;(refine aXc rfl rfl T.bH7 ?_;(exact aAd 1)))));(exact aAh))
def aDc:List Str:=["self","thing"]
theorem aL0:aAt aDc ["self","thing"] (aAk aHh):=by constructor<;>first | rfl | decide+kernel
def aCg (t:Adr)(aAx:List D->M D)(aA1:List D->M D):Rho->Option Out:=
  (aAn (aC4 (aO3 (app aA1 (aAa (look 1) aAg)) (aO3 (app aAx (aAa (look 1) aAg)) (b2 gEq (f1 bQc (b2 aV0 (f1 toS (look 1)) (f1 toS (fld (cs t) "one" (look 0))))) (con (.int 0))))))
  aAz)
theorem aL6 (T:Txt K mg t){k:Nat}{aAx:List D->M D}(aFx:Def P w K mg base k "always_rises" aAx){aA1:List D->M D}(aGg:Def P w K mg base k "is_texts" aA1){F:List D->M D}(h:OkF 2 aDc (aCg t aAx aA1) F):Mth P w K mg base (k+1) t.aA7 "is_mark" F:=by
 obtain⟨hL,hq⟩:=h;obtain⟨fd,Fu,bi⟩:=T.aOw;refine⟨_,_,_,T.bH0,T.aMh,bi,hL,aJ2 Fu aL0 hL fun cdv A outer s H E hr=>⟨aCg t aAx aA1,fun B=> ?_,hq⟩⟩;refine aAb ?_ ?_;(refine aAs ?_;(refine aIp ?_ ?_;(refine aAy aGg hr rfl ?_;(refine aAc ?_ ?_;(exact aAd 1);(exact aAi)));(refine aIp ?_ ?_;(refine aAy aFx hr rfl ?_;(refine aAc ?_ ?_;(exact aAd 1);(exact aAi)));(refine aLq ?_;(refine bPj ?_ ?_;(refine bLg rfl T.aPm ?_;(refine bLe ?_ ?_;(refine aXc rfl rfl T.bH7 ?_;(exact aAd 1));(refine aXc rfl rfl T.bH7 ?_;(refine aJi (f:="one") (T.aHc) ?_;(exact aAd 0)))));(exact aAl))))));(exact aAh)
def aDf:List Str:=["self","many"]
theorem aL2:aAt aDf ["self","many"] (aAk aHj):=by constructor<;>first | rfl | decide+kernel
def aCi (t:Adr)(aAj:List D->M D):Rho->Option Out:=
  (aAn (sIf (aKi (test (app aAj (aAa (look 1) (aAa (con (.int 1)) aAg))))) (fun _=>none) aAz)
  (aAn (aS3 (cs t) 0 "many" 1)
  (aAn (aEz (cs t) 0 "nought" (mkT aAg))
  (aAn (aEz (cs t) 0 "one" (mkT (aAa (con (.int 0)) aAg)))
  aAz))))
theorem aL8 (T:Txt K mg t){k:Nat}{aAj:List D->M D}(aBk:Def P w K mg base k "is_whole" aAj){F:List D->M (List (Str×D))}(h:OkI 2 t.aBp aDf (aCi t aAj) F):Ctor P w K mg base (k+1) "Lows" t.aBp F:=by
 obtain⟨hL,hq⟩:=h;obtain⟨fd,Fu,bi⟩:=T.aO0;refine⟨_,_,_,T.bQ9,T.bMa,bi,hL,aJq Fu aL2 hL fun cdv A outer s H E hr=>⟨aCi t aAj,fun B=> ?_,hq⟩⟩;refine aAb ?_ ?_;(refine aDk ?_ ?_ ?_;(refine aE0 ?_;(refine aEd ?_;(refine aAy aBk hr rfl ?_;(refine aAc ?_ ?_;(exact aAd 1);(refine aAc ?_ ?_;(exact aAl);(exact aAi))))));(exact aTa);(exact aAh));(refine aAb ?_ ?_;(exact aMu (f:="many") (i:=0) (j:=1) (T.aRg) rfl (Qw rfl) rfl (Qw rfl));(refine aAb ?_ ?_;(refine aBm (f:="nought") (i:=0) (T.aB9) rfl (Qw rfl) ?_;(refine aBt ?_;(exact aAi)));(refine aAb ?_ ?_;(refine aBm (f:="one") (i:=0) (T.aHc) rfl (Qw rfl) ?_;(refine aBt ?_;(refine aAc ?_ ?_;(exact aAl);(exact aAi))));(exact aAh))))
def aD2:List Str:=["self","thing"]
def aGe:List Str:=["?0","?1","low"]
theorem aKp:aGe.Nodup:=by decide+kernel
theorem aNf:aAt aD2 ["self","thing"] (aAk aIn):=by constructor<;>first | rfl | decide+kernel
def aCt (t:Adr)(aAj:List D->M D)(aA0:List D->M D):Rho->Option Out:=
  (aAn (sIf (orB (aKi (test (isi "tuple" (look 1)))) (aA9 (b2 gGt (f1 aI3 (look 1)) (fld (cs t) "many" (look 0))))) (aAn (aC4 (con (.bl false)))
  aAz) aAz)
  (aAn (aC4 (aO3 (f1 bAd (cmp 1 (itE (look 1)) [2] h1 (fun _=>ok true) (app aAj (aAa (look 2) (aAa (con (.int 0)) aAg))))) (app aA0 (aAa (look 1) aAg))))
  aAz))
theorem aNr (T:Txt K mg t){k:Nat}{aAj:List D->M D}(aBk:Def P w K mg base k "is_whole" aAj){aA0:List D->M D}(aG2:Def P w K mg base k "never_falls" aA0){F:List D->M D}(h:OkF 2 aD2 (aCt t aAj aA0) F):Mth P w K mg base (k+1) t.aBp "is_mark" F:=by
 obtain⟨hL,hq⟩:=h;obtain⟨fd,Fu,bi⟩:=T.aPp;refine⟨_,_,_,T.bNe,T.aN5,bi,hL,aJ2 Fu aNf hL fun cdv A outer s H E hr=>⟨aCt t aAj aA0,fun B=> ?_,hq⟩⟩;refine aAb ?_ ?_;(refine aDk ?_ ?_ ?_;(refine PDW.pdt ?_;(refine aS8 ?_ ?_;(refine aE0 ?_;(refine aEd ?_;(refine aHm (T:="tuple") rfl T.aBh rfl T.aDa (by decide+kernel) (by decide) ?_;(exact aAd 1))));(refine aNk ?_;(refine bI5 ?_ ?_;(refine aLs rfl T.aPm ?_;(exact aAd 1));(refine aJi (f:="many") (T.aRg) ?_;(exact aAd 0))))));(refine aAb ?_ ?_;(refine aAs ?_;(exact aIg));(exact aAh));(exact aAh));(refine aAb ?_ ?_;(refine aAs ?_;(refine aIp ?_ ?_;(refine aP3 rfl rfl T.bAb ?_;(refine aEt (N':=aGe) (m:=1) (ks:=[2]) rfl rfl rfl rfl (by repeat (first | exact aJo | refine aGu rfl (by first | exact Qw rfl | exact Yt rfl) ?_)) rfl rfl rfl rfl rfl ?_ (fun C s₀ H₀ ex=> ?_) (fun C s₀ H₀ ex B=> ?_) (fun C s₀ H₀ ex B=> ?_);(refine aY5 ?_;(exact aAd 1));(exact aU8 aKp rfl (Qw rfl));(exact aEq);(refine aAy aBk hr rfl ?_;(refine aAc ?_ ?_;(exact aAd 2);(refine aAc ?_ ?_;(exact aAl);(exact aAi))))));(refine aLq ?_;(refine aAy aG2 hr rfl ?_;(refine aAc ?_ ?_;(exact aAd 1);(exact aAi))))));(exact aAh))
def aCx:List Str:=["self","left","right"]
theorem aJ7:aAt aCx ["self","left","right"] (aAk aG8):=by constructor<;>first | rfl | decide+kernel
def aB6 (t:Adr):Rho->Option Out:=
  (aAn (aS3 (cs t) 0 "left" 1)
  (aAn (aS3 (cs t) 0 "right" 2)
  (aAn (aEz (cs t) 0 "nought" (mkT (aAa (fld (cs t) "nought" (look 1)) (aAa (fld (cs t) "nought" (look 2)) aAg))))
  (aAn (aEz (cs t) 0 "one" (mkT (aAa (fld (cs t) "one" (look 1)) (aAa (fld (cs t) "one" (look 2)) aAg))))
  aAz))))
theorem aKf (T:Txt K mg t){k:Nat}{F:List D->M (List (Str×D))}(h:OkI 3 t.aA8 aCx (aB6 t) F):Ctor P w K mg base (k+1) "Pairs" t.aA8 F:=by
 obtain⟨hL,hq⟩:=h;obtain⟨fd,Fu,bi⟩:=T.aMp;refine⟨_,_,_,T.bM2,T.bG7,bi,hL,aJq Fu aJ7 hL fun cdv A outer s H E hr=>⟨aB6 t,fun B=> ?_,hq⟩⟩;refine aAb ?_ ?_;(exact aMu (f:="left") (i:=0) (j:=1) (T.bCo) rfl (Qw rfl) rfl (Qw rfl));(refine aAb ?_ ?_;(exact aMu (f:="right") (i:=0) (j:=2) (T.aXm) rfl (Qw rfl) rfl (Qw rfl));(refine aAb ?_ ?_;(refine aBm (f:="nought") (i:=0) (T.aB9) rfl (Qw rfl) ?_;(refine aBt ?_;(refine aAc ?_ ?_;(refine aJi (f:="nought") (T.aB9) ?_;(exact aAd 1));(refine aAc ?_ ?_;(refine aJi (f:="nought") (T.aB9) ?_;(exact aAd 2));(exact aAi)))));(refine aAb ?_ ?_;(refine aBm (f:="one") (i:=0) (T.aHc) rfl (Qw rfl) ?_;(refine aBt ?_;(refine aAc ?_ ?_;(refine aJi (f:="one") (T.aHc) ?_;(exact aAd 1));(refine aAc ?_ ?_;(refine aJi (f:="one") (T.aHc) ?_;(exact aAd 2));(exact aAi)))));(exact aAh))))
def aDe:List Str:=["self","thing"]
theorem aL1:aAt aDe ["self","thing"] (aAk aHi):=by constructor<;>first | rfl | decide+kernel
def aCh (t:Adr)(aB1:Addr->Option (List D->M D)):Rho->Option Out:=
  (aAn (sIf (orB (aKi (test (isi "tuple" (look 1)))) (aA9 (b2 gNe (f1 aI3 (look 1)) (con (.int 2))))) (aAn (aC4 (con (.bl false)))
  aAz) aAz)
  (aAn (aC4 (aO3 (bJ0 "is_mark" aB1 (fld (cs t) "left" (look 0)) (aAa (b2 gIx (look 1) (con (.int 0))) aAg)) (bJ0 "is_mark" aB1 (fld (cs t) "right" (look 0)) (aAa (b2 gIx (look 1) (con (.int 1))) aAg))))
  aAz))
theorem aL7 (T:Txt K mg t){k:Nat}{aB1:Addr->Option (List D->M D)}(aIc: ∀C F,aB1 C=some F->Mth P w K mg base k C "is_mark" F){F:List D->M D}(h:OkF 2 aDe (aCh t aB1) F):Mth P w K mg base (k+1) t.aA8 "is_mark" F:=by
 obtain⟨hL,hq⟩:=h;obtain⟨fd,Fu,bi⟩:=T.aOy;refine⟨_,_,_,T.bH1,T.aMi,bi,hL,aJ2 Fu aL1 hL fun cdv A outer s H E hr=>⟨aCh t aB1,fun B=> ?_,hq⟩⟩;refine aAb ?_ ?_;(refine aDk ?_ ?_ ?_;(refine PDW.pdt ?_;(refine aS8 ?_ ?_;(refine aE0 ?_;(refine aEd ?_;(refine aHm (T:="tuple") rfl T.aBh rfl T.aDa (by decide+kernel) (by decide) ?_;(exact aAd 1))));(refine aNk ?_;(refine aW8 ?_ ?_;(refine aLs rfl T.aPm ?_;(exact aAd 1));(exact aAl)))));(refine aAb ?_ ?_;(refine aAs ?_;(exact aIg));(exact aAh));(exact aAh));(refine aAb ?_ ?_;(refine aAs ?_;(refine aIp ?_ ?_;(refine aVa aIc hr ?_ ?_;(refine aJi (f:="left") (T.bCo) ?_;(exact aAd 0));(refine aAc ?_ ?_;(refine aJh ?_ ?_ (fun _ _=>rfl);(exact aAd 1);(exact aAl));(exact aAi)));(refine aLq ?_;(refine aVa aIc hr ?_ ?_;(refine aJi (f:="right") (T.aXm) ?_;(exact aAd 0));(refine aAc ?_ ?_;(refine aJh ?_ ?_ (fun _ _=>rfl);(exact aAd 1);(exact aAl));(exact aAi))))));(exact aAh))
def aSb:List Str:=["_law_script","_law_k"]
theorem bBh:aAt aSb ["_law_script","_law_k"] (aAk aWz):=by constructor<;>first | rfl | decide+kernel
def aQi (t:Adr):Rho->Option Out:=
  (aAn (sIf (aA9 (b2 gLt (look 1) (f1 aI3 (look 0)))) (aAn (aC4 (b2 gIx (look 0) (look 1)))
  aAz) aAz)
  (aAn (aC4 (con (.int 0)))
  aAz))
theorem bCi (T:Txt K mg t){k:Nat}{F:List D->M D}(h:OkF 2 aSb (aQi t) F):Def P w K mg base (k+1) "_law_at" F:=by
 obtain⟨hL,hq⟩:=h;obtain⟨fd,Fu,bi⟩:=T.aCz;refine⟨_,_,_,T.bHm,Fu.kp,bi,hL,aJ2 Fu bBh hL fun cdv A outer s H E hr=>⟨aQi t,fun B=> ?_,hq⟩⟩;refine aAb ?_ ?_;(refine aDk ?_ ?_ ?_;(refine bI4 ?_ ?_;(exact aAd 1);(refine aLs rfl T.aPm ?_;(exact aAd 0)));(refine aAb ?_ ?_;(refine aAs ?_;(refine aJh ?_ ?_ (fun _ _=>rfl);(exact aAd 0);(exact aAd 1)));(exact aAh));(exact aAh));(refine aAb ?_ ?_;(refine aAs ?_;(exact aAl));(exact aAh))
def aJy:List Str:=["_law_cell"]
theorem aYw:aAt aJy ["_law_cell"] (aAk aSz):=by constructor<;>first | rfl | decide+kernel
def aGy (t:Adr):Rho->Option Out:=
  (aAn (aC4 (b2 aEa (b2 aEn (b2 aA4 (b2 aEa (look 0) (b2 aOn (con (.int 10)) (con (.int 9)))) (con (.int 1))) (con (.int 2862933555777941757))) (b2 aA4 (b2 aOn (con (.int 10)) (con (.int 24))) (con (.int 7)))))
  aAz)
theorem aZb (T:Txt K mg t){k:Nat}{F:List D->M D}(h:OkF 1 aJy (aGy t) F):Def P w K mg base (k+1) "_law_mix" F:=by
 obtain⟨hL,hq⟩:=h;obtain⟨fd,Fu,bi⟩:=T.aFb;refine⟨_,_,_,T.bDu,Fu.kp,bi,hL,aJ2 Fu aYw hL fun cdv A outer s H E hr=>⟨aGy t,fun B=> ?_,hq⟩⟩;refine aAb ?_ ?_;(refine aAs ?_;(refine aD6 ?_ ?_;(refine aQ6 ?_ ?_;(refine aBi ?_ ?_;(refine aD6 ?_ ?_;(exact aAd 0);(refine aTc ?_ ?_;(exact aAl);(exact aAl)));(exact aAl));(exact aAl));(refine aBi ?_ ?_;(refine aTc ?_ ?_;(exact aAl);(exact aAl));(exact aAl))));(exact aAh)
def aLb:List Str:=["_law_style","_law_k","_law_at_here"]
theorem aNc:aAt aLb ["_law_style","_law_k"] (aAk aPu):=by constructor<;>first | rfl | decide+kernel
def aLw (t:Adr):Rho->Option Out:=
  (aAn (aC7 2 (b2 aEa (b2 aA4 (b2 aEn (con (.int 5)) (look 1)) (look 0)) (con (.int 23))))
  (aAn (sIf (aA9 (b2 gEq (b2 aEa (b2 aEe (look 0) (con (.int 23))) (con (.int 3))) (con (.int 1)))) (aAn (aC4 (b2 aA4 (aPl (con (.str "zz")) aGr (aFm (b2 aEa (look 0) (con (.int 3))))) (b2 aEn (con (.str "a")) (look 2))))
  aAz) aAz)
  (aAn (aC4 (b2 aA4 (b2 aA4 (aPl (con (.str "zyzy")) aGr (aFm (b2 aEa (b2 aEe (look 0) (con (.int 69))) (con (.int 4))))) (b2 gIx (con (.str "aXq 0~zB-c!_dEf.gH1i(jK")) (look 2))) (aPl (con (.str "yzzy")) aGr (aFm (b2 aEa (b2 aEe (look 0) (con (.int 276))) (con (.int 4)))))))
  aAz)))
theorem aVf (T:Txt K mg t){k:Nat}{F:List D->M D}(h:OkF 2 aLb (aLw t) F):Def P w K mg base (k+1) "_law_name" F:=by
 obtain⟨hL,hq⟩:=h;obtain⟨fd,Fu,bi⟩:=T.aDw;refine⟨_,_,_,T.aZw,Fu.kp,bi,hL,aJ2 Fu aNc hL fun cdv A outer s H E hr=>⟨aLw t,fun B=> ?_,hq⟩⟩;refine aAb ?_ ?_;(refine aA6 (i:=2) (aNc).nd rfl (Qw rfl) ?_;(refine aD6 ?_ ?_;(refine aBi ?_ ?_;(refine aQ6 ?_ ?_;(exact aAl);(exact aAd 1));(exact aAd 0));(exact aAl)));(refine aAb ?_ ?_;(refine aDk ?_ ?_ ?_;(refine bB5 ?_ ?_;(refine aD6 ?_ ?_;(refine aIu ?_ ?_;(exact aAd 0);(exact aAl));(exact aAl));(exact aAl));(refine aAb ?_ ?_;(refine aAs ?_;(refine aBi ?_ ?_;(refine aGp ?_ ?_ ?_;(exact aCq);(exact aGo);(refine aGn ?_;(refine aD6 ?_ ?_;(exact aAd 0);(exact aAl))));(refine aQ6 ?_ ?_;(exact aCq);(exact aAd 2))));(exact aAh));(exact aAh));(refine aAb ?_ ?_;(refine aAs ?_;(refine aBi ?_ ?_;(refine aBi ?_ ?_;(refine aGp ?_ ?_ ?_;(exact aCq);(exact aGo);(refine aGn ?_;(refine aD6 ?_ ?_;(refine aIu ?_ ?_;(exact aAd 0);(exact aAl));(exact aAl))));(refine aJh ?_ ?_ (fun _ _=>rfl);(exact aCq);(exact aAd 2)));(refine aGp ?_ ?_ ?_;(exact aCq);(exact aGo);(refine aGn ?_;(refine aD6 ?_ ?_;(refine aIu ?_ ?_;(exact aAd 0);(exact aAl));(exact aAl))))));(exact aAh)))
def aJx:List Str:=["_law_names","_law_cell","_law_by","_law_counts","_law_many","_law_k","_law_product","_law_size","_law_j","_law_number","_law_key"]
theorem aBf:aAt aJx ["_law_names","_law_cell"] (aAk aSy):=by constructor<;>first | rfl | decide+kernel
def aGx (t:Adr)(aFb:List D->M D):Rho->Option Out:=
  (aAn (aC7 2 (app aFb (aAa (look 1) aAg)))
  (aAn (bKp 3)
  (aAn (aC7 4 (b2 aEa (look 2) (con (.int 4))))
  (aAn (aC7 2 (b2 aEe (look 2) (con (.int 4))))
  (aAn (aIo (look 4) (gN 5) (aAn (sNew 6 aAg)
  (aAn (aC7 7 (b2 aEa (look 2) (con (.int 4))))
  (aAn (aC7 2 (b2 aEe (look 2) (con (.int 4))))
  (aAn (aIo (look 7) (gN 8) (aAn (bIy bJh 6 (aAa (b2 gIx (look 0) (b2 aEa (look 2) (f1 aI3 (look 0)))) aAg))
  (aAn (aC7 2 (b2 aEe (look 2) (f1 aI3 (look 0))))
  aAz)))
  (aAn (aC7 9 (b2 aA4 (con (.int 1)) (b2 aEa (look 2) (con (.int 5)))))
  (aAn (aC7 2 (b2 aEe (look 2) (con (.int 5))))
  (aAn (sIf (aA9 (b2 gEq (look 9) (con (.int 5)))) (aAn (aC7 9 (b2 aA4 (b2 aOn (con (.int 10)) (con (.int 40))) (look 5)))
  aAz) aAz)
  (aAn (aC7 10 (f1 toT (f1 bAn (look 6))))
  (aAn (aU0 3 10 (b2 aA4 (aV8 3 10 (con (.int 0))) (look 9)))
  aAz))))))))))
  (aAn (aC4 (f1 toT (bEg 3)))
  aAz))))))
theorem aZa (T:Txt K mg t){k:Nat}{aFb:List D->M D}(bE5:Def P w K mg base k "_law_mix" aFb){F:List D->M D}(h:OkF 2 aJx (aGx t aFb) F):Def P w K mg base (k+1) "_law_sum" F:=by
 obtain⟨hL,hq⟩:=h;obtain⟨fd,Fu,bi⟩:=T.aFa;refine⟨_,_,_,T.bDt,Fu.kp,bi,hL,aJ2 Fu aBf hL fun cdv A outer s H E hr=>⟨aGx t aFb,fun B=> ?_,hq⟩⟩;refine aAb ?_ ?_;(refine aA6 (i:=2) (aBf).nd rfl (Qw rfl) ?_;(refine aAy bE5 hr rfl ?_;(refine aAc ?_ ?_;(exact aAd 1);(exact aAi))));(refine aAb ?_ ?_;(exact bGr (i:=3) (aBf).nd rfl (Qw rfl));(refine aAb ?_ ?_;(refine aA6 (i:=4) (aBf).nd rfl (Qw rfl) ?_;(refine aD6 ?_ ?_;(exact aAd 2);(exact aAl)));(refine aAb ?_ ?_;(refine aA6 (i:=2) (aBf).nd rfl (Qw rfl) ?_;(refine aIu ?_ ?_;(exact aAd 2);(exact aAl)));(refine aAb ?_ ?_;(refine aS9 rfl T.aWc Yi rfl ?_ (fun B=> ?_) (fun B=> ?_);(exact aAd 4);(exact aEs (i:=5) (aBf).nd rfl (Qw rfl));(refine aAb ?_ ?_;(refine bB7 (i:=6) (aBf).nd rfl (Qw rfl) ?_;(exact aAi));(refine aAb ?_ ?_;(refine aA6 (i:=7) (aBf).nd rfl (Qw rfl) ?_;(refine aD6 ?_ ?_;(exact aAd 2);(exact aAl)));(refine aAb ?_ ?_;(refine aA6 (i:=2) (aBf).nd rfl (Qw rfl) ?_;(refine aIu ?_ ?_;(exact aAd 2);(exact aAl)));(refine aAb ?_ ?_;(refine aS9 rfl T.aWc Yi rfl ?_ (fun B=> ?_) (fun B=> ?_);(exact aAd 7);(exact aEs (i:=8) (aBf).nd rfl (Qw rfl));(refine aAb ?_ ?_;(refine aY6 (i:=6) rfl (Qw rfl) ?_;(refine aJh ?_ ?_ (fun _ _=>rfl);(exact aAd 0);(refine aD6 ?_ ?_;(exact aAd 2);(refine aLs rfl T.aPm ?_;(exact aAd 0)))));(refine aAb ?_ ?_;(refine aA6 (i:=2) (aBf).nd rfl (Qw rfl) ?_;(refine aIu ?_ ?_;(exact aAd 2);(refine aLs rfl T.aPm ?_;(exact aAd 0))));(exact aAh))));(refine aAb ?_ ?_;(refine aA6 (i:=9) (aBf).nd rfl (Qw rfl) ?_;(refine aBi ?_ ?_;(exact aAl);(refine aD6 ?_ ?_;(exact aAd 2);(exact aAl))));(refine aAb ?_ ?_;(refine aA6 (i:=2) (aBf).nd rfl (Qw rfl) ?_;(refine aIu ?_ ?_;(exact aAd 2);(exact aAl)));(refine aAb ?_ ?_;(refine aDk ?_ ?_ ?_;(refine bB5 ?_ ?_;(exact aAd 9);(exact aAl));(refine aAb ?_ ?_;(refine aA6 (i:=9) (aBf).nd rfl (Qw rfl) ?_;(refine aBi ?_ ?_;(refine aTc ?_ ?_;(exact aAl);(exact aAl));(exact aAd 5)));(exact aAh));(exact aAh));(refine aAb ?_ ?_;(refine aA6 (i:=10) (aBf).nd rfl (Qw rfl) ?_;(refine aFe rfl T.aDa ?_;(refine aF7 rfl rfl T.aD0 ?_;(exact aAd 6))));(refine aAb ?_ ?_;(refine bGp hr 3 10 ?_;(refine aBi ?_ ?_;(refine bGv hr 3 10 ?_;(exact aAl));(exact aAd 9)));(exact aAh)))))))))));(refine aAb ?_ ?_;(refine aAs ?_;(refine aFe rfl T.aDa ?_;(exact aY7 hr (by rfl) (by rfl) T.aD0 3)));(exact aAh))))))
def aG1:List Str:=["_law_many","_law_big"]
theorem aSx:aAt aG1 ["_law_many","_law_big"] (aAk aEy):=by constructor<;>first | rfl | decide+kernel
def aEw (t:Adr):Rho->Option Out:=
  (aAn (aC4 (mkL (aAa (mkT (aAa (con (.bl true)) (aAa (con (.str "t")) aAg))) (aAa (mkT (aAa (con (.bl false)) (aAa (con (.str "t")) aAg))) (aAa (mkT (aAa (con .non) (aAa (con (.str "o")) aAg))) (aAa (mkT (aAa (con (.int 0)) (aAa (con (.str "cro")) aAg))) (aAa (mkT (aAa (b2 aM2 (look 0) (con (.int 1))) (aAa (con (.str "cro")) aAg))) (aAa (mkT (aAa (look 0) (aAa (con (.str "co")) aAg))) (aAa (mkT (aAa (b2 aA4 (look 0) (look 1)) (aAa (con (.str "co")) aAg))) (aAa (mkT (aAa (f1 bL0 (con (.int 1))) (aAa (con (.str "")) aAg))) (aAa (mkT (aAa (b2 aM2 (f1 bL0 (con (.int 1))) (look 1)) (aAa (con (.str "")) aAg))) (aAa (mkT (aAa (con (.str "")) (aAa (con (.str "")) aAg))) (aAa (mkT (aAa (con (.str "0")) (aAa (con (.str "")) aAg))) (aAa (mkT (aAa (mkL aAg) (aAa (con (.str "")) aAg))) (aAa (mkT (aAa bRp (aAa (con (.str "")) aAg))) (aAa (mkT (aAa (bRo (con (.int 0)) (con (.int 1))) (aAa (con (.str "")) aAg))) (aAa (mkT (aAa (mkT aAg) (aAa (con (.str "sluw")) aAg))) (aAa (mkT (aAa (mkT (aAa (con (.int 0)) aAg)) (aAa (con (.str "l")) aAg))) (aAa (mkT (aAa (mkT (aAa (con (.int 0)) (aAa (con (.int 0)) aAg))) (aAa (con (.str "l")) aAg))) (aAa (mkT (aAa (mkT (aAa (look 1) (aAa (b2 aA4 (look 1) (con (.int 1))) aAg))) (aAa (con (.str "l")) aAg))) (aAa (mkT (aAa (mkT (aAa (b2 aA4 (look 1) (con (.int 1))) (aAa (look 1) aAg))) (aAa (con (.str "")) aAg))) (aAa (mkT (aAa (mkT (aAa (con (.int 0)) (aAa (con (.int 1)) (aAa (con (.int 2)) aAg)))) (aAa (con (.str "")) aAg))) (aAa (mkT (aAa (mkL (aAa (con (.int 0)) aAg)) (aAa (con (.str "")) aAg))) (aAa (mkT (aAa (mkT (aAa (f1 bL0 (con (.int 1))) aAg)) (aAa (con (.str "")) aAg))) (aAa (mkT (aAa (mkT (aAa (f1 bL0 (con (.int 1))) (aAa (con (.int 0)) aAg))) (aAa (con (.str "")) aAg))) (aAa (mkT (aAa (mkT (aAa (con .non) aAg)) (aAa (con (.str "")) aAg))) (aAa (mkT (aAa (mkT (aAa (con (.bl true)) aAg)) (aAa (con (.str "")) aAg))) (aAa (mkT (aAa (mkT (aAa (con (.int 0)) (aAa (con (.bl true)) aAg))) (aAa (con (.str "")) aAg))) (aAa (mkT (aAa (mkT (aAa (con (.bl true)) (aAa (con .non) aAg))) (aAa (con (.str "p")) aAg))) (aAa (mkT (aAa (mkT (aAa (con (.bl false)) (aAa (look 1) aAg))) (aAa (con (.str "p")) aAg))) (aAa (mkT (aAa (mkT (aAa (con (.bl true)) (aAa (f1 bL0 (con (.int 1))) aAg))) (aAa (con (.str "")) aAg))) (aAa (mkT (aAa (mkT (aAa (con .non) (aAa (con (.bl true)) aAg))) (aAa (con (.str "")) aAg))) (aAa (mkT (aAa (mkT (aAa (con (.bl true)) (aAa (con (.int 0)) (aAa (con (.int 0)) aAg)))) (aAa (con (.str "")) aAg))) (aAa (mkT (aAa (mkL (aAa (con (.bl true)) (aAa (con (.int 0)) aAg))) (aAa (con (.str "")) aAg))) aAg))))))))))))))))))))))))))))))))))
  aAz)
theorem aSm (T:Txt K mg t){k:Nat}{cdv:Qd}{A:Ze}{outer:List Env}{s:Qf}{H:Hp}{E:XK}(hr:aFk k (A.deeper (envOfC "_law_plain" (aAk aEy) s.heap.objs.size t.aE1 cdv)))(B:Hp):
  PDB (cxN P w K mg base aG1 "_law_plain" (aAk aEy) t.aE1 cdv A outer s H E) B (aCo aEy) (aEw t):=
 by
 refine aAb ?_ ?_;refine aAs ?_;refine aLr ?_
 repeat' first | exact aAi | exact aAh | refine bS9 ?_ ?_ | refine aBt ?_ | refine aLr ?_ | exact aAl | exact aCq | exact aIg | exact aTd | exact aAd _ | exact aQ9 | refine aQ8 ?_ ?_ | refine aLp ?_ ?_ | refine aBi ?_ ?_ | refine bB9 ?_ | refine aFe rfl T.aDa ?_ | refine aF7 rfl rfl T.aD0 ?_
theorem aTe (T:Txt K mg t){k:Nat}{F:List D->M D}(h:OkF 2 aG1 (aEw t) F):Def P w K mg base (k+1) "_law_plain" F:=by
 obtain⟨hL,hq⟩:=h;obtain⟨fd,Fu,bi⟩:=T.aC3;refine⟨_,_,_,T.aVz,Fu.kp,bi,hL,aJ2 Fu aSx hL fun cdv A outer s H E hr=>⟨aEw t,?_,hq⟩⟩;exact @aSm P w K mg base t T k cdv A outer s H E hr
def aGf:List Str:=["_law_low","_law_high","_law_far"]
theorem aUw:aAt aGf ["_law_low","_law_high","_law_far"] (aAk aF1):=by constructor<;>first | rfl | decide+kernel
def aD9 (t:Adr):Rho->Option Out:=
  (aAn (aC4 (mkL (aAa (mkT (aAa (mkT (aAa (look 0) aAg)) (aAa (con (.str "s")) aAg))) (aAa (mkT (aAa (mkT (aAa (look 0) (aAa (look 1) aAg))) (aAa (con (.str "s")) aAg))) (aAa (mkT (aAa (mkT (aAa (look 1) aAg)) (aAa (con (.str "s")) aAg))) (aAa (mkT (aAa (mkT (aAa (look 1) (aAa (look 0) aAg))) (aAa (con (.str "")) aAg))) (aAa (mkT (aAa (mkT (aAa (look 0) (aAa (look 0) aAg))) (aAa (con (.str "")) aAg))) (aAa (mkT (aAa (mkL (aAa (look 0) aAg)) (aAa (con (.str "")) aAg))) (aAa (mkT (aAa (look 0) (aAa (con (.str "")) aAg))) (aAa (mkT (aAa (f1 toT (f1 bAn (mkL (aAa (look 0) (aAa (look 2) aAg))))) (aAa (con (.str "")) aAg))) (aAa (mkT (aAa (mkT (aAa (look 2) aAg)) (aAa (con (.str "")) aAg))) (aAa (mkT (aAa (mkT (aAa (look 0) (aAa (con (.int 0)) aAg))) (aAa (con (.str "")) aAg))) (aAa (mkT (aAa (mkT (aAa (mkT aAg) aAg)) (aAa (con (.str "w")) aAg))) (aAa (mkT (aAa (mkT (aAa (mkT (aAa (look 0) aAg)) aAg)) (aAa (con (.str "w")) aAg))) (aAa (mkT (aAa (mkT (aAa (mkT (aAa (look 0) aAg)) (aAa (mkT (aAa (look 1) aAg)) aAg))) (aAa (con (.str "w")) aAg))) (aAa (mkT (aAa (mkT (aAa (mkT (aAa (look 0) (aAa (look 1) aAg))) aAg)) (aAa (con (.str "w")) aAg))) (aAa (mkT (aAa (mkT (aAa (mkT (aAa (look 1) aAg)) (aAa (mkT (aAa (look 0) aAg)) aAg))) (aAa (con (.str "")) aAg))) (aAa (mkT (aAa (mkT (aAa (mkT (aAa (look 0) aAg)) (aAa (mkT (aAa (look 0) (aAa (look 1) aAg))) aAg))) (aAa (con (.str "")) aAg))) (aAa (mkT (aAa (mkT (aAa (mkT (aAa (look 0) aAg)) (aAa (mkT (aAa (look 0) aAg)) aAg))) (aAa (con (.str "")) aAg))) (aAa (mkT (aAa (mkT (aAa (mkT (aAa (look 0) (aAa (look 0) aAg))) aAg)) (aAa (con (.str "")) aAg))) (aAa (mkT (aAa (mkT (aAa (mkT (aAa (look 1) (aAa (look 0) aAg))) aAg)) (aAa (con (.str "")) aAg))) (aAa (mkT (aAa (mkT (aAa (mkT aAg) (aAa (mkT (aAa (look 0) aAg)) aAg))) (aAa (con (.str "")) aAg))) (aAa (mkT (aAa (mkT (aAa (mkT (aAa (con (.int 1)) aAg)) aAg)) (aAa (con (.str "")) aAg))) (aAa (mkT (aAa (mkT (aAa (mkL (aAa (look 0) aAg)) aAg)) (aAa (con (.str "")) aAg))) (aAa (mkT (aAa (mkL (aAa (mkT (aAa (look 0) aAg)) aAg)) (aAa (con (.str "")) aAg))) aAg)))))))))))))))))))))))))
  aAz)
theorem aUs (T:Txt K mg t){k:Nat}{cdv:Qd}{A:Ze}{outer:List Env}{s:Qf}{H:Hp}{E:XK}(hr:aFk k (A.deeper (envOfC "_law_sets" (aAk aF1) s.heap.objs.size t.aF9 cdv)))(B:Hp):
  PDB (cxN P w K mg base aGf "_law_sets" (aAk aF1) t.aF9 cdv A outer s H E) B (aCo aF1) (aD9 t):=
 by
 refine aAb ?_ ?_;refine aAs ?_;refine aLr ?_
 repeat' first | exact aAi | exact aAh | refine bS9 ?_ ?_ | refine aBt ?_ | refine aLr ?_ | exact aAl | exact aCq | exact aIg | exact aTd | exact aAd _ | exact aQ9 | refine aQ8 ?_ ?_ | refine aLp ?_ ?_ | refine aBi ?_ ?_ | refine bB9 ?_ | refine aFe rfl T.aDa ?_ | refine aF7 rfl rfl T.aD0 ?_
theorem aVe (T:Txt K mg t){k:Nat}{F:List D->M D}(h:OkF 3 aGf (aD9 t) F):Def P w K mg base (k+1) "_law_sets" F:=by
 obtain⟨hL,hq⟩:=h;obtain⟨fd,Fu,bi⟩:=T.aDv;refine⟨_,_,_,T.aZv,Fu.kp,bi,hL,aJ2 Fu aUw hL fun cdv A outer s H E hr=>⟨aD9 t,?_,hq⟩⟩;exact @aUs P w K mg base t T k cdv A outer s H E hr
def aFl:List Str:=["_law_low","_law_high","_law_big"]
theorem aQ1:aAt aFl ["_law_low","_law_high","_law_big"] (aAk aD4):=by constructor<;>first | rfl | decide+kernel
def aDz (t:Adr):Rho->Option Out:=
  (aAn (aC4 (mkL (aAa (mkT (aAa (mkT (aAa (mkT (aAa (mkT aAg) (aAa (con (.int 1)) aAg))) aAg)) (aAa (con (.str "u")) aAg))) (aAa (mkT (aAa (mkT (aAa (mkT (aAa (mkT (aAa (look 0) aAg)) (aAa (b2 aA4 (look 2) (con (.int 1))) aAg))) aAg)) (aAa (con (.str "u")) aAg))) (aAa (mkT (aAa (mkT (aAa (mkT (aAa (mkT (aAa (look 0) (aAa (look 0) aAg))) (aAa (con (.int 2)) aAg))) (aAa (mkT (aAa (mkT (aAa (look 0) (aAa (look 1) aAg))) (aAa (con (.int 1)) aAg))) aAg))) (aAa (con (.str "u")) aAg))) (aAa (mkT (aAa (mkT (aAa (mkT (aAa (mkT (aAa (look 0) aAg)) (aAa (con (.int 0)) aAg))) aAg)) (aAa (con (.str "")) aAg))) (aAa (mkT (aAa (mkT (aAa (mkT (aAa (mkT (aAa (look 0) aAg)) (aAa (con (.bl true)) aAg))) aAg)) (aAa (con (.str "")) aAg))) (aAa (mkT (aAa (mkT (aAa (mkT (aAa (mkT (aAa (look 0) aAg)) (aAa (f1 bL0 (con (.int 1))) aAg))) aAg)) (aAa (con (.str "")) aAg))) (aAa (mkT (aAa (mkT (aAa (mkT (aAa (mkT (aAa (look 1) (aAa (look 0) aAg))) (aAa (con (.int 1)) aAg))) aAg)) (aAa (con (.str "")) aAg))) (aAa (mkT (aAa (mkT (aAa (mkT (aAa (mkT (aAa (look 0) aAg)) (aAa (con (.int 1)) aAg))) (aAa (mkT (aAa (mkT (aAa (look 0) aAg)) (aAa (con (.int 2)) aAg))) aAg))) (aAa (con (.str "")) aAg))) (aAa (mkT (aAa (mkT (aAa (mkT (aAa (mkT (aAa (look 1) aAg)) (aAa (con (.int 1)) aAg))) (aAa (mkT (aAa (mkT (aAa (look 0) aAg)) (aAa (con (.int 1)) aAg))) aAg))) (aAa (con (.str "")) aAg))) (aAa (mkT (aAa (mkT (aAa (mkT (aAa (look 0) (aAa (con (.int 1)) aAg))) aAg)) (aAa (con (.str "")) aAg))) (aAa (mkT (aAa (mkT (aAa (mkT (aAa (mkT (aAa (look 0) aAg)) (aAa (con (.int 1)) (aAa (con (.int 1)) aAg)))) aAg)) (aAa (con (.str "")) aAg))) (aAa (mkT (aAa (mkT (aAa (mkT (aAa (mkL (aAa (look 0) aAg)) (aAa (con (.int 1)) aAg))) aAg)) (aAa (con (.str "")) aAg))) (aAa (mkT (aAa (mkT (aAa (mkT (aAa (mkT (aAa (con (.int 1)) aAg)) (aAa (con (.int 1)) aAg))) aAg)) (aAa (con (.str "")) aAg))) (aAa (mkT (aAa (mkL (aAa (mkT (aAa (mkT aAg) (aAa (con (.int 1)) aAg))) aAg)) (aAa (con (.str "")) aAg))) (aAa (mkT (aAa (mkT (aAa (mkT (aAa (mkT (aAa (look 0) aAg)) (aAa (con .non) aAg))) aAg)) (aAa (con (.str "")) aAg))) aAg)))))))))))))))))
  aAz)
theorem aQw (T:Txt K mg t){k:Nat}{cdv:Qd}{A:Ze}{outer:List Env}{s:Qf}{H:Hp}{E:XK}(hr:aFk k (A.deeper (envOfC "_law_totals" (aAk aD4) s.heap.objs.size t.aD8 cdv)))(B:Hp):
  PDB (cxN P w K mg base aFl "_law_totals" (aAk aD4) t.aD8 cdv A outer s H E) B (aCo aD4) (aDz t):=
 by
 refine aAb ?_ ?_;refine aAs ?_;refine aLr ?_
 repeat' first | exact aAi | exact aAh | refine bS9 ?_ ?_ | refine aBt ?_ | refine aLr ?_ | exact aAl | exact aCq | exact aIg | exact aTd | exact aAd _ | exact aQ9 | refine aQ8 ?_ ?_ | refine aLp ?_ ?_ | refine aBi ?_ ?_ | refine bB9 ?_ | refine aFe rfl T.aDa ?_ | refine aF7 rfl rfl T.aD0 ?_
theorem aRd (T:Txt K mg t){k:Nat}{F:List D->M D}(h:OkF 3 aFl (aDz t) F):Def P w K mg base (k+1) "_law_totals" F:=by
 obtain⟨hL,hq⟩:=h;obtain⟨fd,Fu,bi⟩:=T.aCd;refine⟨_,_,_,T.aTu,Fu.kp,bi,hL,aJ2 Fu aQ1 hL fun cdv A outer s H E hr=>⟨aDz t,?_,hq⟩⟩;exact @aQw P w K mg base t T k cdv A outer s H E hr
def aH7:List Str:=["_law_ways","_law_thing","_law_word","_law_letter","_law_way","_law_found"]
theorem aEx:aAt aH7 ["_law_ways","_law_thing"] (aAk aPt):=by constructor<;>first | rfl | decide+kernel
def aFg (t:Adr)(aB1:Addr->Option (List D->M D)):Rho->Option Out:=
  (aAn (aC7 2 (con (.str "")))
  (aAn (aGm 0 (gN2 3 4) (aAn (aC7 5 (bJ0 "is_mark" aB1 (look 4) (aAa (look 1) aAg)))
  (aAn (sIf (aKi (test (isi "bool" (look 5)))) (aAn (aC4 (con (.str "none")))
  aAz) aAz)
  (aAn (sIf (test (look 5)) (aAn (aC7 2 (b2 aA4 (look 2) (look 3)))
  aAz) aAz)
  aAz))))
  (aAn (aC4 (look 2))
  aAz)))
theorem aVd (T:Txt K mg t){k:Nat}{aB1:Addr->Option (List D->M D)}(aIc: ∀C F,aB1 C=some F->Mth P w K mg base k C "is_mark" F){F:List D->M D}(h:OkF 2 aH7 (aFg t aB1) F):Def P w K mg base (k+1) "_law_told" F:=by
 obtain⟨hL,hq⟩:=h;obtain⟨fd,Fu,bi⟩:=T.aCm;refine⟨_,_,_,T.aZu,Fu.kp,bi,hL,aJ2 Fu aEx hL fun cdv A outer s H E hr=>⟨aFg t aB1,fun B=> ?_,hq⟩⟩;refine aAb ?_ ?_;(refine aA6 (i:=2) (aEx).nd rfl (Qw rfl) ?_;(exact aCq));(refine aAb ?_ ?_;(refine aJf 0 rfl (Qw rfl) Yi rfl (fun B=> ?_) (fun B=> ?_);(exact aXb (i:=3) (j:=4) rfl (aEx).nd rfl (Qw rfl) rfl (Qw rfl));(refine aAb ?_ ?_;(refine aA6 (i:=5) (aEx).nd rfl (Qw rfl) ?_;(refine aVa aIc hr ?_ ?_;(exact aAd 4);(refine aAc ?_ ?_;(exact aAd 1);(exact aAi))));(refine aAb ?_ ?_;(refine aDk ?_ ?_ ?_;(refine aE0 ?_;(refine aEd ?_;(refine aHm (T:="bool") rfl T.aBh rfl T.bEx (by decide+kernel) (by decide) ?_;(exact aAd 5))));(refine aAb ?_ ?_;(refine aAs ?_;(exact aCq));(exact aAh));(exact aAh));(refine aAb ?_ ?_;(refine aDk ?_ ?_ ?_;(refine aEd ?_;(exact aAd 5));(refine aAb ?_ ?_;(refine aA6 (i:=2) (aEx).nd rfl (Qw rfl) ?_;(refine aBi ?_ ?_;(exact aAd 2);(exact aAd 3)));(exact aAh));(exact aAh));(exact aAh)))));(refine aAb ?_ ?_;(refine aAs ?_;(exact aAd 2));(exact aAh)))
def bId:List Str:=["_law_script","_law_names","_law_many","_law_big","_law_at_here","_law_low","_law_high","_law_far","_law_ways","_law_thing","_law_due","_law_some"]
def aYk:List Str:=["_law_script","?1","?2","?3","?4","?5","?6","?7","?8","?9","?10","?11","_law_k"]
theorem bG3:aYk.Nodup:=by decide+kernel
theorem aG4:aAt bId ["_law_script"] (aAk bF5):=by constructor<;>first | rfl | decide+kernel
def aRz (t:Adr)(aCz:List D->M D)(aDw:List D->M D)(aC3:List D->M D)(aDv:List D->M D)(aFa:List D->M D)(aCm:List D->M D)(aCd:List D->M D)(aLh:List D->M (List (Str×D)))(aJ1:List D->M (List (Str×D)))(aUj:List D->M (List (Str×D)))(aOz:List D->M (List (Str×D)))(aH1:List D->M (List (Str×D)))(aJz:List D->M (List (Str×D)))(aOx:List D->M (List (Str×D)))(aUi:List D->M (List (Str×D)))(aIe:List D->M (List (Str×D))):Rho->Option Out:=
  (aAn (aC7 1 (f1 bAn (cmp 1 (itR (con (.int 4))) [12] h1 (fun _=>ok true) (app aDw (aAa (b2 aEa (app aCz (aAa (look 0) (aAa (con (.int 0)) aAg))) (con (.int 2000))) (aAa (look 12) aAg))))))
  (aAn (aC7 2 (b2 aA4 (con (.int 2)) (b2 aEa (app aCz (aAa (look 0) (aAa (con (.int 1)) aAg))) (b2 aOn (con (.int 10)) (con (.int 60))))))
  (aAn (aC7 3 (b2 aA4 (con (.int 1)) (b2 aEa (app aCz (aAa (look 0) (aAa (con (.int 2)) aAg))) (b2 aOn (con (.int 10)) (con (.int 60))))))
  (aAn (aC7 4 (b2 aEa (app aCz (aAa (look 0) (aAa (con (.int 3)) aAg))) (con (.int 3))))
  (aAn (aC7 5 (b2 gIx (look 1) (con (.int 0))))
  (aAn (aC7 6 (b2 gIx (look 1) (b2 aA4 (con (.int 1)) (look 4))))
  (aAn (aC7 7 (b2 gIx (look 1) (b2 aA4 (con (.int 1)) (b2 aEa (b2 aA4 (look 4) (con (.int 1))) (con (.int 3))))))
  (aAn (aC7 8 (mkL (aAa (mkT (aAa (con (.str "t")) (aAa (fun _=>mkO t.aAr aIe []) aAg))) (aAa (mkT (aAa (con (.str "c")) (aAa (fun _=>mkO t.aA3 aJ1 []) aAg))) (aAa (mkT (aAa (con (.str "r")) (aAa (app (mkO t.aAw aJz) (aAa (look 2) aAg)) aAg))) (aAa (mkT (aAa (con (.str "o")) (aAa (fun _=>mkO t.aA2 aLh []) aAg))) (aAa (mkT (aAa (con (.str "s")) (aAa (app (mkO t.aA7 aOx) (aAa (mkL (aAa (look 6) (aAa (look 5) aAg))) aAg)) aAg))) (aAa (mkT (aAa (con (.str "l")) (aAa (app (mkO t.aBp aUj) (aAa (con (.int 2)) aAg)) aAg))) (aAa (mkT (aAa (con (.str "u")) (aAa (fun _=>mkO t.aBv aUi []) aAg))) (aAa (mkT (aAa (con (.str "w")) (aAa (fun _=>mkO t.aAu aH1 []) aAg))) (aAa (mkT (aAa (con (.str "p")) (aAa (app (mkO t.aA8 aOz) (aAa (fun _=>mkO t.aAr aIe []) (aAa (fun _=>mkO t.aA2 aLh []) aAg))) aAg))) aAg)))))))))))
  (aAn (aL4 (b2 aA4 (b2 aA4 (app aC3 (aAa (look 2) (aAa (look 3) aAg))) (app aDv (aAa (look 5) (aAa (look 6) (aAa (look 7) aAg))))) (app aCd (aAa (look 5) (aAa (look 6) (aAa (look 3) aAg))))) (gN2 9 10) (aAn (sIf (aA9 (b2 gNe (app aCm (aAa (look 8) (aAa (look 9) aAg))) (look 10))) (aAn (aC4 (con (.bl false)))
  aAz) aAz)
  aAz))
  (aAn (aC7 11 (app aFa (aAa (look 1) (aAa (app aCz (aAa (look 0) (aAa (con (.int 4)) aAg))) aAg))))
  (aAn (sIf (bR2 (aA9 (b2 aLu (look 11) (mkT aAg))) (aA9 (b2 gNe (app aCm (aAa (look 8) (aAa (look 11) aAg))) (con (.str "u"))))) (aAn (aC4 (con (.bl false)))
  aAz) aAz)
  (aAn (sIf (aA9 (b2 gLt (f1 aI3 (look 11)) (con (.int 2)))) (aAn (aC4 (con (.bl true)))
  aAz) aAz)
  (aAn (aC7 4 (b2 aA4 (con (.int 1)) (b2 aEa (app aCz (aAa (look 0) (aAa (con (.int 5)) aAg))) (b2 aM2 (f1 aI3 (look 11)) (con (.int 1))))))
  (aAn (aC4 (b2 gEq (app aCm (aAa (look 8) (aAa (b2 aA4 (b2 aA4 (aPl (look 11) aGr (aFm (b2 aM2 (look 4) (con (.int 1))))) (mkT (aAa (b2 gIx (look 11) (look 4)) (aAa (b2 gIx (look 11) (b2 aM2 (look 4) (con (.int 1)))) aAg)))) (aPl (look 11) (aFm (b2 aA4 (look 4) (con (.int 1)))) aGr)) aAg))) (con (.str ""))))
  aAz))))))))))))))
theorem bM6 (T:Txt K mg t){fd:FuncData}(Fu:Fun K "law" "law" bF5 t.aV4 fd){k k':Nat}(hk:k'+1<=k){aCz:List D->M D}(aIb:Def P w K mg base k "_law_at" aCz){aDw:List D->M D}(bAj:Def P w K mg base k "_law_name" aDw){aC3:List D->M D}(aWh:Def P w K mg base k "_law_plain" aC3){aDv:List D->M D}(bAi:Def P w K mg base k "_law_sets" aDv){aFa:List D->M D}(bE4:Def P w K mg base k "_law_sum" aFa){aCm:List D->M D}(aLc:Def P w K mg base k "_law_told" aCm){aCd:List D->M D}(aUg:Def P w K mg base k "_law_totals" aCd){aLh:List D->M (List (Str×D))}(bE8:Ctor P w K mg base k' "Costs" t.aA2 aLh){aJ1:List D->M (List (Str×D))}(bIh:Ctor P w K mg base k' "Counts" t.aA3 aJ1){aUj:List D->M (List (Str×D))}(bR5:Ctor P w K mg base k' "Lows" t.aBp aUj){aOz:List D->M (List (Str×D))}(bNr:Ctor P w K mg base k' "Pairs" t.aA8 aOz){aH1:List D->M (List (Str×D))}(bE7:Ctor P w K mg base k' "Reasons" t.aAu aH1){aJz:List D->M (List (Str×D))}(bIg:Ctor P w K mg base k' "Rounds" t.aAw aJz){aOx:List D->M (List (Str×D))}(bNq:Ctor P w K mg base k' "Seers" t.aA7 aOx){aUi:List D->M (List (Str×D))}(bR4:Ctor P w K mg base k' "Sums" t.aBv aUi){aIe:List D->M (List (Str×D))}(aYl:Ctor P w K mg base k' "Truths" t.aAr aIe){F:List D->M D}(hL: ∀ds r,F ds=some r->ds.length=1)(hq: ∀ds r,F ds=some r->∃d,r= .ok d/\aBd (aRz t aCz aDw aC3 aDv aFa aCm aCd aLh aJ1 aUj aOz aH1 aJz aOx aUi aIe (aC0 bId ds))=ok d):FnD P w K mg base (k+1) t.aV4 fd ["_law_script"] F:=by
 refine aJ2 Fu aG4 hL fun cdv A outer s H E hr=>⟨aRz t aCz aDw aC3 aDv aFa aCm aCd aLh aJ1 aUj aOz aH1 aJz aOx aUi aIe,fun B=> ?_,hq⟩
 have hr':=hr.mono hk;refine aAb ?_ ?_;(refine aA6 (i:=1) (aG4).nd rfl (Qw rfl) ?_;(refine aF7 rfl rfl T.aD0 ?_;(refine aEt (N':=aYk) (m:=1) (ks:=[12]) rfl rfl rfl rfl (by repeat (first | exact aJo | refine aGu rfl (by first | exact Qw rfl | exact Yt rfl) ?_)) rfl rfl rfl rfl rfl ?_ (fun C s₀ H₀ ex=> ?_) (fun C s₀ H₀ ex B=> ?_) (fun C s₀ H₀ ex B=> ?_);(refine bO4 rfl T.aWc ?_;(exact aAl));(exact aU8 bG3 rfl (Qw rfl));(exact aEq);(refine aAy bAj hr rfl ?_;(refine aAc ?_ ?_;(refine aD6 ?_ ?_;(refine aAy aIb hr rfl ?_;(refine aAc ?_ ?_;(exact aAd 0);(refine aAc ?_ ?_;(exact aAl);(exact aAi))));(exact aAl));(refine aAc ?_ ?_;(exact aAd 12);(exact aAi)))))));(refine aAb ?_ ?_;(refine aA6 (i:=2) (aG4).nd rfl (Qw rfl) ?_;(refine aBi ?_ ?_;(exact aAl);(refine aD6 ?_ ?_;(refine aAy aIb hr rfl ?_;(refine aAc ?_ ?_;(exact aAd 0);(refine aAc ?_ ?_;(exact aAl);(exact aAi))));(refine aTc ?_ ?_;(exact aAl);(exact aAl)))));(refine aAb ?_ ?_;(refine aA6 (i:=3) (aG4).nd rfl (Qw rfl) ?_;(refine aBi ?_ ?_;(exact aAl);(refine aD6 ?_ ?_;(refine aAy aIb hr rfl ?_;(refine aAc ?_ ?_;(exact aAd 0);(refine aAc ?_ ?_;(exact aAl);(exact aAi))));(refine aTc ?_ ?_;(exact aAl);(exact aAl)))));(refine aAb ?_ ?_;(refine aA6 (i:=4) (aG4).nd rfl (Qw rfl) ?_;(refine aD6 ?_ ?_;(refine aAy aIb hr rfl ?_;(refine aAc ?_ ?_;(exact aAd 0);(refine aAc ?_ ?_;(exact aAl);(exact aAi))));(exact aAl)));(refine aAb ?_ ?_;(refine aA6 (i:=5) (aG4).nd rfl (Qw rfl) ?_;(refine aJh ?_ ?_ (fun _ _=>rfl);(exact aAd 1);(exact aAl)));(refine aAb ?_ ?_;(refine aA6 (i:=6) (aG4).nd rfl (Qw rfl) ?_;(refine aJh ?_ ?_ (fun _ _=>rfl);(exact aAd 1);(refine aBi ?_ ?_;(exact aAl);(exact aAd 4))));(refine aAb ?_ ?_;(refine aA6 (i:=7) (aG4).nd rfl (Qw rfl) ?_;(refine aJh ?_ ?_ (fun _ _=>rfl);(exact aAd 1);(refine aBi ?_ ?_;(exact aAl);(refine aD6 ?_ ?_;(refine aBi ?_ ?_;(exact aAd 4);(exact aAl));(exact aAl)))));(refine aAb ?_ ?_;(refine aA6 (i:=8) (aG4).nd rfl (Qw rfl) ?_;(refine aLr ?_;(refine aAc ?_ ?_;(refine aBt ?_;(refine aAc ?_ ?_;(exact aCq);(refine aAc ?_ ?_;(exact aGq aYl hr' rfl);(exact aAi))));(refine aAc ?_ ?_;(refine aBt ?_;(refine aAc ?_ ?_;(exact aCq);(refine aAc ?_ ?_;(exact aGq bIh hr' rfl);(exact aAi))));(refine aAc ?_ ?_;(refine aBt ?_;(refine aAc ?_ ?_;(exact aCq);(refine aAc ?_ ?_;(refine aQ7 bIg hr' rfl ?_;(refine aAc ?_ ?_;(exact aAd 2);(exact aAi)));(exact aAi))));(refine aAc ?_ ?_;(refine aBt ?_;(refine aAc ?_ ?_;(exact aCq);(refine aAc ?_ ?_;(exact aGq bE8 hr' rfl);(exact aAi))));(refine aAc ?_ ?_;(refine aBt ?_;(refine aAc ?_ ?_;(exact aCq);(refine aAc ?_ ?_;(refine aQ7 bNq hr' rfl ?_;(refine aAc ?_ ?_;(refine aLr ?_;(refine aAc ?_ ?_;(exact aAd 6);(refine aAc ?_ ?_;(exact aAd 5);(exact aAi))));(exact aAi)));(exact aAi))));(refine aAc ?_ ?_;(refine aBt ?_;(refine aAc ?_ ?_;(exact aCq);(refine aAc ?_ ?_;(refine aQ7 bR5 hr' rfl ?_;(refine aAc ?_ ?_;(exact aAl);(exact aAi)));(exact aAi))));(refine aAc ?_ ?_;(refine aBt ?_;(refine aAc ?_ ?_;(exact aCq);(refine aAc ?_ ?_;(exact aGq bR4 hr' rfl);(exact aAi))));(refine aAc ?_ ?_;(refine aBt ?_;(refine aAc ?_ ?_;(exact aCq);(refine aAc ?_ ?_;(exact aGq bE7 hr' rfl);(exact aAi))));(refine aAc ?_ ?_;(refine aBt ?_;(refine aAc ?_ ?_;(exact aCq);(refine aAc ?_ ?_;(refine aQ7 bNr hr' rfl ?_;(refine aAc ?_ ?_;(exact aGq aYl hr' rfl);(refine aAc ?_ ?_;(exact aGq bE8 hr' rfl);(exact aAi))));(exact aAi))));(exact aAi))))))))))));(refine aAb ?_ ?_;(refine aXa Yi rfl ?_ (fun B=> ?_) (fun B=> ?_);(refine aBi ?_ ?_;(refine aBi ?_ ?_;(refine aAy aWh hr rfl ?_;(refine aAc ?_ ?_;(exact aAd 2);(refine aAc ?_ ?_;(exact aAd 3);(exact aAi))));(refine aAy bAi hr rfl ?_;(refine aAc ?_ ?_;(exact aAd 5);(refine aAc ?_ ?_;(exact aAd 6);(refine aAc ?_ ?_;(exact aAd 7);(exact aAi))))));(refine aAy aUg hr rfl ?_;(refine aAc ?_ ?_;(exact aAd 5);(refine aAc ?_ ?_;(exact aAd 6);(refine aAc ?_ ?_;(exact aAd 3);(exact aAi))))));(exact aXb (i:=9) (j:=10) rfl (aG4).nd rfl (Qw rfl) rfl (Qw rfl));(refine aAb ?_ ?_;(refine aDk ?_ ?_ ?_;(refine aW8 ?_ ?_;(refine aAy aLc hr rfl ?_;(refine aAc ?_ ?_;(exact aAd 8);(refine aAc ?_ ?_;(exact aAd 9);(exact aAi))));(exact aAd 10));(refine aAb ?_ ?_;(refine aAs ?_;(exact aIg));(exact aAh));(exact aAh));(exact aAh)));(refine aAb ?_ ?_;(refine aA6 (i:=11) (aG4).nd rfl (Qw rfl) ?_;(refine aAy bE4 hr rfl ?_;(refine aAc ?_ ?_;(exact aAd 1);(refine aAc ?_ ?_;(refine aAy aIb hr rfl ?_;(refine aAc ?_ ?_;(exact aAd 0);(refine aAc ?_ ?_;(exact aAl);(exact aAi))));(exact aAi)))));(refine aAb ?_ ?_;(refine aDk ?_ ?_ ?_;(refine PDW.pdt ?_;(refine bK9 ?_ ?_;(refine bB4 hr ?_ ?_;(exact aAd 11);(refine aBt ?_;(exact aAi)));(refine bGo ?_;(refine aW8 ?_ ?_;(refine aAy aLc hr rfl ?_;(refine aAc ?_ ?_;(exact aAd 8);(refine aAc ?_ ?_;(exact aAd 11);(exact aAi))));(exact aCq)))));(refine aAb ?_ ?_;(refine aAs ?_;(exact aIg));(exact aAh));(exact aAh));(refine aAb ?_ ?_;(refine aDk ?_ ?_ ?_;(refine bI4 ?_ ?_;(refine aLs rfl T.aPm ?_;(exact aAd 11));(exact aAl));(refine aAb ?_ ?_;(refine aAs ?_;(exact aIg));(exact aAh));(exact aAh));(refine aAb ?_ ?_;(refine aA6 (i:=4) (aG4).nd rfl (Qw rfl) ?_;(refine aBi ?_ ?_;(exact aAl);(refine aD6 ?_ ?_;(refine aAy aIb hr rfl ?_;(refine aAc ?_ ?_;(exact aAd 0);(refine aAc ?_ ?_;(exact aAl);(exact aAi))));(refine aLp ?_ ?_;(refine aLs rfl T.aPm ?_;(exact aAd 11));(exact aAl)))));(refine aAb ?_ ?_;(refine aAs ?_;(refine bPj ?_ ?_;(refine aAy aLc hr rfl ?_;(refine aAc ?_ ?_;(exact aAd 8);(refine aAc ?_ ?_;(refine aBi ?_ ?_;(refine aBi ?_ ?_;(refine aGp ?_ ?_ ?_;(exact aAd 11);(exact aGo);(refine aGn ?_;(refine aLp ?_ ?_;(exact aAd 4);(exact aAl))));(refine aBt ?_;(refine aAc ?_ ?_;(refine aJh ?_ ?_ (fun _ _=>rfl);(exact aAd 11);(exact aAd 4));(refine aAc ?_ ?_;(refine aJh ?_ ?_ (fun _ _=>rfl);(exact aAd 11);(refine aLp ?_ ?_;(exact aAd 4);(exact aAl)));(exact aAi)))));(refine aGp ?_ ?_ ?_;(exact aAd 11);(refine aGn ?_;(refine aBi ?_ ?_;(exact aAd 4);(exact aAl)));(exact aGo)));(exact aAi))));(exact aCq)));(exact aAh))))))))))))))
end
mutual
def gd:D->Bool
 | .non=>true | .bl _=>true | .int _=>true | .str _=>true
 | .tup ds=>decide (ds.length<=100)&&gdL ds
 | .lst ds=>decide (ds.length<=100)&&gdL ds
 | .dk _=>true
 | _=>false
def gdL:List D->Bool
 | []=>true
 | d::ds=>gd d&&gdL ds
end
theorem bDs: ∀{ds:List D},gdL ds=true->∀d∈ds,gd d=true
 | x::ds,h,d,hd=>by
  have h':(gd x&&gdL ds)=true:=h;rw[Zg] at h';rcases List.mem_cons.mp hd with e | e
  ·rw[e];exact h'.1
  ·exact bDs h'.2 d e
theorem aOm {ds:List D}(h:gd (.tup ds)=true):ds.length<=100/\∀d∈ds,gd d=true:=by
 have h':(decide (ds.length<=100)&&gdL ds)=true:=h;rw[Zg,decide_eq_true_eq] at h';exact⟨h'.1,bDs h'.2⟩
def mT:D->Bool
 | .bl _=>true
 | _=>false
def wh (l:Int):D->Bool
 | .int i=>decide (l<=i)
 | _=>false
def ltM (m:Int):D->Bool
 | .int i=>decide (i<m)
 | _=>false
def isN:D->Bool
 | .non=>true
 | _=>false
def bVc:D->Bool
 | .tup _=>true
 | _=>false
def isS:D->Bool
 | .str _=>true
 | _=>false
def mR (m:Int)(d:D):Bool:=wh 0 d&&ltM m d
def mO (d:D):Bool:=isN d || wh 0 d
def txs:D->Option (List Str)
 | .tup ds=>aIk ds
 | _=>none
def ltS (a b:Str):Bool:=decide (a.cps.toList<b.cps.toList)
def aNi:List Str->Bool
 | a::b::r=>ltS a b&&aNi (b::r)
 | _=>true
def leB:List Str->Bool
 | a::b::r=> !ltS b a&&leB (b::r)
 | _=>true
def leI:List Int->Bool
 | a::b::r=>decide (a<=b)&&leI (b::r)
 | _=>true
def aTn:List (List Str)->Bool
 | a::b::r=>aEu a b&&aTn (b::r)
 | _=>true
def mS (one:List Str)(d:D):Bool:=match txs d with | some xs=>aNi xs&&xs.all fun x=>one.contains x | none=>false
def mL:D->Bool
 | .tup ds=>decide (ds.length<=2)&&(ds.all (wh 0)&&match aTg ds with | some xs=>leI xs | none=>false)
 | _=>false
def bNx:D->Option (List Str)
 | .tup [a,_]=>txs a
 | _=>none
def aQh:D->Bool
 | .tup [a,b]=>(match txs a with | some xs=>leB xs | none=>false)&&wh 1 b
 | _=>false
def aKv:List D->Option (List (List Str))
 | []=>some []
 | d::ds=>match bNx d,aKv ds with | some k,some ks=>some (k::ks) | _,_=>none
def mU:D->Bool
 | .tup ds=>ds.all aQh&&match aKv ds with | some ks=>aTn ks | none=>false
 | _=>false
def inB (a b:List Str):Bool:=a.all fun x=>b.contains x
def aMl (S:List (List Str)):Bool:=S.all aNi&&(aTn S&&S.all fun a=>S.all fun b=> !(inB a b) || decide (a=b))
def mW:D->Bool
 | .tup ds=>match aCp ds with | some S=>aMl S | none=>false
 | _=>false
def mP:D->Bool
 | .tup [a,b]=>mT a&&mO b
 | _=>false
def aFf (t:Adr):List D->M D:=aIj 2 fun ds=>aBd (aHv t (aC0 aH8 ds))
def aLv (t:Adr):List D->M D:=aIj 1 fun ds=>aBd (aFh t (aC0 aH9 ds))
def aOr (t:Adr):List D->M D:=aIj 1 fun ds=>aBd (aCa t (aC0 aDb ds))
def aQf (t:Adr):List D->M D:=aIj 1 fun ds=>aBd (aBz t (aC0 aCr ds))
def aX5 (t:Adr):List D->M D:=aIj 1 fun ds=>aBd (aFi t (aLv t) (aFf t) (aOr t) (aC0 aIa ds))
theorem aGi (t:Adr){d:D}(h:gd d=true)(l:Int):aFf t [d,.int l]=ok (.bl (wh l d)):=by
 refine aBe rfl ?_;have e0:aC0 aH8 [d,.int l]=[some (.sh d),some (.sh (.int l))]:=rfl;rw[e0];cases d<;>first |(exact nomatch (h:false=true)) | rfl
theorem aIy {ρ:Rho}{f:Rho->M D}{d:D}(h:gd d=true)(hf:f ρ=ok d):isi "tuple" f ρ=ok (.bl (bVc d)):=by
 unfold isi;rw[hf];cases d<;>first |(exact nomatch (h:false=true)) | rfl
theorem bMp {ρ:Rho}{f:Rho->M D}{d:D}(h:gd d=true)(hf:f ρ=ok d):isi "str" f ρ=ok (.bl (isS d)):=by
 unfold isi;rw[hf];cases d<;>first |(exact nomatch (h:false=true)) | rfl
theorem aXy {ρ:Rho}{f:Rho->M D}{d:D}(h:gd d=true)(hf:f ρ=ok d):isi "bool" f ρ=ok (.bl (mT d)):=by
 unfold isi;rw[hf];cases d<;>first |(exact nomatch (h:false=true)) | rfl
theorem aWb {α:Type}(f:α->Bool)(l:List α):blL (l.map fun x=>D.bl (f x))=some (l.map f):=by
 induction l with
 | nil=>rfl
 | cons x l ih=>
  show (match blL (l.map fun x=>D.bl (f x)) with | some bs=>some (f x::bs) | none=>none)=_;rw[ih];rfl
theorem aYf {α:Type}(f:α->Bool)(l:List α):bAd (.lst (l.map fun x=>D.bl (f x)))=ok (.bl (l.all f)):=by
 show (match blL (l.map fun x=>D.bl (f x)) with | some bs=>ok (D.bl (bs.all id)) | none=>none)=_;rw[aWb];show ok (D.bl ((l.map f).all id))=_;rw[List.all_map];rfl
theorem aYe {k:Nat}{f:D->Bool}{fe:Rho->M D}{ρ:Rho}{g:Rho->M D}{ds:List D}(hg:g ρ=ok (.tup ds))(hl:ds.length<=100)(h: ∀d∈ds,fe ((ext 1 (free ρ)).set k (some (.sh d)))=ok (.bl (f d))):f1 bAd (cmp 1 (itE g) [k] h1 (fun _=>ok true) fe) ρ=ok (.bl (ds.all f)):=by
 have c:=aR3 (m:=1) (k:=k) (it:=itE g) (fe:=fe) (ρ:=ρ) (l:=ds) (e:=fun d=>d) (g:=fun d=>D.bl (f d)) (by unfold itE;rw[hg,List.map_id'];rfl) (by omega) fun d hd=>⟨h d hd,rfl⟩
 exact aFt c (aYf f ds)
theorem aGz {f g:Rho->M D}{ρ:Rho}{a b:Bool}(h1:f ρ=ok (.bl a))(h2:a=true->g ρ=ok (.bl b)):aO3 f g ρ=ok (.bl (a&&b)):=by
 unfold aO3;rw[h1];cases a
 ·rfl
 ·exact h2 rfl
theorem aWu: ∀(ds:List D),ds.all isS=(aIk ds).isSome
 | []=>rfl
 | d::ds=>by
  rw[Yx,aWu ds];cases d<;>first | rfl | skip
  show (aIk ds).isSome=(match aIk ds with | some xs=>some (_::xs) | none=>none).isSome;cases aIk ds<;>rfl
theorem aQx (t:Adr){d:D}(h:gd d=true):aLv t [d]=ok (.bl (txs d).isSome):=by
 refine aBe rfl ?_;have e0:aC0 aH9 [d]=[some (.sh d)]:=rfl;rw[e0];unfold aFh;have b:aO3 (isi "tuple" (look 0)) (f1 bAd (cmp 1 (itE (look 0)) [1] h1 (fun _=>ok true) (isi "str" (look 1)))) [some (.sh d)]=ok (.bl (bVc d&&match d with | .tup ds=>ds.all isS | _=>false)):=by
  refine aGz (aIy h rfl) fun ht=> ?_
  cases d with
  | tup ds=>
   obtain⟨h1,h2⟩:=aOm h;exact aYe rfl h1 fun d hd=>bMp (h2 d hd) rfl
  | _=>cases ht
 rw[aBa (aBl b)];show ok (D.bl _)=_
 congr 2
 cases d<;>first | rfl | skip
 show (true&&_)=(aIk _).isSome;rw[V7];exact aWu _
theorem aMv {α:Type}{e:α->D}{R:α->α->Bool}{gg:D->D->M D}{x:D}{xs:List α}(hx2:x= .tup (xs.map e)\/x= .lst (xs.map e))(he: ∀a,(e a).imm=true)(hl:xs.length<=100)
  (hg: ∀a b,gg (e a) (e b)=ok (.bl (R a b))):f1 bAd (cmp 2 (itZ (look 0) (aPl (look 0) (aFm (con (.int 1))) aGr)) [1,2] h2 (fun _=>ok true) (b2 gg (look 1) (look 2))) [some (.sh x)]=ok (.bl ((xs.zip (xs.drop 1)).all fun p=>R p.1 p.2)):=by
 have hc: ∃y,aPl (look 0) (aFm (con (.int 1))) aGr [some (.sh x)]=ok y/\itD y=ok ((xs.drop 1).map e):=by
  have hd:cutD (xs.map e) (some ((1:Nat):Int)) none=(xs.drop 1).map e:=by
   by_cases h0:xs=[]
   ·subst h0;rfl
   ·have h1:1<=xs.length:=List.length_pos_iff.mpr h0
    rw[aX8 _ (by rw[Qh];exact h1),List.map_drop]
  rcases hx2 with rfl | rfl
  ·exact⟨.tup (cutD (xs.map e) (some ((1:Nat):Int)) none),rfl,by rw[hd];rfl⟩
  ·exact⟨.lst (cutD (xs.map e) (some ((1:Nat):Int)) none),rfl,by rw[hd];rfl⟩
 obtain⟨y,hy,iy⟩:=hc;have hz:=bMo (f:=look 0) (x:=x) (e:=e) (xs:=xs) (ys:=xs.drop 1) rfl hy (by rcases hx2 with rfl | rfl<;>rfl) iy;have c:=bNb (m:=2) (k:=1) (k2:=2) (fe:=b2 gg (look 1) (look 2)) (g:=fun (p:α×α)=>D.bl (R p.1 p.2)) (by decide) he hz (by rw[List.length_zip];omega) fun p hp=>⟨aB2 (x:=e p.1) (y:=e p.2) rfl rfl (hg p.1 p.2),rfl⟩
 exact aFt c (aYf (fun (p:α×α)=>R p.1 p.2) _)
theorem bN1 {α:Type}{R:α->α->Bool}(B:List α->Bool)(h0:B []=true)(h1: ∀a,B [a]=true)(h2: ∀a b r,B (a::b::r)=(R a b&&B (b::r))): ∀(xs:List α),((xs.zip (xs.drop 1)).all fun p=>R p.1 p.2)=B xs
 | []=>h0.symm
 | [a]=>(h1 a).symm
 | a::b::r=>by
  rw[h2,<-bN1 B h0 h1 h2 (b::r)];rfl
theorem bD1 (t:Adr){xs:List Str}(hl:xs.length<=100):aOr t [tS xs]=ok (.bl (leB xs)):=by
 refine aBe rfl ?_;have e0:aC0 aDb [tS xs]=[some (.sh (tS xs))]:=rfl;rw[e0];unfold aCa;rw[aBa (aBl (aMv (e:=D.str) (R:=fun a b=> !ltS b a) (.inl rfl) (fun _=>rfl) hl fun a b=>rfl)),bN1 leB rfl (fun _=>rfl) (fun _ _ _=>rfl)];rfl
theorem bD2 (t:Adr){xs:List Int}(hl:xs.length<=100):aOr t [.tup (xs.map D.int)]=ok (.bl (leI xs)):=by
 refine aBe rfl ?_;have e0:aC0 aDb [.tup (xs.map D.int)]=[some (.sh (.tup (xs.map D.int)))]:=rfl;rw[e0];unfold aCa;rw[aBa (aBl (aMv (e:=D.int) (R:=fun a b=>decide (a<=b)) (.inl rfl) (fun _=>rfl) hl fun a b=>rfl)),bN1 leI rfl (fun _=>rfl) (fun _ _ _=>rfl)];rfl
theorem bBp (t:Adr){xs:List Str}(hl:xs.length<=100):aQf t [tS xs]=ok (.bl (aNi xs)):=by
 refine aBe rfl ?_;have e0:aC0 aCr [tS xs]=[some (.sh (tS xs))]:=rfl;rw[e0];unfold aBz;rw[aBa (aBl (aMv (e:=D.str) (R:=ltS) (.inl rfl) (fun _=>rfl) hl fun a b=>rfl)),bN1 aNi rfl (fun _=>rfl) (fun _ _ _=>rfl)];rfl
theorem aY0 (t:Adr){xs:List (List Str)}(hl:xs.length<=100):aQf t [.lst (xs.map tS)]=ok (.bl (aTn xs)):=by
 refine aBe rfl ?_;have e0:aC0 aCr [.lst (xs.map tS)]=[some (.sh (.lst (xs.map tS)))]:=rfl;rw[e0];unfold aBz;rw[aBa (aBl (aMv (e:=tS) (R:=aEu) (.inr rfl) (fun a=>aJr a) hl fun a b=>by
  show (match aQu (a.map D.str),aQu (b.map D.str) with | some xs,some ys=>ok (D.bl (aEu xs ys)) | _,_=>none)=_;rw[aSi,aSi])),bN1 aTn rfl (fun _=>rfl) (fun _ _ _=>rfl)]
 rfl
theorem bAu {d:D}{xs:List Str}(h:txs d=some xs):d=tS xs:=by
 cases d<;>first |(cases h;done) | skip
 rename_i ds;rw[aIs ds h]
theorem aKu {ρ:Rho}{f:Rho->M D}{ds:List D}(hf:f ρ=ok (.tup ds)):f1 aI3 f ρ=ok (.int (ds.length:Int)):=by
 unfold f1;rw[hf];rfl
theorem aXo {n:Nat}{f:Rho->M D}{ρ:Rho}{k:Nat}(hf:f ρ=ok (.int (k:Int))):aA9 (b2 gNe f (con (.int (n:Int)))) ρ=ok (!decide (k=n)):=by
 refine aDy (aB2 hf (y:= .int (n:Int)) rfl ?_);show ok (D.bl (!decide ((k:Int)=(n:Int))))=_;rw[show decide ((k:Int)=(n:Int))=decide (k=n) from decide_eq_decide.mpr (by omega)]
theorem aIv {f g:Rho->M Bool}{ρ:Rho}{a b:Bool}(h1:f ρ=ok a)(h2:a=false->g ρ=ok b):orB f g ρ=ok (a || b):=by
 unfold orB;rw[h1];cases a
 ·exact h2 rfl
 ·rfl
theorem aZp {c:Rho->M Bool}{G:Rho->Option Out}{ρ:Rho}{d:D}(h:c ρ=ok true):aAn (sIf c (aAn (aC4 (con d)) aAz) aAz) G ρ=some (.rt d):=aBa (aS1 h)
theorem bHu (t:Adr){d:D}(h:gd d=true):aX5 t [d]=ok (.bl (aQh d)):=by
 refine aBe rfl ?_;have e0:aC0 aIa [d]=[some (.sh d)]:=rfl;rw[e0];unfold aFi;by_cases hd: ∃a b,d= .tup [a,b]
 ·obtain⟨a,b,rfl⟩:=hd
  obtain⟨h1,h2⟩:=aOm h;have ga:=h2 a Qm;have gb:=h2 b (Qr _ Qm);have t1:orB (aKi (test (isi "tuple" (look 0)))) (aA9 (b2 gNe (f1 aI3 (look 0)) (con (.int 2)))) [some (.sh (.tup [a,b]))]=ok false:=
   aIv (aFo (aEc (aIy h rfl) rfl)) fun _=>(aXo (n:=2) (aKu (ds:=[a,b]) rfl)).trans rfl
  rw[aAe ((aHl t1).trans rfl)];have ia:b2 gIx (look 0) (con (.int 0)) [some (.sh (.tup [a,b]))]=ok a:=rfl;have ib:b2 gIx (look 0) (con (.int 1)) [some (.sh (.tup [a,b]))]=ok b:=rfl;have r:aO3 (app (aLv t) (aAa (b2 gIx (look 0) (con (.int 0))) aAg)) (aO3 (app (aOr t) (aAa (b2 gIx (look 0) (con (.int 0))) aAg)) (app (aFf t) (aAa (b2 gIx (look 0) (con (.int 1))) (aAa (con (.int 1)) aAg)))) [some (.sh (.tup [a,b]))]=ok (.bl ((txs a).isSome&&((match txs a with | some xs=>leB xs | none=>false)&&wh 1 b))):=by
   refine aGz ((aBo (aAf ia aAq)).trans (aQx t ga)) fun hs=> ?_
   obtain⟨xs,hx⟩:=Option.isSome_iff_exists.mp hs;have ea:=bAu hx;subst ea;have hl:xs.length<=100:=by have:=(aOm ga).1;rwa [Qh] at this
   rw[hx];exact aGz ((aBo (aAf ia aAq)).trans (bD1 t hl)) fun _=>(aBo (aAf ib (aAf (d:= .int 1) rfl aAq))).trans (aGi t gb 1)
  rw[aBa (aBl r)];show ok (D.bl _)=ok (D.bl ((match txs a with | some xs=>leB xs | none=>false)&&wh 1 b));cases txs a<;>rfl
 ·have t1:orB (aKi (test (isi "tuple" (look 0)))) (aA9 (b2 gNe (f1 aI3 (look 0)) (con (.int 2)))) [some (.sh d)]=ok true:=by
   have:=aIv (f:=aKi (test (isi "tuple" (look 0)))) (g:=aA9 (b2 gNe (f1 aI3 (look 0)) (con (.int 2)))) (ρ:=[some (.sh d)]) (b:=true) (aFo (aEc (aIy h rfl) rfl)) fun ht=>by
    cases d<;>first |(cases ht;done) | skip
    rename_i ds;refine (aXo (n:=2) (aKu rfl)).trans ?_;rw[decide_eq_false]
    ·rfl
    ·intro hl
     match ds,hl with
     | [a,b],_=>exact hd ⟨a,b,rfl⟩
   rw[this,Eh]
  rw[aZp t1];have:aQh d=false:=by
   cases d<;>first | rfl | skip
   rename_i ds
   match ds with
   | []=>rfl
   | [_]=>rfl
   | [a,b]=>exact absurd ⟨a,b,rfl⟩ hd
   | _::_::_::_=>rfl
  rw[this];rfl
def oT (t:Adr):D:= .obj t.aAr [("nought",.bl false),("one",.bl true)]
def oC (t:Adr):D:= .obj t.aA3 [("nought",.int 0),("one",.int 1)]
def oRo (t:Adr)(m:Int):D:= .obj t.aAw [("many",.int m),("nought",.int 0),("one",.int 1)]
def oCo (t:Adr):D:= .obj t.aA2 [("nought",.non),("one",.int 0)]
def oSe (t:Adr)(one:List Str):D:= .obj t.aA7 [("nought",.tup []),("one",tS one)]
def oLo (t:Adr):D:= .obj t.aBp [("many",.int 2),("nought",.tup []),("one",.tup [.int 0])]
def oSu (t:Adr):D:= .obj t.aBv [("nought",.tup []),("one",.tup [.tup [.tup [],.int 1]])]
def oRe (t:Adr):D:= .obj t.aAu [("nought",.tup []),("one",.tup [.tup []])]
def oPa (t:Adr):D:= .obj t.aA8 [("left",oT t),("right",oCo t),("nought",.tup [.bl false,.non]),("one",.tup [.bl true,.int 0])]
theorem bSf (t:Adr):cs t t.aAw=true:=by simp[cs]
theorem bUm (t:Adr):cs t t.aA7=true:=by simp[cs]
theorem bSg (t:Adr):cs t t.aBp=true:=by simp[cs]
theorem bN0 (t:Adr):cs t t.aA8=true:=by simp[cs]
def gT (t:Adr):List D->M D:=aIj 2 fun ds=>aBd (aB3 t (aC0 aCu ds))
def gC (t:Adr):List D->M D:=aIj 2 fun ds=>aBd (aB7 t (aFf t) (aC0 aCy ds))
def gR (t:Adr):List D->M D:=aIj 2 fun ds=>aBd (aB5 t (aFf t) (aC0 aCw ds))
def gO (t:Adr):List D->M D:=aIj 2 fun ds=>aBd (aCj t (aFf t) (aC0 aDg ds))
def gS (t:Adr):List D->M D:=aIj 2 fun ds=>aBd (aCg t (aQf t) (aLv t) (aC0 aDc ds))
def gL (t:Adr):List D->M D:=aIj 2 fun ds=>aBd (aCt t (aFf t) (aOr t) (aC0 aD2 ds))
def gU (t:Adr):List D->M D:=aIj 2 fun ds=>aBd (aCs t (aQf t) (aX5 t) (aC0 aD1 ds))
theorem bRa (t:Adr)(o:D){d:D}(h:gd d=true):gT t [o,d]=ok (.bl (mT d)):=by
 refine aBe rfl ?_;have e0:aC0 aCu [o,d]=[some (.sh o),some (.sh d)]:=rfl;rw[e0];unfold aB3;rw[aBa (aBl (aXy (f:=look 1) h rfl))];rfl
theorem bUf (t:Adr)(o:D){d:D}(h:gd d=true):gC t [o,d]=ok (.bl (wh 0 d)):=by
 refine aBe rfl ?_;have e0:aC0 aCy [o,d]=[some (.sh o),some (.sh d)]:=rfl;rw[e0];unfold aB7;rw[aBa (aBl ((aBo (aAf (f:=look 1) (d:=d) rfl (aAf (d:= .int 0) rfl aAq))).trans (aGi t h 0)))];rfl
theorem bIi {l:Int}{d:D}(h:wh l d=true): ∃i,d= .int i/\l<=i:=by
 cases d<;>first |(cases h;done) | skip
 exact⟨_,rfl,by simpa[wh] using h⟩
theorem bUb (t:Adr)(m:Int){d:D}(h:gd d=true):gR t [oRo t m,d]=ok (.bl (mR m d)):=by
 refine aBe rfl ?_;have e0:aC0 aCw [oRo t m,d]=[some (.sh (oRo t m)),some (.sh d)]:=rfl;rw[e0];unfold aB5;have r:aO3 (app (aFf t) (aAa (look 1) (aAa (con (.int 0)) aAg))) (b2 gLt (look 1) (fld (cs t) "many" (look 0))) [some (.sh (oRo t m)),some (.sh d)]=ok (.bl (wh 0 d&&ltM m d)):=by
  refine aGz ((aBo (aAf (f:=look 1) (d:=d) rfl (aAf (d:= .int 0) rfl aAq))).trans (aGi t h 0)) fun hw=> ?_
  obtain⟨i,rfl,_⟩:=bIi hw;exact aB2 (x:= .int i) rfl (aJs (C:=t.aAw) (d:= .int m) rfl (bSf t) rfl) rfl
 rw[aBa (aBl r)];rfl
theorem bI7 {f g:Rho->M D}{ρ:Rho}{a b:Bool}(h1:f ρ=ok (.bl a))(h2:g ρ=ok (.bl b)):orV f g ρ=ok (.bl (a || b)):=by
 unfold orV;rw[h1,h2];cases a<;>rfl
theorem bRc (t:Adr)(o:D){d:D}(h:gd d=true):gO t [o,d]=ok (.bl (mO d)):=by
 refine aBe rfl ?_;have e0:aC0 aDg [o,d]=[some (.sh o),some (.sh d)]:=rfl;rw[e0];unfold aCj;have r1:b2 gIs (look 1) (con .non) [some (.sh o),some (.sh d)]=ok (.bl (isN d)):=by
  cases d<;>first |(exact nomatch (h:false=true)) | rfl
 rw[aBa (aBl (bI7 r1 ((aBo (aAf (f:=look 1) (d:=d) rfl (aAf (d:= .int 0) rfl aAq))).trans (aGi t h 0))))];rfl
theorem bD7 {x y:List Str}{k:Str}:k∈aX7 x y↔k∈x/\¬k∈y:=by
 unfold aX7;rw[Vl,W9,<-Bool.not_eq_true,Q5]
theorem bM9 {xs one:List Str}:decide (((aX7 (aDh xs) (aDh one)).length:Int)=0)=xs.all fun x=>one.contains x:=by
 rw[Yd,decide_eq_true_eq,Uc];have:((aX7 (aDh xs) (aDh one)).length:Int)=0↔aX7 (aDh xs) (aDh one)=[]:=by
  rw[<-List.length_eq_zero_iff];omega
 rw[this,List.eq_nil_iff_forall_not_mem]
 constructor
 ·intro h x hx
  have:=h x;rw[bD7] at this;have hm:x∈aDh xs:=by rw[<-Q5,aGt,Q5];exact hx
  rw[<-aGt];rw[Q5];exact Vh fun q=>this ⟨hm,q⟩
 ·intro h x hx
  rw[bD7] at hx;have hm:x∈xs:=by rw[<-Q5,<-aGt,Q5];exact hx.1
  have:=h x hm;rw[<-aGt,Q5] at this;exact hx.2 this
theorem bUa (t:Adr){one:List Str}(ho:one.length<=100)(ho2:25<=25*one.length){d:D}(h:gd d=true)(h2: ∀xs,txs d=some xs->xs.length<=4)(hm:1<=(aDh one).length):gS t [oSe t one,d]=ok (.bl (mS one d)):=by
 refine aBe rfl ?_;have e0:aC0 aDc [oSe t one,d]=[some (.sh (oSe t one)),some (.sh d)]:=rfl;rw[e0];unfold aCg;have r:aO3 (app (aLv t) (aAa (look 1) aAg)) (aO3 (app (aQf t) (aAa (look 1) aAg)) (b2 gEq (f1 bQc (b2 aV0 (f1 toS (look 1)) (f1 toS (fld (cs t) "one" (look 0))))) (con (.int 0)))) [some (.sh (oSe t one)),some (.sh d)]=ok (.bl ((txs d).isSome&&(match txs d with | some xs=>aNi xs&&xs.all fun x=>one.contains x | none=>false))):=by
  refine aGz ((aBo (aAf (f:=look 1) (d:=d) rfl aAq)).trans (aQx t h)) fun hs=> ?_
  obtain⟨xs,hx⟩:=Option.isSome_iff_exists.mp hs;have ea:=bAu hx;have hl:=h2 xs hx;rw[hx];subst ea;refine aGz ((aBo (aAf (f:=look 1) (d:=tS xs) rfl aAq)).trans (bBp t (by omega))) fun _=> ?_
  have f1':fld (cs t) "one" (look 0) [some (.sh (oSe t one)),some (.sh (tS xs))]=ok (tS one):=aJs (C:=t.aA7) rfl (bUm t) rfl;have s1:f1 toS (look 1) [some (.sh (oSe t one)),some (.sh (tS xs))]=ok (.set (aDh xs)):=aFt (d:=tS xs) rfl (bA1 (by omega));have s2:f1 toS (fld (cs t) "one" (look 0)) [some (.sh (oSe t one)),some (.sh (tS xs))]=ok (.set (aDh one)):=aFt f1' (bA1 (by omega));have s3:b2 aV0 (f1 toS (look 1)) (f1 toS (fld (cs t) "one" (look 0))) [some (.sh (oSe t one)),some (.sh (tS xs))]=ok (.set (aX7 (aDh xs) (aDh one))):=by
   have:=aRq xs;exact aB2 s1 s2 (if_pos ⟨aF8 _,by omega,by omega⟩)
  have s4:=bJs (f:=f1 bQc (b2 aV0 (f1 toS (look 1)) (f1 toS (fld (cs t) "one" (look 0))))) (g:=con (.int 0)) (i:=((aX7 (aDh xs) (aDh one)).length:Int)) (j:=0) (aFt (g:=bQc) s3 rfl) rfl;rw[bM9] at s4;exact s4
 rw[aBa (aBl r)];show ok (D.bl _)=ok (D.bl (mS one d));unfold mS;cases txs d<;>rfl
theorem bCl: ∀(ds:List D),ds.all (wh 0)=true->∃xs,aTg ds=some xs/\ds=xs.map D.int
 | [],_=>⟨[],rfl,rfl⟩
 | d::ds,h=>by
  rw[Yx,Zg] at h;obtain⟨i,rfl,_⟩:=bIi h.1;obtain⟨xs,e1,e2⟩:=bCl ds h.2;refine⟨i::xs,?_,by rw[Qv,<-e2]⟩;show (match aTg ds with | some xs=>some (i::xs) | none=>none)=_;rw[e1]
theorem bQ5 {f:Rho->M D}{ρ:Rho}{k n:Nat}{g:Rho->M D}(hf:f ρ=ok (.int (k:Int)))(hg:g ρ=ok (.int (n:Int))):aA9 (b2 gGt f g) ρ=ok (!decide (k<=n)):=by
 refine aDy (aB2 hf hg ?_);show ok (D.bl (decide ((n:Int)<(k:Int))))=_
 congr 2
 rw[Yd,decide_eq_true_eq,W9,decide_eq_false_iff_not];omega
theorem bUd (t:Adr){d:D}(h:gd d=true):gL t [oLo t,d]=ok (.bl (mL d)):=by
 refine aBe rfl ?_;have e0:aC0 aD2 [oLo t,d]=[some (.sh (oLo t)),some (.sh d)]:=rfl;rw[e0];unfold aCt;have hm:fld (cs t) "many" (look 0) [some (.sh (oLo t)),some (.sh d)]=ok (.int ((2:Nat):Int)):=aJs (C:=t.aBp) rfl (bSg t) rfl;have ht:=aFo (aEc (aIy (f:=look 1) (ρ:=[some (.sh (oLo t)),some (.sh d)]) h rfl) rfl);cases d with
 | tup ds=>
  obtain⟨h1',h2⟩:=aOm h;have t1:=aIv ht fun _=>bQ5 (aKu (f:=look 1) (ds:=ds) rfl) hm
  by_cases hl:ds.length<=2
  ·rw[decide_eq_true hl] at t1
   rw[aAe ((aHl t1).trans rfl)];have r:aO3 (f1 bAd (cmp 1 (itE (look 1)) [2] h1 (fun _=>ok true) (app (aFf t) (aAa (look 2) (aAa (con (.int 0)) aAg))))) (app (aOr t) (aAa (look 1) aAg)) [some (.sh (oLo t)),some (.sh (.tup ds))]=ok (.bl (ds.all (wh 0)&&match aTg ds with | some xs=>leI xs | none=>false)):=by
    refine aGz (aYe rfl h1' fun d hd=>(aBo (aAf (d:=d) rfl (aAf (d:= .int 0) rfl aAq))).trans (aGi t (h2 d hd) 0)) fun ha=> ?_
    obtain⟨xs,e1,e2⟩:=bCl ds ha;rw[e1];subst e2;exact (aBo (aAf (f:=look 1) (d:= .tup (xs.map D.int)) rfl aAq)).trans (bD2 t (by rwa [Qh] at h1'))
   rw[aBa (aBl r)];show ok (D.bl _)=ok (D.bl (decide (ds.length<=2)&&_));rw[decide_eq_true hl,V7]<;>rfl
  ·rw[decide_eq_false hl] at t1
   rw[aZp t1];show ok (D.bl false)=ok (D.bl (decide (ds.length<=2)&&_));rw[decide_eq_false hl];rfl
 | _=>first |(exact nomatch (h:false=true)) | rfl
theorem bC1: ∀(ds:List D),ds.all aQh=true->∃ks,aKv ds=some ks/\ds.length=ks.length/\∀(i:Nat) (d:D),ds[i]? =some d->∃k,ks[i]? =some k/\∃b,d= .tup [tS k,b]
 | [],_=>⟨[],rfl,rfl,fun i d h=>by simp at h⟩
 | d::ds,h=>by
  rw[Yx,Zg] at h;obtain⟨ks,e1,e2,e3⟩:=bC1 ds h.2;have: ∃a b xs,d= .tup [a,b]/\txs a=some xs:=by
   have hd:=h.1;unfold aQh at hd;split at hd
   ·rename_i a b
    cases hx:txs a with
    | none=>rw[hx] at hd;cases hd
    | some xs=>exact⟨a,b,xs,rfl,hx⟩
   ·cases hd
  obtain⟨a,b,xs,rfl,hx⟩:=this;have ea:=bAu hx;subst ea;refine⟨xs::ks,?_,by rw[Qk,Qk,e2],fun i d hi=> ?_⟩
  ·show (match txs (tS xs),aKv ds with | some k,some ks=>some (k::ks) | _,_=>none)=_
   rw[hx,e1]
  ·cases i with
   | zero=>simp at hi;exact⟨xs,rfl,b,hi.symm⟩
   | succ i=>
    obtain⟨k,q1,q2⟩:=e3 i d (by simpa using hi);exact⟨k,by simpa using q1,q2⟩
theorem bT9 (t:Adr)(o:D){d:D}(h:gd d=true):gU t [o,d]=ok (.bl (mU d)):=by
 refine aBe rfl ?_;have e0:aC0 aD1 [o,d]=[some (.sh o),some (.sh d)]:=rfl;rw[e0];unfold aCs;have ht:=aFo (aEc (aIy (f:=look 1) (ρ:=[some (.sh o),some (.sh d)]) h rfl) rfl);cases d with
 | tup ds=>
  obtain⟨hl,h2⟩:=aOm h;have a1:=aYe (k:=2) (f:=aQh) (fe:=app (aX5 t) (aAa (look 2) aAg)) (ρ:=[some (.sh o),some (.sh (.tup ds))]) (g:=look 1) (ds:=ds) rfl hl fun d hd=>(aBo (aAf (d:=d) rfl aAq)).trans (bHu t (h2 d hd))
  have t1:=aIv ht fun _=>aFo (aEc a1 (b:=ds.all aQh) rfl)
  cases ha:ds.all aQh with
  | false=>
   rw[ha] at t1;rw[aZp t1];show ok (D.bl false)=ok (D.bl (ds.all aQh&&_));rw[ha];rfl
  | true=>
   rw[ha] at t1;rw[aAe ((aHl t1).trans rfl)];obtain⟨ks,e1,e2,e3⟩:=bC1 ds ha;have c:=aR3 (m:=1) (k:=2) (it:=itE (look 1)) (fe:=b2 gIx (look 2) (con (.int 0))) (ρ:=[some (.sh o),some (.sh (.tup ds))]) (l:=(Zj ds.length)) (e:=fun i=>ds.getD i .non) (g:=fun i=>tS (ks.getD i [])) (by
     show ok ds=ok _
     congr 1
     apply Uq (by simp)
     intro i h1 h2;simp[h1]) (by rw[Zo];omega) fun i hi=>by
    have hi':=List.mem_range.mp hi;obtain⟨k,q1,b,q2⟩:=e3 i _ (Qj hi');refine⟨?_,aJr _⟩;have d1:ds.getD i .non= .tup [tS k,b]:=by rw[Q0,Qj hi'];exact q2
    have d2:ks.getD i []=k:=by rw[Q0,q1];rfl
    rw[d1,d2];rfl
   have c2:((Zj ds.length).map fun i=>tS (ks.getD i []))=ks.map tS:=by
    apply Uq (by simp[e2])
    intro i h1 h2;have:i<ks.length:=by simpa using h2
    simp[this]
   rw[c2] at c;rw[aBa (aBl ((aBo (aAf c aAq)).trans (aY0 t (by omega))))];show ok (D.bl (aTn ks))=ok (D.bl (ds.all aQh&&match aKv ds with | some ks=>aTn ks | none=>false));rw[ha,e1];rfl
 | _=>first |(exact nomatch (h:false=true)) | rfl
def bVj (t:Adr):List D->M D:=aIj 2 fun ds=>aBd (aFw t (aC0 aH0 ds))
def fLB (t:Adr):List D->M D:=aIj 1 fun ds=>aBd (aFv t (bVj t) (aC0 aHz ds))
def bRk (t:Adr):List D->M D:=aIj 2 fun ds=>aBd (aI1 t (aC0 aOu ds))
def bRj (t:Adr):List D->M D:=aIj 1 fun ds=>aBd (aFu t (aC0 aHy ds))
def fLO (t:Adr):List D->M D:=aIj 1 fun ds=>aBd (aHu t (bRk t) (fLB t) (bRj t) (aC0 aLa ds))
def gW (t:Adr):List D->M D:=aIj 2 fun ds=>aBd (aBy t (aLv t) (fLO t) (aC0 aCl ds))
theorem fns (t:Adr):bNs (bRk t) (fLB t) (bRj t) where
 b:=fun ks xs hk hx=>aBe rfl (bNh hk hx)
 l:=fun ns hl hb=>by
  obtain⟨L,h1,h2⟩:=bTt (F:=bVj t) (fun kp one hk ho=>aBe rfl (bQ3 hk ho)) hl hb;exact⟨L,h1,aBe rfl h2⟩
 n:=fun d S hd hl=>aBe rfl (bLw hd hl)
theorem aJt {α:Type}{R:α->α->Bool}(B:List α->Bool)(h1: ∀a,B [a]=true)(h2: ∀a b r,B (a::b::r)=(R a b&&B (b::r)))(h0:B []=true)(tr: ∀{a b c},R a b=true->R b c=true->R a c=true): ∀(xs:List α),B xs=true↔xs.Pairwise fun a b=>R a b=true
 | []=>by simp[h0]
 | [a]=>by simp[h1]
 | a::b::r=>by
  rw[h2,Zg,aJt B h1 h2 h0 tr (b::r),E2 (a:=a)];refine⟨fun⟨h,p⟩=>⟨fun y hy=> ?_,p⟩,fun⟨h,p⟩=>⟨h b Qm,p⟩⟩;rcases List.mem_cons.mp hy with e | e
  ·rw[e];exact h
  ·exact tr h (Ug p e)
theorem aW3 (xs:List Str):aNi xs=true↔bJ2 xs:=aJt (R:=ltS) aNi (fun _=>rfl) (fun _ _ _=>rfl) rfl (fun h1 h2=>aXr h1 h2) xs
theorem aVo (S:List (List Str)):aTn S=true↔S.Pairwise fun a b=>aEu a b=true:=aJt (R:=aEu) aTn (fun _=>rfl) (fun _ _ _=>rfl) rfl (fun h1 h2=>aP7 h1 h2) S
theorem bJm {a b:List Str}:inB a b=true↔∀z∈a,z∈b:=by
 unfold inB;rw[Uc];exact forall_congr' fun z=>forall_congr' fun _=>Q5
theorem bHq (S:List (List Str)):aMl S=true↔aQm (· ∈S) S:=by
 unfold aMl;rw[Zg,Zg,Uc,aVo,Uc]
 constructor
 ·rintro⟨h1,h2,h3⟩
  refine⟨fun r hr=>⟨(aW3 r).mp (h1 r hr),r,hr,fun z=>Iff.rfl⟩,fun xs hx=>⟨xs,hx,fun z hz=>hz⟩,fun r hr r' hr' h=> ?_,h2⟩;have:=List.all_eq_true.mp (h3 r hr) r' hr';rw[bJm.mpr h] at this
  simpa using this
 ·intro h
  refine⟨fun r hr=>(aW3 r).mpr (h.frm r hr).1,h.asc,fun r hr=>List.all_eq_true.mpr fun r' hr'=> ?_⟩;cases q:inB r r' with
  | false=>rfl
  | true=>simp[h.anti r hr r' hr' (bJm.mp q)]
theorem aWq: ∀(ds:List D),(ds.all fun d=>(txs d).isSome)=(aCp ds).isSome
 | []=>rfl
 | d::ds=>by
  rw[Yx,aWq ds];cases d<;>first | rfl | skip
  rename_i es;show ((aIk es).isSome&&(aCp ds).isSome)=(match aIk es,aCp ds with | some x,some l=>some (x::l) | _,_=>none).isSome;cases aIk es<;>cases aCp ds<;>rfl
theorem bT8 (t:Adr)(o:D){d:D}(h:gd d=true)(h2: ∀ds S,d= .tup ds->aCp ds=some S->S.flatten.length<=5):gW t [o,d]=ok (.bl (mW d)):=by
 refine aBe rfl ?_;have e0:aC0 aCl [o,d]=[some (.sh o),some (.sh d)]:=rfl;rw[e0];unfold aBy;have ht:=aFo (aEc (aIy (f:=look 1) (ρ:=[some (.sh o),some (.sh d)]) h rfl) rfl);cases d with
 | tup ds=>
  obtain⟨hl,hm⟩:=aOm h;have a1:=aYe (k:=2) (f:=fun d=>(txs d).isSome) (fe:=app (aLv t) (aAa (look 2) aAg)) (ρ:=[some (.sh o),some (.sh (.tup ds))]) (g:=look 1) (ds:=ds) rfl hl fun d hd=>(aBo (aAf (d:=d) rfl aAq)).trans (aQx t (hm d hd))
  rw[aWq] at a1;have t1:=aIv ht fun _=>aFo (aEc a1 (b:=(aCp ds).isSome) rfl)
  cases hS:aCp ds with
  | none=>
   rw[hS] at t1;rw[aZp t1];show ok (D.bl false)=ok (D.bl (match aCp ds with | some S=>aMl S | none=>false));rw[hS]
  | some S=>
   rw[hS] at t1;rw[aAe ((aHl t1).trans rfl)];have eS:=aI4 _ hS;have hf:=h2 ds S rfl hS;have hSl:S.length<=100:=by rw[eS,Qh] at hl;exact hl
   have hk:(aTh S).length<=5:=Zs (aRq _) hf;obtain⟨R,r1,r2,r3,r4⟩:=bTq (fns t) (d:= .lst (S.map tS)) (S:=S) rfl (by omega) (by omega) hk;have eL:fLO t [.lst (S.map tS)]=ok (.tup (R.map tS)):=aBe rfl r4;have eq:decide (R=S)=aMl S:=by
    rw[Yd,decide_eq_true_eq,bHq]
    constructor
    ·intro e;rw[e] at r1;exact r1
    ·intro q;exact q.self r1
   have g:b2 aV1 (app (fLO t) (aAa (f1 toL (look 1)) aAg)) (look 1) [some (.sh o),some (.sh (.tup ds))]=ok (.bl (aMl S)):=by
    have eS':ds=S.map tS:=eS;rw[eS'];refine aB2 (x:= .tup (R.map tS)) (y:= .tup (S.map tS)) ((aBo (aAf (f:=f1 toL (look 1)) (d:= .lst (S.map tS)) rfl aAq)).trans eL) rfl ?_;show (match aCp (R.map tS),aCp (S.map tS) with | some x,some y=>ok (D.bl (decide (x=y))) | _,_=>none)=_;rw[aM7,aM7];show ok (D.bl (decide (R=S)))=_;rw[eq]
   rw[aBa (aBl g)];show ok (D.bl (aMl S))=ok (D.bl (match aCp ds with | some S=>aMl S | none=>false));rw[hS]
 | _=>first |(exact nomatch (h:false=true)) | rfl
open Classical in
def mM0 (t:Adr):Addr->Option (List D->M D):=fun C=>if C=t.aAr then some (gT t) else if C=t.aA2 then some (gO t) else none
def gP (t:Adr):List D->M D:=aIj 2 fun ds=>aBd (aCh t (mM0 t) (aC0 aDe ds))
section
variable {K:Qc}{mg:Str->Option Qd}{t:Adr}(X:Txt K mg t)
include X
theorem bUc {d:D}(h:gd d=true):gP t [oPa t,d]=ok (.bl (mP d)):=by
 refine aBe rfl ?_;have e0:aC0 aDe [oPa t,d]=[some (.sh (oPa t)),some (.sh d)]:=rfl;rw[e0];unfold aCh;have ht:=aFo (aEc (aIy (f:=look 1) (ρ:=[some (.sh (oPa t)),some (.sh d)]) h rfl) rfl);by_cases hd: ∃a b,d= .tup [a,b]
 ·obtain⟨a,b,rfl⟩:=hd
  obtain⟨h1,h2⟩:=aOm h;have ga:=h2 a Qm;have gb:=h2 b (Qr _ Qm);have t1:orB (aKi (test (isi "tuple" (look 1)))) (aA9 (b2 gNe (f1 aI3 (look 1)) (con (.int 2)))) [some (.sh (oPa t)),some (.sh (.tup [a,b]))]=ok false:=aIv ht fun _=>(aXo (n:=2) (aKu (f:=look 1) (ds:=[a,b]) rfl)).trans rfl
  rw[aAe ((aHl t1).trans rfl)];have ia:b2 gIx (look 1) (con (.int 0)) [some (.sh (oPa t)),some (.sh (.tup [a,b]))]=ok a:=rfl;have ib:b2 gIx (look 1) (con (.int 1)) [some (.sh (oPa t)),some (.sh (.tup [a,b]))]=ok b:=rfl;have fl:fld (cs t) "left" (look 0) [some (.sh (oPa t)),some (.sh (.tup [a,b]))]=ok (oT t):=aJs (C:=t.aA8) rfl (bN0 t) rfl;have fr:fld (cs t) "right" (look 0) [some (.sh (oPa t)),some (.sh (.tup [a,b]))]=ok (oCo t):=aJs (C:=t.aA8) rfl (bN0 t) rfl;have r:=aGz ((aWf (m:="is_mark") (FM:=mM0 t) (C:=t.aAr) fl (if_pos rfl) rfl (aAf ia aAq)).trans (bRa t (oT t) ga)) fun _=>(aWf (m:="is_mark") (FM:=mM0 t) (C:=t.aA2) fr (by unfold mM0;rw[if_neg X.aHo,if_pos rfl]) rfl (aAf ib aAq)).trans (bRc t (oCo t) gb)
  rw[aBa (aBl r)];rfl
 ·have t1:orB (aKi (test (isi "tuple" (look 1)))) (aA9 (b2 gNe (f1 aI3 (look 1)) (con (.int 2)))) [some (.sh (oPa t)),some (.sh d)]=ok true:=by
   have:=aIv (g:=aA9 (b2 gNe (f1 aI3 (look 1)) (con (.int 2)))) (b:=true) ht fun hn=>by
    cases d<;>first |(cases hn;done) | skip
    rename_i ds;refine (aXo (n:=2) (aKu (f:=look 1) rfl)).trans ?_;rw[decide_eq_false]
    ·rfl
    ·intro hl
     match ds,hl with
     | [a,b],_=>exact hd ⟨a,b,rfl⟩
   rw[this,Eh]
  rw[aZp t1];have:mP d=false:=by
   cases d<;>first | rfl | skip
   rename_i ds
   match ds with
   | []=>rfl
   | [_]=>rfl
   | [a,b]=>exact absurd ⟨a,b,rfl⟩ hd
   | _::_::_::_=>rfl
  rw[this];rfl
end
open Classical in
def mM (t:Adr):Addr->Option (List D->M D):=fun C=>if C=t.aAr then some (gT t) else if C=t.aA3 then some (gC t) else if C=t.aAw then some (gR t) else if C=t.aA2 then some (gO t) else if C=t.aA7 then some (gS t)
 else if C=t.aBp then some (gL t) else if C=t.aBv then some (gU t) else if C=t.aAu then some (gW t) else if C=t.aA8 then some (gP t) else none
def aTx (t:Adr):List D->M D:=aIj 2 fun ds=>aBd (aFg t (mM t) (aC0 aH7 ds))
structure Fit (d:D):Prop where
 g:gd d=true
 s: ∀xs,txs d=some xs->xs.length<=4
 w: ∀ds S,d= .tup ds->aCp ds=some S->S.flatten.length<=5
def nine (m:Int)(one:List Str)(d:D):List Bool:=[mT d,wh 0 d,mR m d,mO d,mS one d,mL d,mU d,mW d,mP d]
def letters:List Str:=["t","c","r","o","s","l","u","w","p"]
def word:List Str->List Bool->Str->Str
 | l::ls,b::bs,w=>word ls bs (if b then w++l else w)
 | _,_,w=>w
def bEp (t:Adr):Rho->Option Out:=(aAn (aC7 5 (bJ0 "is_mark" (mM t) (look 4) (aAa (look 1) aAg)))
  (aAn (sIf (aKi (test (isi "bool" (look 5)))) (aAn (aC4 (con (.str "none")))
  aAz) aAz)
  (aAn (sIf (test (look 5)) (aAn (aC7 2 (b2 aA4 (look 2) (look 3)))
  aAz) aAz)
  aAz)))
def bE9 (p:Str×D):D:= .tup [.str p.1,p.2]
theorem bA0 (t:Adr){d x:D}: ∀(ps:List (Str×D)) (bs:List Bool) (w:Str) (s3 s4 s5:Option SV),ps.length=bs.length->(∀p∈ps,p.1.length<=10)->w.length+10*ps.length<=1000->(s3=none\/∃d,s3=some (.sh d))->(s4=none\/∃d,s4=some (.sh d))->(s5=none\/∃d,s5=some (.sh d))->
  (∀(i:Nat) (p:Str×D) (b:Bool),ps[i]? =some p->bs[i]? =some b->∃C fs F,p.2= .obj C fs/\fs.lookup ("is_mark":Str)=none/\mM t C=some F/\F [p.2,d]=ok (.bl b))->
  ∃ρ',loop (gN2 3 4) (bEp t) (ps.map bE9) [some (.sh x),some (.sh d),some (.sh (.str w)),s3,s4,s5]=some (.nx ρ')/\look 2 ρ'=ok (.str (word (ps.map (·.1)) bs w)):=by
 intro ps
 induction ps with
 | nil=>intro bs w s3 s4 s5 _ _ _ _ _ _ _;exact⟨_,rfl,rfl⟩
 | cons p ps ih=>
  intro bs w s3 s4 s5 hl hpl hw f3 f4 f5 h;cases bs with
  | nil=>cases hl
  | cons b bs=>
   obtain⟨C,fs,F,e1,e0,e2,e3⟩:=h 0 p b rfl rfl;have hp:=hpl p Qm;rw[Qk] at hw;have hg:gN2 3 4 (bE9 p) [some (.sh x),some (.sh d),some (.sh (.str w)),s3,s4,s5]=some [some (.sh x),some (.sh d),some (.sh (.str w)),some (.sh (.str p.1)),some (.sh p.2),s5]:=by
    show some (aMs 4 p.2 (aMs 3 (.str p.1) _))=_;rw[aI7 (d:= .str p.1) rfl,e1];unfold aMs;rcases f5 with rfl |⟨d5,rfl⟩<;>rfl
   have a5:bJ0 "is_mark" (mM t) (look 4) (aAa (look 1) aAg) [some (.sh x),some (.sh d),some (.sh (.str w)),some (.sh (.str p.1)),some (.sh p.2),s5]=ok (.bl b):=by
    refine (aWf (m:="is_mark") (FM:=mM t) (C:=C) (fs:=fs) (by show ok p.2=_;rw[e1]) e2 e0 (aAf (f:=look 1) (d:=d) rfl aAq)).trans ?_;rw[<-e1];exact e3
   have hb:bEp t [some (.sh x),some (.sh d),some (.sh (.str w)),some (.sh (.str p.1)),some (.sh p.2),s5]=some (.nx [some (.sh x),some (.sh d),some (.sh (.str (if b then w++p.1 else w))),some (.sh (.str p.1)),some (.sh p.2),some (.sh (.bl b))]):=by
    unfold bEp;rw[aAe (aA5 a5 rfl)];show aAn _ _ [some (.sh x),some (.sh d),some (.sh (.str w)),some (.sh (.str p.1)),some (.sh p.2),some (.sh (.bl b))]=_;rw[aAe ((aHl (aFo (aEc (aXy (f:=look 5) (d:= .bl b) rfl rfl) rfl))).trans rfl)];cases b with
    | false=>
     rw[aAe ((aHl (aEc (f:=look 5) (d:= .bl false) rfl rfl)).trans rfl)];rfl
    | true=>
     have g2:b2 aA4 (look 2) (look 3) [some (.sh x),some (.sh d),some (.sh (.str w)),some (.sh (.str p.1)),some (.sh p.2),some (.sh (.bl true))]=ok (.str (w++p.1)):=by
      refine aB2 (x:= .str w) (y:= .str p.1) rfl rfl ?_;exact if_pos (by omega)
     have s2:sIf (test (look 5)) (aAn (aC7 2 (b2 aA4 (look 2) (look 3))) aAz) aAz [some (.sh x),some (.sh d),some (.sh (.str w)),some (.sh (.str p.1)),some (.sh p.2),some (.sh (.bl true))]=some (.nx [some (.sh x),some (.sh d),some (.sh (.str (w++p.1))),some (.sh (.str p.1)),some (.sh p.2),some (.sh (.bl true))]):=by
      rw[aS1 (aEc (f:=look 5) (d:= .bl true) rfl rfl),aAe (aA5 g2 rfl)];rfl
     rw[aAe s2];rfl
   obtain⟨ρ',q1,q2⟩:=ih bs (if b then w++p.1 else w) (some (.sh (.str p.1))) (some (.sh p.2)) (some (.sh (.bl b))) (by simpa using hl) (fun p hp=>hpl p (Qr _ hp)) (by
     cases b
     ·simp;omega
     ·simp only[if_true];rw[len_app];omega) (.inr ⟨_,rfl⟩) (.inr ⟨_,rfl⟩) (.inr ⟨_,rfl⟩) fun i p b hp hb=>h (i+1) p b (by simpa using hp) (by simpa using hb)
   refine⟨ρ',?_,q2⟩;rw[Qv];exact (aD7 hg hb).trans q1
section
variable {K:Qc}{mg:Str->Option Qd}{t:Adr}(X:Txt K mg t)
include X
theorem bWt:mM t t.aAr=some (gT t):=if_pos rfl
theorem bWz:mM t t.aA3=some (gC t):=by unfold mM;rw[if_neg X.aMf,if_pos rfl]
theorem bWv:mM t t.aAw=some (gR t):=by unfold mM;rw[if_neg X.aMa,if_neg X.aMb,if_pos rfl]
theorem bWx:mM t t.aA2=some (gO t):=by unfold mM;rw[if_neg X.aHo,if_neg X.aN2,if_neg X.aN1,if_pos rfl]
theorem bWu:mM t t.aA7=some (gS t):=by unfold mM;rw[if_neg X.aNt,if_neg X.aNv,if_neg X.aNu,if_neg X.aPc,if_pos rfl]
theorem bWy:mM t t.aBp=some (gL t):=by unfold mM;rw[if_neg X.aPf,if_neg X.aPh,if_neg X.aPg,if_neg X.aRm,if_neg X.aRl,if_pos rfl]
theorem bWs:mM t t.aBv=some (gU t):=by unfold mM;rw[if_neg X.aO9,if_neg X.aPb,if_neg X.aPa,if_neg X.aRi,if_neg X.aRh,if_neg X.aTj,if_pos rfl]
theorem bWr:mM t t.aAu=some (gW t):=by unfold mM;rw[if_neg X.aKj,if_neg X.aKl,if_neg X.aKk,if_neg X.aMd,if_neg X.aMc,if_neg X.aNx,if_neg X.aNw,if_pos rfl]
theorem bWw:mM t t.aA8=some (gP t):=by unfold mM;rw[if_neg X.aNy,if_neg X.aN0,if_neg X.aNz,if_neg X.aPe,if_neg X.aPd,if_neg X.aRk,if_neg X.aRj,if_neg X.aMe,if_pos rfl]
omit X in
def aO4 (t:Adr)(m:Int)(one:List Str):List (Str×D):=[("t",oT t),("c",oC t),("r",oRo t m),("o",oCo t),("s",oSe t one),("l",oLo t),("u",oSu t),("w",oRe t),("p",oPa t)]
omit X in
theorem aZi: ∀l∈letters,l.length<=10:=by decide+kernel
theorem bKb {m:Int}{a b:Str}(hab:a≠b){d:D}(h:Fit d):aTx t [.lst ((aO4 t m [a,b]).map bE9),d]=ok (.str (word letters (nine m [a,b] d) "")):=by
 refine aBe rfl ?_;have e0:aC0 aH7 [.lst ((aO4 t m [a,b]).map bE9),d]=[some (.sh (.lst ((aO4 t m [a,b]).map bE9))),some (.sh d),none,none,none,none]:=rfl;rw[e0];unfold aFg;have hm:aDh [a,b]=[a,b]:=aTk (by simp[hab]);obtain⟨ρ',q1,q2⟩:=bA0 t (d:=d) (x:= .lst ((aO4 t m [a,b]).map bE9)) (aO4 t m [a,b]) (nine m [a,b] d) "" none none none rfl (fun p hp=>aZi p.1 (List.mem_map.mpr ⟨p,hp,rfl⟩:p.1∈(aO4 t m [a,b]).map (·.1))) (by show ("":Str).length+90<=1000;decide+kernel) (.inl rfl) (.inl rfl) (.inl rfl) fun i p b' hp hb=>by
  match i,hp,hb with
  | 0,hp,hb=>cases hp;cases hb;exact⟨_,_,_,rfl,rfl,bWt X,bRa t _ h.g⟩
  | 1,hp,hb=>cases hp;cases hb;exact⟨_,_,_,rfl,rfl,bWz X,bUf t _ h.g⟩
  | 2,hp,hb=>cases hp;cases hb;exact⟨_,_,_,rfl,rfl,bWv X,bUb t m h.g⟩
  | 3,hp,hb=>cases hp;cases hb;exact⟨_,_,_,rfl,rfl,bWx X,bRc t _ h.g⟩
  | 4,hp,hb=>cases hp;cases hb;exact⟨_,_,_,rfl,rfl,bWu X,bUa t (by simp) (by simp) h.g h.s (by rw[hm];simp)⟩
  | 5,hp,hb=>cases hp;cases hb;exact⟨_,_,_,rfl,rfl,bWy X,bUd t h.g⟩
  | 6,hp,hb=>cases hp;cases hb;exact⟨_,_,_,rfl,rfl,bWs X,bT9 t _ h.g⟩
  | 7,hp,hb=>cases hp;cases hb;exact⟨_,_,_,rfl,rfl,bWr X,bT8 t _ h.g h.w⟩
  | 8,hp,hb=>cases hp;cases hb;exact⟨_,_,_,rfl,rfl,bWw X,bUc X h.g⟩
  | i+9,hp,hb=>simp[aO4] at hp
 rw[aAe (aA5 (d:= .str "") rfl rfl)];show aBd (aAn (aGm 0 (gN2 3 4) (bEp t)) _ [some (.sh (.lst ((aO4 t m [a,b]).map bE9))),some (.sh d),some (.sh (.str "")),none,none,none])=_;rw[aAe (show aGm 0 (gN2 3 4) (bEp t) [some (.sh (.lst ((aO4 t m [a,b]).map bE9))),some (.sh d),some (.sh (.str "")),none,none,none]=_ from q1)];rw[aBa (aBl q2)];rfl
end
abbrev yy:Bool:=true
abbrev nn:Bool:=false
def aLo (m g:Int):List (D×List Bool):=[(.bl true,[yy,nn,nn,nn,nn,nn,nn,nn,nn]),
 (.bl false,[yy,nn,nn,nn,nn,nn,nn,nn,nn]),
 (.non,[nn,nn,nn,yy,nn,nn,nn,nn,nn]),
 (.int 0,[nn,yy,yy,yy,nn,nn,nn,nn,nn]),
 (.int (m-1),[nn,yy,yy,yy,nn,nn,nn,nn,nn]),
 (.int m,[nn,yy,nn,yy,nn,nn,nn,nn,nn]),
 (.int (m+g),[nn,yy,nn,yy,nn,nn,nn,nn,nn]),
 (.int (-1),[nn,nn,nn,nn,nn,nn,nn,nn,nn]),
 (.int (-1-g),[nn,nn,nn,nn,nn,nn,nn,nn,nn]),
 (.str "",[nn,nn,nn,nn,nn,nn,nn,nn,nn]),
 (.str "0",[nn,nn,nn,nn,nn,nn,nn,nn,nn]),
 (.lst [],[nn,nn,nn,nn,nn,nn,nn,nn,nn]),
 (.dk [],[nn,nn,nn,nn,nn,nn,nn,nn,nn]),
 (.dk [(.inl 0,.int 1)],[nn,nn,nn,nn,nn,nn,nn,nn,nn]),
 (.tup [],[nn,nn,nn,nn,yy,yy,yy,yy,nn]),
 (.tup [.int 0],[nn,nn,nn,nn,nn,yy,nn,nn,nn]),
 (.tup [.int 0,.int 0],[nn,nn,nn,nn,nn,yy,nn,nn,nn]),
 (.tup [.int g,.int (g+1)],[nn,nn,nn,nn,nn,yy,nn,nn,nn]),
 (.tup [.int (g+1),.int g],[nn,nn,nn,nn,nn,nn,nn,nn,nn]),
 (.tup [.int 0,.int 1,.int 2],[nn,nn,nn,nn,nn,nn,nn,nn,nn]),
 (.lst [.int 0],[nn,nn,nn,nn,nn,nn,nn,nn,nn]),
 (.tup [.int (-1)],[nn,nn,nn,nn,nn,nn,nn,nn,nn]),
 (.tup [.int (-1),.int 0],[nn,nn,nn,nn,nn,nn,nn,nn,nn]),
 (.tup [.non],[nn,nn,nn,nn,nn,nn,nn,nn,nn]),
 (.tup [.bl true],[nn,nn,nn,nn,nn,nn,nn,nn,nn]),
 (.tup [.int 0,.bl true],[nn,nn,nn,nn,nn,nn,nn,nn,nn]),
 (.tup [.bl true,.non],[nn,nn,nn,nn,nn,nn,nn,nn,yy]),
 (.tup [.bl false,.int g],[nn,nn,nn,nn,nn,nn,nn,nn,yy]),
 (.tup [.bl true,.int (-1)],[nn,nn,nn,nn,nn,nn,nn,nn,nn]),
 (.tup [.non,.bl true],[nn,nn,nn,nn,nn,nn,nn,nn,nn]),
 (.tup [.bl true,.int 0,.int 0],[nn,nn,nn,nn,nn,nn,nn,nn,nn]),
 (.lst [.bl true,.int 0],[nn,nn,nn,nn,nn,nn,nn,nn,nn])]
def aSu (a b c:Str):List (D×List Bool):=[(.tup [.str a],[nn,nn,nn,nn,yy,nn,nn,nn,nn]),
 (.tup [.str a,.str b],[nn,nn,nn,nn,yy,nn,nn,nn,nn]),
 (.tup [.str b],[nn,nn,nn,nn,yy,nn,nn,nn,nn]),
 (.tup [.str b,.str a],[nn,nn,nn,nn,nn,nn,nn,nn,nn]),
 (.tup [.str a,.str a],[nn,nn,nn,nn,nn,nn,nn,nn,nn]),
 (.lst [.str a],[nn,nn,nn,nn,nn,nn,nn,nn,nn]),
 (.str a,[nn,nn,nn,nn,nn,nn,nn,nn,nn]),
 (tS (aGk [a,c]),[nn,nn,nn,nn,nn,nn,nn,nn,nn]),
 (.tup [.str c],[nn,nn,nn,nn,nn,nn,nn,nn,nn]),
 (.tup [.str a,.int 0],[nn,nn,nn,nn,nn,nn,nn,nn,nn]),
 (.tup [.tup []],[nn,nn,nn,nn,nn,nn,nn,yy,nn]),
 (.tup [.tup [.str a]],[nn,nn,nn,nn,nn,nn,nn,yy,nn]),
 (.tup [.tup [.str a],.tup [.str b]],[nn,nn,nn,nn,nn,nn,nn,yy,nn]),
 (.tup [.tup [.str a,.str b]],[nn,nn,nn,nn,nn,nn,nn,yy,nn]),
 (.tup [.tup [.str b],.tup [.str a]],[nn,nn,nn,nn,nn,nn,nn,nn,nn]),
 (.tup [.tup [.str a],.tup [.str a,.str b]],[nn,nn,nn,nn,nn,nn,nn,nn,nn]),
 (.tup [.tup [.str a],.tup [.str a]],[nn,nn,nn,nn,nn,nn,nn,nn,nn]),
 (.tup [.tup [.str a,.str a]],[nn,nn,nn,nn,nn,nn,nn,nn,nn]),
 (.tup [.tup [.str b,.str a]],[nn,nn,nn,nn,nn,nn,nn,nn,nn]),
 (.tup [.tup [],.tup [.str a]],[nn,nn,nn,nn,nn,nn,nn,nn,nn]),
 (.tup [.tup [.int 1]],[nn,nn,nn,nn,nn,nn,nn,nn,nn]),
 (.tup [.lst [.str a]],[nn,nn,nn,nn,nn,nn,nn,nn,nn]),
 (.lst [.tup [.str a]],[nn,nn,nn,nn,nn,nn,nn,nn,nn])]
def bIp (a b:Str)(g:Int):List (D×List Bool):=[(.tup [.tup [.tup [],.int 1]],[nn,nn,nn,nn,nn,nn,yy,nn,nn]),
 (.tup [.tup [.tup [.str a],.int (g+1)]],[nn,nn,nn,nn,nn,nn,yy,nn,nn]),
 (.tup [.tup [.tup [.str a,.str a],.int 2],.tup [.tup [.str a,.str b],.int 1]],[nn,nn,nn,nn,nn,nn,yy,nn,nn]),
 (.tup [.tup [.tup [.str a],.int 0]],[nn,nn,nn,nn,nn,nn,nn,nn,nn]),
 (.tup [.tup [.tup [.str a],.bl true]],[nn,nn,nn,nn,nn,nn,nn,nn,nn]),
 (.tup [.tup [.tup [.str a],.int (-1)]],[nn,nn,nn,nn,nn,nn,nn,nn,nn]),
 (.tup [.tup [.tup [.str b,.str a],.int 1]],[nn,nn,nn,nn,nn,nn,nn,nn,nn]),
 (.tup [.tup [.tup [.str a],.int 1],.tup [.tup [.str a],.int 2]],[nn,nn,nn,nn,nn,nn,nn,nn,nn]),
 (.tup [.tup [.tup [.str b],.int 1],.tup [.tup [.str a],.int 1]],[nn,nn,nn,nn,nn,nn,nn,nn,nn]),
 (.tup [.tup [.str a,.int 1]],[nn,nn,nn,nn,nn,nn,nn,nn,nn]),
 (.tup [.tup [.tup [.str a],.int 1,.int 1]],[nn,nn,nn,nn,nn,nn,nn,nn,nn]),
 (.tup [.tup [.lst [.str a],.int 1]],[nn,nn,nn,nn,nn,nn,nn,nn,nn]),
 (.tup [.tup [.tup [.int 1],.int 1]],[nn,nn,nn,nn,nn,nn,nn,nn,nn]),
 (.lst [.tup [.tup [],.int 1]],[nn,nn,nn,nn,nn,nn,nn,nn,nn]),
 (.tup [.tup [.tup [.str a],.non]],[nn,nn,nn,nn,nn,nn,nn,nn,nn])]
def plainS:List Str:=["t","t","o","cro","cro","co","co","","","","","","","","sluw","l","l","l","","","","","","","","","p","p","","","",""]
def bOl:List Str:=["s","s","s","","","","","","","","w","w","w","w","","","","","","","","",""]
def bUx:List Str:=["u","u","u","","","","","","","","","","","",""]
def bUg (d:D):Bool:=gd d&&((match txs d with | some xs=>decide (xs.length<=4) | none=>true)&&(match d with | .tup ds=>(match aCp ds with | some S=>decide (S.flatten.length<=5) | none=>true) | _=>true))
theorem bRh {d:D}(h:bUg d=true):Fit d:=by
 unfold bUg at h;rw[Zg,Zg] at h;refine⟨h.1,fun xs hx=> ?_,fun ds S e hS=> ?_⟩
 ·have:=h.2.1
  rw[hx] at this
  simpa using this
 ·have:=h.2.2
  subst e
  dsimp only at this
  rw[hS] at this
  simpa using this
def Good (m:Int)(a b:Str)(e:D×List Bool):Prop:=bUg e.1=true/\nine m [a,b] e.1=e.2
theorem aU5:plainS=(aLo 0 0).map fun e=>word letters e.2 "":=by decide+kernel
theorem aYt:bOl=(aSu "" "" "").map fun e=>word letters e.2 "":=by decide+kernel
theorem bAz:bUx=(bIp "" "" 0).map fun e=>word letters e.2 "":=by decide+kernel
theorem aY3 {m g:Int}(hm:2<=m)(hg:1<=g)(a b:Str): ∀e∈aLo m g,Good m a b e:=by
 unfold aLo;simp only[Ww,Zf,false_imp_iff,implies_true,and_true];refine⟨?_,?_,?_,?_,?_,?_,?_,?_,?_,?_,?_,?_,?_,?_,?_,?_,?_,?_,?_,?_,?_,?_,?_,?_,?_,?_,?_,?_,?_,?_,?_,?_⟩
 all_goals refine⟨rfl,?_⟩
 all_goals first | rfl |(simp[nine,mT,wh,mR,ltM,mO,isN,mS,txs,aIk,mL,aTg,leI,mU,aQh,aKv,bNx,mW,aCp,mP];done) |(simp[nine,mT,wh,mR,ltM,mO,isN,mS,txs,aIk,mL,aTg,leI,mU,aQh,aKv,bNx,mW,aCp,mP];omega)
structure Nms (a b c:Str):Prop where
 ab:ltS a b=true
 ba:ltS b a=false
 aa:ltS a a=false
 nab:a≠b
 nca:c≠a
 ncb:c≠b
 sac:aGk [a,c]=[a,c]
theorem bBe {m:Int}{a b c:Str}(N:Nms a b c): ∀e∈aSu a b c,Good m a b e:=by
 have h1:decide (a.cps.toList<b.cps.toList)=true:=N.ab;have h2:decide (b.cps.toList<a.cps.toList)=false:=N.ba;have h3:decide (a.cps.toList<a.cps.toList)=false:=N.aa;have h4:=N.nab;have h5:=N.nca;have h6:=N.ncb;have h7:b≠a:=h4.symm;unfold aSu;rw[N.sac,show tS [a,c]= .tup [.str a,.str c] from rfl];simp only[Ww,Zf,false_imp_iff,implies_true,and_true];refine⟨?_,?_,?_,?_,?_,?_,?_,?_,?_,?_,?_,?_,?_,?_,?_,?_,?_,?_,?_,?_,?_,?_,?_⟩
 all_goals refine⟨rfl,?_⟩
 all_goals first | rfl |(simp only[nine,mT,wh,mR,ltM,mO,isN,mS,txs,aIk,Wl,mL,aTg,leI,mU,aQh,aKv,bNx,mW,aCp,mP,aNi,leB,aTn,aEu,aMl,inB,ltS,h1,h2,h3,Yx,Eg];simp[h4,h5,h6,h7,h1,h2,h3];done)
theorem bFq {m g:Int}(hg:1<=g){a b c:Str}(N:Nms a b c): ∀e∈bIp a b g,Good m a b e:=by
 have h1:decide (a.cps.toList<b.cps.toList)=true:=N.ab;have h2:decide (b.cps.toList<a.cps.toList)=false:=N.ba;have h3:decide (a.cps.toList<a.cps.toList)=false:=N.aa;have h4:=N.nab;have h7:b≠a:=h4.symm;unfold bIp;simp only[Ww,Zf,false_imp_iff,implies_true,and_true];refine⟨?_,?_,?_,?_,?_,?_,?_,?_,?_,?_,?_,?_,?_,?_,?_⟩
 all_goals refine⟨rfl,?_⟩
 all_goals first | rfl |(simp only[nine,mT,wh,mR,ltM,mO,isN,mS,txs,aIk,Wl,mL,aTg,leI,mU,aQh,aKv,bNx,mW,aCp,mP,aNi,leB,aTn,aEu,aMl,inB,ltS,h1,h2,h3,Yx,Eg];simp[h4,h7,h1,h2,h3];done) |(simp only[nine,mT,wh,mR,ltM,mO,isN,mS,txs,aIk,Wl,mL,aTg,leI,mU,aQh,aKv,bNx,mW,aCp,mP,aNi,leB,aTn,aEu,aMl,inB,ltS,h1,h2,h3,Yx,Eg];simp[h4,h7,h1,h2,h3];omega)
theorem bBx {fs:List (Str×D)}{f:Str}{d:D}(h:(fs.map Vt).all (fun p=>p !=f)=true):putD f d fs=fs++ [(f,d)]:=by
 induction fs with
 | nil=>rfl
 | cons p fs ih=>
  rw[Qv,Yx,Zg] at h;obtain⟨x,v⟩:=p;have hx:¬x=f:=by simpa using h.1
  have:=ih h.2;simp[putD,hx,this]
theorem aFp {t:Adr}{C a dx:Addr}{f:Str}{fa:Rho->M D}{d:D}{fs:List (Str×D)}{rest:Rho}(hc:cs t C=true)(h:fa (some (.oin a C dx fs)::rest)=ok d)(hd:d.imm=true)(xs:List Str)(hx:fs.map Vt=xs)(hf:xs.all (fun p=>p !=f)=true)(hl:xs.length<5):aEz (cs t) 0 f fa (some (.oin a C dx fs)::rest)=some (.nx (some (.oin a C dx (fs++ [(f,d)]))::rest)):=by
 unfold aEz;rw[h];show (if d.imm=true then L2.PU.putAt (cs t) 0 f d (some (.oin a C dx fs)::rest) else none)=_;rw[if_pos hd];have hl':fs.length<5:=by rw[<-hx,Qh] at hl;exact hl
 rw[<-hx] at hf;simp[L2.PU.putAt,hc,bBx hf];omega
theorem aRu {t:Adr}{C a dx:Addr}{f:Str}{d:D}{fs:List (Str×D)}{rest:Rho}{j:Nat}(hc:cs t C=true)(h:rest[j]? =some (some (.sh d)))(xs:List Str)(hx:fs.map Vt=xs)(hf:xs.all (fun p=>p !=f)=true)(hl:xs.length<5):aS3 (cs t) 0 f (j+1) (some (.oin a C dx fs)::rest)=some (.nx (some (.oin a C dx (fs++ [(f,d)]))::rest)):=by
 unfold aS3;rw[Jf,h];have hl':fs.length<5:=by rw[<-hx,Qh] at hl;exact hl
 rw[<-hx] at hf;simp[L2.PU.putAt,hc,bBx hf];omega
section
variable (t:Adr)
theorem q9:(10:Int)^(9:Int).toNat=1000000000:=by decide
theorem q24:(10:Int)^(24:Int).toNat=1000000000000000000000000:=by decide
theorem q40:(10:Int)^(40:Int).toNat=10000000000000000000000000000000000000000:=by decide
def bSe:List D->M D:=aIj 1 fun ds=>aBd (aGy t (aC0 aJy ds))
theorem bJd (c:Int): ∃b:Int,0<=b/\bSe t [.int c]=ok (.int b):=by
 refine⟨(c%1000000000+1)*2862933555777941757%(1000000000000000000000000+7),by omega,aBe rfl ?_⟩;have e0:aC0 aJy [.int c]=[some (.sh (.int c))]:=rfl;rw[e0];unfold aGy;have pw9:b2 aOn (con (.int 10)) (con (.int 9)) [some (.sh (.int c))]=ok (.int 1000000000):=by simp[b2,con,bnd,ok,aOn,q9]
 have bWi:b2 aOn (con (.int 10)) (con (.int 24)) [some (.sh (.int c))]=ok (.int 1000000000000000000000000):=by simp[b2,con,bnd,ok,aOn,q24]
 have m1:=bP3 (aHx (aHd (f:=look 0) (ρ:=[some (.sh (.int c))]) (i:=c) rfl pw9 (by decide)) (g:=con (.int 1)) (j:=1) rfl) (g:=con (.int 2862933555777941757)) (j:=2862933555777941757) rfl (aRp (by omega) (by omega) (by decide) (by decide));have m2:=aHd m1 (aHx bWi (g:=con (.int 7)) (j:=7) rfl) (by decide);rw[aBa (aBl m2)];rfl
end
abbrev Rs (P:List Str)(s1 s2 s3 s4 s5 s6 s7 s8 s9 s10:Option SV):Rho:=[some (.sh (.lst (P.map D.str))),s1,s2,s3,s4,s5,s6,s7,s8,s9,s10]
def bEr:Rho->Option Out:=(aAn (bIy bJh 6 (aAa (b2 gIx (look 0) (b2 aEa (look 2) (f1 aI3 (look 0)))) aAg))
  (aAn (aC7 2 (b2 aEe (look 2) (f1 aI3 (look 0))))
  aAz))
theorem bQa {P:List Str}{ρ:Rho}(h:look 0 ρ=ok (.lst (P.map D.str))):f1 aI3 (look 0) ρ=ok (.int (P.length:Int)):=by
 refine aFt h ?_;show ok (D.int ((P.map D.str).length:Int))=_;rw[Qh]
theorem bRy {P:List Str}(hP:0<P.length)(hP2:P.length<=100){s1 s3 s4 s5 s7 s9 s10:Option SV}{acc:List Str}(hl:acc.length<=1000)(b j:Int): ∃(x:Str) (b':Int),x∈P/\
  bEr (Rs P s1 (some (.sh (.int b))) s3 s4 s5 (some (.own (acc.map D.str))) s7 (some (.sh (.int j))) s9 s10)=some (.nx (Rs P s1 (some (.sh (.int b'))) s3 s4 s5 (some (.own ((acc++ [x]).map D.str))) s7 (some (.sh (.int j))) s9 s10)):=by
 obtain⟨i,hi⟩: ∃i:Nat,b%(P.length:Int)=(i:Int):=⟨(b%(P.length:Int)).toNat,by have:=Int.emod_nonneg b (b:=(P.length:Int)) (by omega);omega⟩;have hi2:i<P.length:=by have:=Int.emod_lt_of_pos b (b:=(P.length:Int)) (by omega);omega
 refine⟨P[i],b/(P.length:Int),Y7 hi2,?_⟩;generalize hρ:Rs P s1 (some (.sh (.int b))) s3 s4 s5 (some (.own (acc.map D.str))) s7 (some (.sh (.int j))) s9 s10=ρ;have l0:look 0 ρ=ok (.lst (P.map D.str)):=by rw[<-hρ];rfl
 have l2:look 2 ρ=ok (.int b):=by rw[<-hρ];rfl
 have m:=aHd l2 (bQa l0) (by omega);rw[hi] at m;have ix:b2 gIx (look 0) (b2 aEa (look 2) (f1 aI3 (look 0))) ρ=ok (.str P[i]):=aB2 l0 m (bQm (by rw[Q7,Qj hi2];rfl));have o1:bIy bJh 6 (aAa (b2 gIx (look 0) (b2 aEa (look 2) (f1 aI3 (look 0)))) aAg) ρ=some (.nx (Rs P s1 (some (.sh (.int b))) s3 s4 s5 (some (.own ((acc++ [P[i]]).map D.str))) s7 (some (.sh (.int j))) s9 s10)):=by
  unfold bIy;have g6:ρ[6]? =some (some (.own (acc.map D.str))):=by rw[<-hρ];rfl
  rw[g6];show lft _ _ _=_;rw[aAf ix aAq];show (if aIq [D.str P[i]]=true/\(acc.map D.str).length<100000 then (match bJh (acc.map D.str) [D.str P[i]] with | some ds'=>some (Out.nx (ρ.set 6 (some (.own ds')))) | none=>none) else none)=_;rw[if_pos ⟨rfl,by rw[Qh];omega⟩,Zd,<-hρ];rfl
 unfold bEr;rw[aAe o1];have l0':look 0 (Rs P s1 (some (.sh (.int b))) s3 s4 s5 (some (.own ((acc++ [P[i]]).map D.str))) s7 (some (.sh (.int j))) s9 s10)=ok (.lst (P.map D.str)):=rfl;rw[aAe (aA5 (aRv (f:=look 2) (i:=b) rfl (bQa l0') (by omega) (by omega)) rfl)];rfl
theorem bJg {P:List Str}(hP:0<P.length)(hP2:P.length<=100){s1 s3 s4 s5 s7 s9 s10:Option SV}: ∀(js:List Nat) (acc:List Str) (b:Int) (o:Option SV),acc.length+js.length<=1000->∃(xs:List Str) (b':Int) (o':Option SV),xs.length=js.length/\(∀x∈xs,x∈P)/\
  loop (gN 8) bEr (js.map fun (j:Nat)=>D.int (0+(j:Int))) (Rs P s1 (some (.sh (.int b))) s3 s4 s5 (some (.own (acc.map D.str))) s7 o s9 s10)=some (.nx (Rs P s1 (some (.sh (.int b'))) s3 s4 s5 (some (.own ((acc++xs).map D.str))) s7 o' s9 s10))
 | [],acc,b,o,_=>⟨[],b,o,rfl,(fun _ h=>by cases h),by rw[Z9];rfl⟩
 | j::js,acc,b,o,hl=>by
  rw[Qk] at hl;obtain⟨x,b1,hx,e1⟩:=bRy hP hP2 (s1:=s1) (s3:=s3) (s4:=s4) (s5:=s5) (s7:=s7) (s9:=s9) (s10:=s10) (acc:=acc) (by omega) b (0+(j:Int));obtain⟨xs,b2',o',h1,h2,h3⟩:=bJg hP hP2 (s1:=s1) (s3:=s3) (s4:=s4) (s5:=s5) (s7:=s7) (s9:=s9) (s10:=s10) js (acc++ [x]) b1 (some (.sh (.int (0+(j:Int))))) (by rw[Qq,Up];omega);refine⟨x::xs,b2',o',by rw[Qk,Qk,h1],fun y hy=> ?_,?_⟩
  ·rcases List.mem_cons.mp hy with rfl | hy
   ·exact hx
   ·exact h2 y hy
  ·rw[Qv,aD7 (ρ1:=Rs P s1 (some (.sh (.int b))) s3 s4 s5 (some (.own (acc.map D.str))) s7 (some (.sh (.int (0+(j:Int))))) s9 s10) rfl e1,h3,Z1]
   rfl
theorem aX3 {f:Rho->M D}{G:D->Rho->Option Rho}{F:Rho->Option Out}{ρ:Rho}{n:Nat}(h:f ρ=ok (.int (n:Int)))(hn:n<=1000000):aIo f G F ρ=loop G F ((Zj n).map fun (j:Nat)=>D.int (0+(j:Int))) ρ:=by
 unfold aIo;rw[h,aLt]
 dsimp only
 rw[if_pos ⟨by omega,by omega⟩,Zc];rfl
structure KInv (P:List Str)(n:Nat)(l:Sm):Prop where
 nd:(kys l).Nodup
 le:l.length<=n
 fi: ∀p∈l,bFk P p.1
 po: ∀p∈l,1<=p.2
 hi: ∀p∈l,p.2<=(n:Int)*20000000000000000000000000000000000000000
theorem bFk.pair {P k:List Str}(h:bFk P k):k.Pairwise fun a b=>leS a b=true:=by
 obtain⟨xs,rfl,_⟩:=h;exact aI6 xs
theorem bFk.len {P k:List Str}(h:bFk P k):k.length<=3:=by
 obtain⟨xs,rfl,hl,_⟩:=h;rw[(aD3 xs).length_eq];exact hl
theorem KInv.add {P:List Str}{n:Nat}{l:Sm}(h:KInv P n l){k:List Str}(hk:bFk P k){m:Int}(h1:1<=m)(h2:m<=20000000000000000000000000000000000000000):KInv P (n+1) (bAp l (k,m)):=by
 have nd:=bE2 h.nd (k,m);have e: ∀p∈bAp l (k,m),(p.1∈kys l\/p.1=k)/\p.2=aPq l p.1+(if k=p.1 then m else 0):=fun p hp=>by
  obtain⟨a,b⟩:=(bMb nd (k:=p.1) (v:=p.2)).mp hp;rw[bIa] at a;rw[bNn] at b;exact⟨a,b.symm⟩
 have v: ∀x:List Str,0<=aPq l x/\aPq l x<=(n:Int)*20000000000000000000000000000000000000000/\(x∈kys l->1<=aPq l x):=fun x=>by
  by_cases hx:x∈kys l
  ·obtain⟨p,hp,ep⟩:=List.mem_map.mp hx
   have q:=aUn h.nd hp;rw[ep] at q;rw[q];have a:=h.po p hp;have b:=h.hi p hp;exact⟨by omega,b,fun _=>a⟩
  ·rw[bFm hx]
   exact⟨Int.le_refl _,by omega,fun z=>absurd z hx⟩
 refine⟨nd,Zs (bIb l (k,m)) (Nat.succ_le_succ h.le),fun p hp=> ?_,fun p hp=> ?_,fun p hp=> ?_⟩
 ·rcases (e p hp).1 with z | z
  ·obtain⟨q,hq,eq⟩:=List.mem_map.mp z
   rw[<-eq];exact h.fi q hq
  ·rw[z];exact hk
 ·obtain⟨z,w⟩:=e p hp
  obtain⟨v1,v2,v3⟩:=v p.1;rw[w];rcases z with z | z
  ·have:=v3 z
   split<;>omega
  ·rw[if_pos z.symm];omega
 ·obtain⟨z,w⟩:=e p hp
  obtain⟨v1,v2,v3⟩:=v p.1;rw[w];split<;>omega
def bEq:Rho->Option Out:=(aAn (sNew 6 aAg)
  (aAn (aC7 7 (b2 aEa (look 2) (con (.int 4))))
  (aAn (aC7 2 (b2 aEe (look 2) (con (.int 4))))
  (aAn (aIo (look 7) (gN 8) (aAn (bIy bJh 6 (aAa (b2 gIx (look 0) (b2 aEa (look 2) (f1 aI3 (look 0)))) aAg))
  (aAn (aC7 2 (b2 aEe (look 2) (f1 aI3 (look 0))))
  aAz)))
  (aAn (aC7 9 (b2 aA4 (con (.int 1)) (b2 aEa (look 2) (con (.int 5)))))
  (aAn (aC7 2 (b2 aEe (look 2) (con (.int 5))))
  (aAn (sIf (aA9 (b2 gEq (look 9) (con (.int 5)))) (aAn (aC7 9 (b2 aA4 (b2 aOn (con (.int 10)) (con (.int 40))) (look 5)))
  aAz) aAz)
  (aAn (aC7 10 (f1 toT (f1 bAn (look 6))))
  (aAn (aU0 3 10 (b2 aA4 (aV8 3 10 (con (.int 0))) (look 9)))
  aAz)))))))))
abbrev ow (l:Sm):Option SV:=some (.ow (.t (l.map kvD)))
theorem bRx {P:List Str}(hP:0<P.length)(hP2:P.length<=100){s1 s4 s6 s7 s8 s9 s10:Option SV}{n:Nat}(hn:n<=1000){l:Sm}(hk:KInv P n l)(b:Int){k:Int}(k0:0<=k)(k1:k<=1000): ∃(b':Int) (l':Sm) (o6 o7 o8 o9 o10:Option SV),KInv P (n+1) l'/\
  bEq (Rs P s1 (some (.sh (.int b))) (ow l) s4 (some (.sh (.int k))) s6 s7 s8 s9 s10)=some (.nx (Rs P s1 (some (.sh (.int b'))) (ow l') s4 (some (.sh (.int k))) o6 o7 o8 o9 o10)):=by
 obtain⟨i,hi⟩: ∃i:Nat,b%4=(i:Int):=⟨(b%4).toNat,by omega⟩;have hi4:i<=3:=by omega
 obtain⟨xs,b1,o8,hxl,hxP,hlp⟩:=bJg hP hP2 (s1:=s1) (s3:=ow l) (s4:=s4) (s5:=some (.sh (.int k))) (s7:=some (.sh (.int (i:Int)))) (s9:=s9) (s10:=s10) (Zj i) [] (b/4) s8 (by rw[Zo];simp;omega);rw[Zo] at hxl;have hF:bFk P (aGk xs):=⟨xs,rfl,by omega,hxP⟩;have c9: ∃nn':Int,1<=nn'/\nn'<=20000000000000000000000000000000000000000/\sIf (aA9 (b2 gEq (look 9) (con (.int 5)))) (aAn (aC7 9 (b2 aA4 (b2 aOn (con (.int 10)) (con (.int 40))) (look 5))) aAz) aAz (Rs P s1 (some (.sh (.int (b1/5)))) (ow l) s4 (some (.sh (.int k))) (some (.own (xs.map D.str))) (some (.sh (.int (i:Int)))) o8 (some (.sh (.int (1+b1%5)))) s10)=some (.nx (Rs P s1 (some (.sh (.int (b1/5)))) (ow l) s4 (some (.sh (.int k))) (some (.own (xs.map D.str))) (some (.sh (.int (i:Int)))) o8 (some (.sh (.int nn'))) s10)):=by
  have nn1:1<=1+b1%5/\1+b1%5<=5:=by omega
  generalize 1+b1%5=nn at nn1⊢;generalize b1/5=b2';have tb:=aDy (bJs (f:=look 9) (g:=con (.int 5)) (ρ:=Rs P s1 (some (.sh (.int b2'))) (ow l) s4 (some (.sh (.int k))) (some (.own (xs.map D.str))) (some (.sh (.int (i:Int)))) o8 (some (.sh (.int nn))) s10) (i:=nn) (j:=5) rfl rfl);by_cases h5:nn=5
  ·rw[decide_eq_true h5] at tb
   have pw: ∀ρ,b2 aOn (con (.int 10)) (con (.int 40)) ρ=ok (.int 10000000000000000000000000000000000000000):=fun ρ=>by simp[b2,con,bnd,ok,aOn,q40]
   exact⟨_,by omega,by omega,(aS1 tb).trans (aAe (aA5 (aHx (pw _) (g:=look 5) (j:=k) rfl) rfl))⟩
  ·rw[decide_eq_false h5] at tb
   exact⟨nn,by omega,by omega,(aHl tb).trans rfl⟩
 obtain⟨nn',hn1,hn2,c9⟩:=c9;refine⟨b1/5,bAp l (aGk xs,nn'),some (.own (xs.map D.str)),some (.sh (.int (i:Int))),o8,some (.sh (.int nn')),some (.sh (tS (aGk xs))),hk.add hF hn1 hn2,?_⟩;unfold bEq;have s6e:sNew 6 aAg (Rs P s1 (some (.sh (.int b))) (ow l) s4 (some (.sh (.int k))) s6 s7 s8 s9 s10)=some (.nx (Rs P s1 (some (.sh (.int b))) (ow l) s4 (some (.sh (.int k))) (some (.own [])) s7 s8 s9 s10)):=by simp[sNew,aAg,ok,lft,aIq]
 rw[aAe s6e];have m7:b2 aEa (look 2) (con (.int 4)) (Rs P s1 (some (.sh (.int b))) (ow l) s4 (some (.sh (.int k))) (some (.own [])) s7 s8 s9 s10)=ok (.int (i:Int)):=by rw[<-hi];exact aHd (i:=b) rfl rfl (by decide)
 rw[aAe (aA5 m7 rfl)];show aAn _ _ (Rs P s1 (some (.sh (.int b))) (ow l) s4 (some (.sh (.int k))) (some (.own [])) (some (.sh (.int (i:Int)))) s8 s9 s10)=_;rw[aAe (aA5 (aRv (i:=b) rfl rfl (by decide) (by decide)) rfl)];show aAn _ _ (Rs P s1 (some (.sh (.int (b/4)))) (ow l) s4 (some (.sh (.int k))) (some (.own [])) (some (.sh (.int (i:Int)))) s8 s9 s10)=_;have f8:aIo (look 7) (gN 8) bEr (Rs P s1 (some (.sh (.int (b/4)))) (ow l) s4 (some (.sh (.int k))) (some (.own [])) (some (.sh (.int (i:Int)))) s8 s9 s10)=some (.nx (Rs P s1 (some (.sh (.int b1))) (ow l) s4 (some (.sh (.int k))) (some (.own (xs.map D.str))) (some (.sh (.int (i:Int)))) o8 s9 s10)):=by
  rw[aX3 rfl (by omega)];exact hlp
 show aAn (aIo (look 7) (gN 8) bEr) _ _=_;rw[aAe f8];have m9:=aHx (f:=con (.int 1)) (ρ:=Rs P s1 (some (.sh (.int b1))) (ow l) s4 (some (.sh (.int k))) (some (.own (xs.map D.str))) (some (.sh (.int (i:Int)))) o8 s9 s10) (i:=1) rfl (aHd (f:=look 2) (g:=con (.int 5)) (i:=b1) rfl rfl (by decide));rw[aAe (aA5 m9 rfl)];show aAn _ _ (Rs P s1 (some (.sh (.int b1))) (ow l) s4 (some (.sh (.int k))) (some (.own (xs.map D.str))) (some (.sh (.int (i:Int)))) o8 (some (.sh (.int (1+b1%5)))) s10)=_;rw[aAe (aA5 (aRv (i:=b1) rfl rfl (by decide) (by decide)) rfl)];show aAn _ _ (Rs P s1 (some (.sh (.int (b1/5)))) (ow l) s4 (some (.sh (.int k))) (some (.own (xs.map D.str))) (some (.sh (.int (i:Int)))) o8 (some (.sh (.int (1+b1%5)))) s10)=_;rw[aAe c9];have e10:f1 toT (f1 bAn (look 6)) (Rs P s1 (some (.sh (.int (b1/5)))) (ow l) s4 (some (.sh (.int k))) (some (.own (xs.map D.str))) (some (.sh (.int (i:Int)))) o8 (some (.sh (.int nn'))) s10)=ok (tS (aGk xs)):=aFt (g:=toT) (aFt (d:= .lst (xs.map D.str)) rfl (aUu (by omega))) rfl;rw[aAe (aA5 e10 (aJr _))];show aAn _ _ (Rs P s1 (some (.sh (.int (b1/5)))) (ow l) s4 (some (.sh (.int k))) (some (.own (xs.map D.str))) (some (.sh (.int (i:Int)))) o8 (some (.sh (.int nn'))) (some (.sh (tS (aGk xs)))))=_;exact bNm (i:=3) (j:=10) (l:=l) (k:=aGk xs) rfl (bQf rfl) (n:=nn') rfl (by have:=hk.le;omega)
theorem bJf {P:List Str}(hP:0<P.length)(hP2:P.length<=100){s1 s4:Option SV}: ∀(js:List Nat) (n:Nat) (l:Sm) (b:Int) (s5 s6 s7 s8 s9 s10:Option SV),n+js.length<=1000->(∀j∈js,j<=1000)->KInv P n l->∃(b':Int) (l':Sm) (o5 o6 o7 o8 o9 o10:Option SV),KInv P (n+js.length) l'/\
  loop (gN 5) bEq (js.map fun (j:Nat)=>D.int (0+(j:Int))) (Rs P s1 (some (.sh (.int b))) (ow l) s4 s5 s6 s7 s8 s9 s10)=some (.nx (Rs P s1 (some (.sh (.int b'))) (ow l') s4 o5 o6 o7 o8 o9 o10))
 | [],n,l,b,s5,s6,s7,s8,s9,s10,_,_,hk=>⟨b,l,s5,s6,s7,s8,s9,s10,hk,rfl⟩
 | j::js,n,l,b,s5,s6,s7,s8,s9,s10,hl,hj,hk=>by
  rw[Qk] at hl;have j1:=hj j Qm;obtain⟨b1,l1,o6,o7,o8,o9,o10,hk1,e1⟩:=bRx hP hP2 (s1:=s1) (s4:=s4) (s6:=s6) (s7:=s7) (s8:=s8) (s9:=s9) (s10:=s10) (n:=n) (by omega) hk b (k:=0+(j:Int)) (by omega) (by omega);obtain⟨b2',l2,p5,p6,p7,p8,p9,p10,hk2,e2⟩:=bJf hP hP2 (s1:=s1) (s4:=s4) js (n+1) l1 b1 (some (.sh (.int (0+(j:Int))))) o6 o7 o8 o9 o10 (by omega) (fun j' h'=>hj j' (Qr _ h')) hk1;refine⟨b2',l2,p5,p6,p7,p8,p9,p10,?_,?_⟩
  ·rw[Qk]
   have e:n+(js.length+1)=n+1+js.length:=by omega
   rw[e];exact hk2
  ·rw[Qv,aD7 (ρ1:=Rs P s1 (some (.sh (.int b))) (ow l) s4 (some (.sh (.int (0+(j:Int))))) s6 s7 s8 s9 s10) rfl e1,e2]
structure bXr (P:List Str)(l:Sm):Prop where
 ma:MarkS l
 le:l.length<=3
 fi: ∀p∈l,bFk P p.1
 hi: ∀p∈l,p.2<=60000000000000000000000000000000000000000
def bUh (t:Adr):List D->M D:=aIj 2 fun ds=>aBd (aGx t (bSe t) (aC0 aJx ds))
theorem bOi (t:Adr){P:List Str}(hP:0<P.length)(hP2:P.length<=100)(c:Int): ∃l:Sm,bXr P l/\bUh t [.lst (P.map D.str),.int c]=ok (sD l):=by
 obtain⟨b,hb,eb⟩:=bJd t c;obtain⟨i,hi⟩: ∃i:Nat,b%4=(i:Int):=⟨(b%4).toNat,by omega⟩;have hi4:i<=3:=by omega
 obtain⟨b',l,o5,o6,o7,o8,o9,o10,hk,hlp⟩:=bJf hP hP2 (s1:=some (.sh (.int c))) (s4:=some (.sh (.int (i:Int)))) (Zj i) 0 [] (b/4) none none none none none none (by rw[Zo];omega) (fun j hj=>by have:=List.mem_range.mp hj;omega) ⟨.nil,Qo _,(fun q hq=>nomatch hq),(fun q hq=>nomatch hq),(fun q hq=>nomatch hq)⟩;rw[Zo,Uf] at hk;have ll:l.length<=3:=Zs hk.le hi4;have mem: ∀p∈bFa l,p∈l:=fun p hp=>(aM9 l).mem_iff.mp hp
 refine⟨bFa l,⟨⟨bBb hk.nd,fun p hp=>bFk.pair (hk.fi p (mem p hp)),fun p hp=>hk.po p (mem p hp)⟩,by rw[bFw];exact ll,fun p hp=>hk.fi p (mem p hp),fun p hp=> ?_⟩,aBe rfl ?_⟩
 ·have:=hk.hi p (mem p hp)
  have:(i:Int)<=3:=by omega
  omega
 have e0:aC0 aJx [.lst (P.map D.str),.int c]=Rs P (some (.sh (.int c))) none none none none none none none none none:=rfl;rw[e0];unfold aGx;have a2:app (bSe t) (aAa (look 1) aAg) (Rs P (some (.sh (.int c))) none none none none none none none none none)=ok (.int b):=(aBo (aAf (d:= .int c) rfl aAq)).trans eb;rw[aAe (aA5 a2 rfl)];have n3:bKp 3 (Rs P (some (.sh (.int c))) (some (.sh (.int b))) none none none none none none none none)=some (.nx (Rs P (some (.sh (.int c))) (some (.sh (.int b))) (ow []) none none none none none none none)):=rfl;show aBd (aAn _ _ (Rs P (some (.sh (.int c))) (some (.sh (.int b))) none none none none none none none none))=_;rw[aAe n3];have m4:b2 aEa (look 2) (con (.int 4)) (Rs P (some (.sh (.int c))) (some (.sh (.int b))) (ow []) none none none none none none none)=ok (.int (i:Int)):=by rw[<-hi];exact aHd (i:=b) rfl rfl (by decide)
 rw[aAe (aA5 m4 rfl)];show aBd (aAn _ _ (Rs P (some (.sh (.int c))) (some (.sh (.int b))) (ow []) (some (.sh (.int (i:Int)))) none none none none none none))=_;rw[aAe (aA5 (aRv (i:=b) rfl rfl (by decide) (by decide)) rfl)];have f5:aIo (look 4) (gN 5) bEq (Rs P (some (.sh (.int c))) (some (.sh (.int (b/4)))) (ow []) (some (.sh (.int (i:Int)))) none none none none none none)=some (.nx (Rs P (some (.sh (.int c))) (some (.sh (.int b'))) (ow l) (some (.sh (.int (i:Int)))) o5 o6 o7 o8 o9 o10)):=by
  rw[aX3 rfl (by omega)];exact hlp
 show aBd (aAn (aIo (look 4) (gN 5) bEq) _ (Rs P (some (.sh (.int c))) (some (.sh (.int (b/4)))) (ow []) (some (.sh (.int (i:Int)))) none none none none none none))=_;rw[aAe f5];rw[aBa (aBl (aFt (g:=toT) (bKj (i:=3) (l:=l) rfl (by omega)) rfl))];rfl
theorem csT (t:Adr):cs t t.aAr=true:=by simp[cs]
theorem csC (t:Adr):cs t t.aA3=true:=by simp[cs]
theorem csO (t:Adr):cs t t.aA2=true:=by simp[cs]
theorem csU (t:Adr):cs t t.aBv=true:=by simp[cs]
theorem csW (t:Adr):cs t t.aAu=true:=by simp[cs]
def iT:List D->M (List (Str×D))
 | []=>ok [("nought",.bl false),("one",.bl true)]
 | _=>none
def iC:List D->M (List (Str×D))
 | []=>ok [("nought",.int 0),("one",.int 1)]
 | _=>none
def iO:List D->M (List (Str×D))
 | []=>ok [("nought",.non),("one",.int 0)]
 | _=>none
def iU:List D->M (List (Str×D))
 | []=>ok [("nought",.tup []),("one",.tup [.tup [.tup [],.int 1]])]
 | _=>none
def iW:List D->M (List (Str×D))
 | []=>ok [("nought",.tup []),("one",.tup [.tup []])]
 | _=>none
def iR:List D->M (List (Str×D))
 | [.int m]=>if 2<=m then ok [("many",.int m),("nought",.int 0),("one",.int 1)] else none
 | _=>none
def iL:List D->M (List (Str×D))
 | [.int m]=>if 1<=m then ok [("many",.int m),("nought",.tup []),("one",.tup [.int 0])] else none
 | _=>none
def iS:List D->M (List (Str×D))
 | [.lst [.str x,.str y]]=>ok [("nought",.tup []),("one",tS (aGk (aDh [x,y])))]
 | _=>none
open Classical in
def iP (t:Adr):List D->M (List (Str×D)):=fun ds=>if ds=[oT t,oCo t] then ok [("left",oT t),("right",oCo t),("nought",.tup [.bl false,.non]),("one",.tup [.bl true,.int 0])] else none
theorem aM6 {t:Adr}{C:Addr}{F:Rho->Option Out}{f1 f2:Rho->M D}{d1 d2:D}(hc:cs t C=true)(hF:F=aAn (aEz (cs t) 0 "nought" f1) (aAn (aEz (cs t) 0 "one" f2) aAz))(h1: ∀ρ,f1 ρ=ok d1)(h2: ∀ρ,f2 ρ=ok d2)(i1:d1.imm=true)(i2:d2.imm=true)(a dx:Addr):
  aDm a C dx (F [some (.oin a C dx [])])=ok [(("nought":Str),d1),(("one":Str),d2)]:=by
 rw[hF,aAe (aFp hc (h1 _) i1 [] rfl (by decide+kernel) (by decide)),aAe (aFp hc (h2 _) i2 ["nought"] rfl (by decide+kernel) (by decide))];simp[aAz,aDm]
theorem bQs (t:Adr): ∀ds r a dx,iT ds=some r->∃fs,r= .ok fs/\aDm a t.aAr dx (aC1 t (aP0 aDs a t.aAr dx ds))=ok fs:=by
 intro ds r a dx h;unfold iT at h;split at h
 ·cases h;exact⟨_,rfl,aM6 (csT t) rfl (fun _=>rfl) (fun _=>rfl) rfl rfl a dx⟩
 ·cases h
theorem bQz (t:Adr): ∀ds r a dx,iC ds=some r->∃fs,r= .ok fs/\aDm a t.aA3 dx (aC2 t (aP0 aDt a t.aA3 dx ds))=ok fs:=by
 intro ds r a dx h;unfold iC at h;split at h
 ·cases h;exact⟨_,rfl,aM6 (csC t) rfl (fun _=>rfl) (fun _=>rfl) rfl rfl a dx⟩
 ·cases h
theorem bQx (t:Adr): ∀ds r a dx,iO ds=some r->∃fs,r= .ok fs/\aDm a t.aA2 dx (aC9 t (aP0 aEm a t.aA2 dx ds))=ok fs:=by
 intro ds r a dx h;unfold iO at h;split at h
 ·cases h;exact⟨_,rfl,aM6 (csO t) rfl (fun _=>rfl) (fun _=>rfl) rfl rfl a dx⟩
 ·cases h
theorem bQr (t:Adr): ∀ds r a dx,iU ds=some r->∃fs,r= .ok fs/\aDm a t.aBv dx (aDr t (aP0 aE9 a t.aBv dx ds))=ok fs:=by
 intro ds r a dx h;unfold iU at h;split at h
 ·cases h;exact⟨_,rfl,aM6 (csU t) rfl (fun _=>rfl) (fun _=>rfl) rfl rfl a dx⟩
 ·cases h
theorem bQq (t:Adr): ∀ds r a dx,iW ds=some r->∃fs,r= .ok fs/\aDm a t.aAu dx (aCn t (aP0 aDd a t.aAu dx ds))=ok fs:=by
 intro ds r a dx h;unfold iW at h;split at h
 ·cases h;exact⟨_,rfl,aM6 (csW t) rfl (fun _=>rfl) (fun _=>rfl) rfl rfl a dx⟩
 ·cases h
theorem bQu (t:Adr): ∀ds r a dx,iR ds=some r->∃fs,r= .ok fs/\aDm a t.aAw dx (aBx t (aFf t) (aP0 aCk a t.aAw dx ds))=ok fs:=by
 intro ds r a dx h;unfold iR at h;split at h
 ·rename_i m
  split at h
  ·rename_i hm
   cases h;refine⟨_,rfl,?_⟩;have e0:aP0 aCk a t.aAw dx [.int m]=[some (.oin a t.aAw dx []),some (.sh (.int m))]:=rfl;rw[e0];have w1:app (aFf t) (aAa (look 1) (aAa (con (.int 2)) aAg)) [some (.oin a t.aAw dx []),some (.sh (.int m))]=ok (.bl true):=by
    rw[aBo (aAf (d:= .int m) rfl (aAf (d:= .int 2) rfl aAq)),aGi t rfl];show ok (D.bl (decide (2<=m)))=_;rw[decide_eq_true hm]
   unfold aBx;rw[aAe (aXd w1),aAe (aRu (j:=0) (d:= .int m) (bSf t) rfl [] rfl (by decide+kernel) (by decide)),aAe (aFp (d:= .int 0) (bSf t) rfl rfl ["many"] rfl (by decide+kernel) (by decide)),aAe (aFp (d:= .int 1) (bSf t) rfl rfl ["many","nought"] rfl (by decide+kernel) (by decide))];simp[aAz,aDm]
  ·cases h
 ·cases h
theorem bQy (t:Adr): ∀ds r a dx,iL ds=some r->∃fs,r= .ok fs/\aDm a t.aBp dx (aCi t (aFf t) (aP0 aDf a t.aBp dx ds))=ok fs:=by
 intro ds r a dx h;unfold iL at h;split at h
 ·rename_i m
  split at h
  ·rename_i hm
   cases h;refine⟨_,rfl,?_⟩;have e0:aP0 aDf a t.aBp dx [.int m]=[some (.oin a t.aBp dx []),some (.sh (.int m))]:=rfl;rw[e0];have w1:app (aFf t) (aAa (look 1) (aAa (con (.int 1)) aAg)) [some (.oin a t.aBp dx []),some (.sh (.int m))]=ok (.bl true):=by
    rw[aBo (aAf (d:= .int m) rfl (aAf (d:= .int 1) rfl aAq)),aGi t rfl];show ok (D.bl (decide (1<=m)))=_;rw[decide_eq_true hm]
   unfold aCi;rw[aAe (aXd w1),aAe (aRu (j:=0) (d:= .int m) (bSg t) rfl [] rfl (by decide+kernel) (by decide)),aAe (aFp (d:= .tup []) (bSg t) rfl rfl ["many"] rfl (by decide+kernel) (by decide)),aAe (aFp (d:= .tup [.int 0]) (bSg t) rfl rfl ["many","nought"] rfl (by decide+kernel) (by decide))];simp[aAz,aDm]
  ·cases h
 ·cases h
theorem bQt (t:Adr): ∀ds r a dx,iS ds=some r->∃fs,r= .ok fs/\aDm a t.aA7 dx (aB4 t (aP0 aCv a t.aA7 dx ds))=ok fs:=by
 intro ds r a dx h;unfold iS at h;split at h
 ·rename_i x y
  cases h;refine⟨_,rfl,?_⟩;have e0:aP0 aCv a t.aA7 dx [.lst [.str x,.str y]]=[some (.oin a t.aA7 dx []),some (.sh (.lst (([x,y]:List Str).map D.str)))]:=rfl;rw[e0];unfold aB4;rw[aAe (aFp (d:= .tup []) (bUm t) rfl rfl [] rfl (by decide+kernel) (by decide))];have hl:=aRq [x,y];have o1:f1 toT (f1 bIs (f1 toS (look 1))) [some (.oin a t.aA7 dx (([]:List (Str×D))++ [(("nought":Str),D.tup [])])),some (.sh (.lst (([x,y]:List Str).map D.str)))]=ok (tS (aGk (aDh [x,y]))):=aFt (aFt (aFt rfl (bOc [x,y] (by simp))) (aWx (aF8 _) (by simp at hl;omega))) rfl;rw[aAe (aFp (bUm t) o1 (aJr _) ["nought"] rfl (by decide+kernel) (by decide))];simp[aAz,aDm]
 ·cases h
theorem bQv (t:Adr): ∀ds r,iP t ds=some r->ds.length+1=3:=by
 intro ds r h;unfold iP at h;split at h
 ·rename_i e;subst e;rfl
 ·cases h
theorem bQw (t:Adr): ∀ds r a dx,iP t ds=some r->∃fs,r= .ok fs/\aDm a t.aA8 dx (aB6 t (aP0 aCx a t.aA8 dx ds))=ok fs:=by
 intro ds r a dx h;unfold iP at h;split at h
 ·rename_i e
  subst e;cases h;refine⟨_,rfl,?_⟩;have e0:aP0 aCx a t.aA8 dx [oT t,oCo t]=[some (.oin a t.aA8 dx []),some (.sh (oT t)),some (.sh (oCo t))]:=rfl;rw[e0];unfold aB6;rw[aAe (aRu (j:=0) (d:=oT t) (bN0 t) rfl [] rfl (by decide+kernel) (by decide)),aAe (aRu (j:=1) (d:=oCo t) (bN0 t) rfl ["left"] rfl (by decide+kernel) (by decide))];have n1: ∀z,mkT (aAa (fld (cs t) "nought" (look 1)) (aAa (fld (cs t) "nought" (look 2)) aAg)) [z,some (.sh (oT t)),some (.sh (oCo t))]=ok (.tup [.bl false,.non]):=fun z=>aXq (aAf (aJs (C:=t.aAr) rfl (csT t) rfl) (aAf (aJs (C:=t.aA2) rfl (csO t) rfl) aAq))
  have n2: ∀z,mkT (aAa (fld (cs t) "one" (look 1)) (aAa (fld (cs t) "one" (look 2)) aAg)) [z,some (.sh (oT t)),some (.sh (oCo t))]=ok (.tup [.bl true,.int 0]):=fun z=>aXq (aAf (aJs (C:=t.aAr) rfl (csT t) rfl) (aAf (aJs (C:=t.aA2) rfl (csO t) rfl) aAq))
  rw[aAe (aFp (bN0 t) (n1 _) rfl ["left","right"] rfl (by decide+kernel) (by decide)),aAe (aFp (bN0 t) (n2 _) rfl ["left","right","nought"] rfl (by decide+kernel) (by decide))];simp[aAz,aDm]
 ·cases h
theorem bA5 (l:Sm)(h:l≠[]):aIk (l.map pD)=none:=by
 cases l with
 | nil=>exact absurd rfl h
 | cons p l=>rfl
theorem bAx (l:Sm)(h:l≠[]):aCp (l.map pD)=none:=by
 cases l with
 | nil=>exact absurd rfl h
 | cons p l=>
  show (match aIk [tS p.1,.int p.2],aCp (l.map pD) with | some x,some l=>some (x::l) | _,_=>none)=none;rfl
theorem bDr: ∀xs:List Str,gdL (xs.map D.str)=true
 | []=>rfl
 | _::xs=>bDr xs
theorem bT6 {p:List Str×Int}(h:p.1.length<=3):gd (pD p)=true:=by
 show (decide (2<=100)&&((decide ((p.1.map D.str).length<=100)&&gdL (p.1.map D.str))&&(true&&true)))=true;rw[bDr,decide_eq_true (show (p.1.map D.str).length<=100 by rw[Qh];omega)];rfl
theorem bJo: ∀{l:Sm},(∀p∈l,p.1.length<=3)->gdL (l.map pD)=true
 | [],_=>rfl
 | p::l,h=>by
  show (gd (pD p)&&gdL (l.map pD))=true;rw[bT6 (h p Qm),bJo fun q hq=>h q (Qr _ hq)];rfl
theorem bJr {l:Sm}(hl:l.length<=3)(h: ∀p∈l,p.1.length<=3):Fit (sD l):=by
 refine⟨?_,fun xs hx=> ?_,fun ds S e hS=> ?_⟩
 ·show (decide ((l.map pD).length<=100)&&gdL (l.map pD))=true
  rw[bJo h,decide_eq_true (by rw[Qh];omega)];rfl
 ·by_cases e:l=[]
  ·subst e;cases hx;simp
  ·have:txs (sD l)=none:=bA5 l e
   rw[this] at hx;cases hx
 ·cases e
  by_cases e:l=[]
  ·subst e;cases hS;simp
  ·rw[bAx l e] at hS;cases hS
theorem bC0: ∀(l:Sm),aKv (l.map pD)=some (kys l)
 | []=>rfl
 | p::l=>by
  show (match aIk (p.1.map D.str),aKv (l.map pD) with | some k,some ks=>some (k::ks) | _,_=>none)=_;rw[aH2,bC0 l];rfl
theorem leB_iff (xs:List Str):leB xs=true↔xs.Pairwise fun a b=>(!ltS b a)=true:=aJt (R:=fun a b=> !ltS b a) leB (fun _=>rfl) (fun _ _ _=>rfl) rfl (fun {a b c} h1 h2=>by
 have e: ∀x y:Str,(!ltS y x)=leS x y:=fun x y=>by unfold ltS;rw[aIx,Bool.not_not]
 rw[e] at*;exact aOc _ _ _ h1 h2) xs
theorem bRn {p:List Str×Int}(h1:p.1.Pairwise fun x y=>leS x y=true)(h2:1<=p.2):aQh (pD p)=true:=by
 show ((match aIk (p.1.map D.str) with | some xs=>leB xs | none=>false)&&decide (1<=p.2))=true;rw[aH2,decide_eq_true h2,V9];refine (leB_iff _).mpr (h1.imp fun {a b} h=> ?_);unfold ltS;rw[aIx,Bool.not_not];exact h
theorem bCn {m:Int}{a b:Str}{l:Sm}(hne:l≠[])(he: ∀p∈l,aQh (pD p)=true):nine m [a,b] (sD l)=[false,false,false,false,false,false,aTn (kys l),false,false]:=by
 have h1:mS [a,b] (sD l)=false:=by unfold mS;rw[show txs (sD l)=none from bA5 l hne]
 have h2:mL (sD l)=false:=by
  show (decide ((l.map pD).length<=2)&&((l.map pD).all (wh 0)&&_))=false;cases l with
  | nil=>exact absurd rfl hne
  | cons p l=>rw[Qv,Yx,show wh 0 (pD p)=false from rfl,Vx,Vx,Jw]
 have h3:mU (sD l)=aTn (kys l):=by
  show ((l.map pD).all aQh&&match aKv (l.map pD) with | some ks=>aTn ks | none=>false)=_;rw[bC0,show (l.map pD).all aQh=true from List.all_eq_true.mpr fun d hd=>by obtain⟨p,hp,rfl⟩:=List.mem_map.mp hd;exact he p hp,V7]
 have h4:mW (sD l)=false:=by
  show (match aCp (l.map pD) with | some S=>aMl S | none=>false)=false;rw[bAx l hne]
 have h5:mP (sD l)=false:=by
  match l with
  | []=>rfl
  | [_]=>rfl
  | [_,_]=>rfl
  | _::_::_::_=>rfl
 show [false,false,false&&_,false || false,mS [a,b] (sD l),mL (sD l),mU (sD l),mW (sD l),mP (sD l)]=_;rw[h1,h2,h3,h4,h5];rfl
def aQg (t:Adr):List D->M D:=aIj 2 fun ds=>aBd (aEw t (aC0 aG1 ds))
def aZ2 (t:Adr):List D->M D:=aIj 3 fun ds=>aBd (aD9 t (aC0 aGf ds))
def bNy (t:Adr):List D->M D:=aIj 3 fun ds=>aBd (aDz t (aC0 aFl ds))
def bFf (e:D×List Bool):D:= .tup [e.1,.str (word letters e.2 "")]
def bUw (ds:List D)(ss:List Str):List D:=(ds.zip ss).map fun p=> .tup [p.1,.str p.2]
theorem aM4 (L:List (D×List Bool))(ss:List Str)(h:ss=L.map fun e=>word letters e.2 ""):bUw (L.map (·.1)) ss=L.map bFf:=by
 subst h;unfold bUw;rw[V5,Zr];rfl
theorem bGk (t:Adr)(m g:Int):aQg t [.int m,.int g]=ok (.lst ((aLo m g).map bFf)):=by
 have e:plainS=(aLo m g).map fun e=>word letters e.2 "":=aU5
 rw[<-aM4 _ _ e];refine aBe rfl ?_;rfl
theorem bKm (t:Adr)(a b c:Str):aZ2 t [.str a,.str b,.str c]=ok (.lst ((aSu a b c).map bFf)):=by
 have e:bOl=(aSu a b c).map fun e=>word letters e.2 "":=aYt
 rw[<-aM4 _ _ e];refine aBe rfl ?_;have e0:aC0 aGf [.str a,.str b,.str c]=[some (.sh (.str a)),some (.sh (.str b)),some (.sh (.str c))]:=rfl;rw[e0];unfold aD9;have s1:f1 toT (f1 bAn (mkL (aAa (look 0) (aAa (look 2) aAg)))) [some (.sh (.str a)),some (.sh (.str b)),some (.sh (.str c))]=ok (tS (aGk [a,c])):=aFt (aFt (d:= .lst (([a,c]:List Str).map D.str)) rfl (aUu (by simp))) rfl;generalize f1 toT (f1 bAn (mkL (aAa (look 0) (aAa (look 2) aAg))))=f at s1;unfold aAn aC4 mkL;simp only[mkT,aAa,s1];rfl
theorem bOa (t:Adr)(a b:Str)(g:Int):bNy t [.str a,.str b,.int g]=ok (.lst ((bIp a b g).map bFf)):=by
 have e:bUx=(bIp a b g).map fun e=>word letters e.2 "":=bAz
 rw[<-aM4 _ _ e];refine aBe rfl ?_;rfl
theorem p60:(10:Int)^(60:Int).toNat=1000000000000000000000000000000000000000000000000000000000000:=by decide
theorem aXp {P:List Str}(hP:P.length=4)(hr:bJ2 P)(h:Int)(h0:0<=h)(h3:h<3): ∃a b c,Nms a b c/\gIx (.lst (P.map D.str)) (.int 0)=ok (.str a)/\gIx (.lst (P.map D.str)) (.int (1+h))=ok (.str b)/\gIx (.lst (P.map D.str)) (.int (1+(h+1)%3))=ok (.str c):=by
 match P,hP with
 | [p0,p1,p2,p3],_=>
  simp only[E2,Zt,Zf,or_false,forall_eq_or_imp,forall_eq] at hr;obtain⟨⟨h01,h02,h03⟩,⟨h12,h13⟩,h23,_⟩:=hr;have mk: ∀b c:Str,ltS p0 b=true->ltS p0 c=true->b≠c->Nms p0 b c:=fun b c hb hc hne=>by
   have as: ∀x y:Str,ltS x y=true->ltS y x=false:=fun x y q=>by
    cases z:ltS y x with
    | false=>rfl
    | true=>
     have w:=aXr q z;rw[aN6] at w;cases w
   have nn: ∀x y:Str,ltS x y=true->x≠y:=fun x y q e=>by
    rw[e] at q;have w:decide (y.cps.toList<y.cps.toList)=true:=q;rw[aN6] at w;cases w
   refine⟨hb,as _ _ hb,aN6 _,nn _ _ hb,(nn _ _ hc).symm,hne.symm,?_⟩;refine bIr (List.pairwise_cons.mpr ⟨fun y hy=> ?_,by simp⟩) (List.Perm.refl _);rw[List.mem_singleton.mp hy];have w:=as _ _ hc;unfold ltS at w;rw[aIx] at w
   simpa using w
  have nn: ∀x y:Str,decide (x.cps.toList<y.cps.toList)=true->x≠y:=fun x y q e=>by rw[e,aN6] at q;cases q
  have hh:h=0\/h=1\/h=2:=by omega
  rcases hh with rfl | rfl | rfl
  ·exact⟨p0,p1,p2,mk p1 p2 h01 h02 (nn _ _ h12),rfl,rfl,rfl⟩
  ·exact⟨p0,p2,p3,mk p2 p3 h02 h03 (nn _ _ h23),rfl,rfl,rfl⟩
  ·exact⟨p0,p3,p1,mk p3 p1 h03 h01 (nn _ _ h13).symm,rfl,rfl,rfl⟩
def bKq:List D->Prop:=fun ds=> ∃ns:List Int,ds=[.lst (ns.map D.int)]/\ns.length<=63
abbrev Rl (ns:List Int)(s1 s2 s3 s4 s5 s6 s7 s8 s9 s10 s11:Option SV):Rho:=[some (.sh (.lst (ns.map D.int))),s1,s2,s3,s4,s5,s6,s7,s8,s9,s10,s11]
abbrev sN (nm:List Str):Option SV:=some (.sh (.lst (nm.map D.str)))
abbrev sI (i:Int):Option SV:=some (.sh (.int i))
abbrev sT (x:Str):Option SV:=some (.sh (.str x))
abbrev R8 (ns:List Int)(P:List Str)(m g h:Int)(a b c:Str)(W:D)(s9 s10 s11:Option SV):Rho:=Rl ns (sN P) (sI m) (sI g) (sI h) (sT a) (sT b) (sT c) (some (.sh W)) s9 s10 s11
abbrev aDi (t:Adr)(m:Int)(a b:Str):D:= .lst ((aO4 t m [a,b]).map bE9)
def bH5 (t:Adr):Rho->Option Out:=(aAn (sIf (aA9 (b2 gNe (app (aTx t) (aAa (look 8) (aAa (look 9) aAg))) (look 10))) (aAn (aC4 (con (.bl false)))
  aAz) aAz)
  aAz)
theorem bFr (l:Sm)(j:Nat)(h1:1<=j)(h2:j<l.length): ∃p q,l[j-1]? =some p/\l[j]? =some q/\l=l.take (j-1)++p::q::l.drop (j+1):=by
 refine⟨l[j-1]'(by omega),l[j]'h2,Qj _,Qj _,?_⟩;rw[Wo,show l[j-1]'(by omega)::l.drop j=l.drop (j-1) by
  have:=Wo (as:=l) (i:=j-1) (h:=by omega);rw[show j-1+1=j by omega] at this;exact this,Ws]
theorem bHa {A B:List (List Str)}{p q:List Str}(h:aEu p q=true):aTn (A++q::p::B)=false:=by
 cases e:aTn (A++q::p::B) with
 | false=>rfl
 | true=>
  have:=(aVo _).mp e;have h2:=(List.pairwise_append.mp this).2.1;have h3:=Ug h2 (Qm (a:=p) (l:=B));have:=aP7 h h3;rw[aP8] at this;cases this
theorem bMh {K:Qc}{mg:Str->Option Qd}{t:Adr}(X:Txt K mg t): ∀ds r,tt bKq ds=some r->∃d,r= .ok d/\aBd (aRz t fAt fName (aQg t) (aZ2 t) (bUh t) (aTx t) (bNy t) iO iC iL (iP t) iW iR iS iU iT (aC0 bId ds))=ok d:=by
 intro ds r hr;obtain⟨hS,e⟩:=bIo hr;clear hr;subst e;obtain⟨ns,rfl,hns⟩:=hS;refine⟨_,rfl,?_⟩;have e0:aC0 bId [.lst (ns.map D.int)]=Rl ns none none none none none none none none none none none:=rfl;rw[e0];unfold aRz;have hst:0<=atZ ns 0%2000/\atZ ns 0%2000<2000:=by omega
 generalize hst':atZ ns 0%2000=st at hst;obtain⟨nm,hnm⟩: ∃nm:List Str,nm=(Zj 4).map fun (k:Nat)=>nam st (k:Int):=⟨_,rfl⟩
 have hn:nm.length=4:=by rw[hnm,Qh,Zo]
 have hnd:nm.Nodup:=by
  rw[hnm];unfold E8;rw[Jq];refine List.Pairwise.imp_of_mem (fun {a b} ha hb hne e=>hne ?_) (List.nodup_range (n:=4));have h1:=List.mem_range.mp ha;have h2:=List.mem_range.mp hb;have:=bL2 (st:=st) (k:=(a:Int)) (k':=(b:Int)) (by omega) (by omega) (by omega) (by omega) e;omega
 have c1:=aR3 (m:=1) (k:=12) (it:=itR (con (.int 4))) (fe:=app fName (aAa (b2 aEa (app fAt (aAa (look 0) (aAa (con (.int 0)) aAg))) (con (.int 2000))) (aAa (look 12) aAg))) (ρ:=Rl ns none none none none none none none none none none none) (l:=Zj 4) (e:=fun (k:Nat)=>D.int (0+(k:Int))) (g:=fun (k:Nat)=>D.str (nam st (k:Int))) rfl (by simp) fun k hk=>by
  refine⟨?_,rfl⟩;have hk':=List.mem_range.mp hk;have g1:=aHd (f:=app fAt (aAa (look 0) (aAa (con (.int 0)) aAg))) (g:=con (.int 2000)) (ρ:=(ext 1 (free (Rl ns none none none none none none none none none none none))).set 12 (some (.sh (.int (0+(k:Int)))))) (j:=2000) (aQl 0) rfl (by decide);rw[hst'] at g1;have lk:look 12 ((ext 1 (free (Rl ns none none none none none none none none none none none))).set 12 (some (.sh (.int (0+(k:Int))))))=ok (.int (k:Int)):=by
   show ok (D.int (0+(k:Int)))=_;rw[Int.zero_add]
  exact (aBo (aAf g1 (aAf lk aAq))).trans (aX4 ⟨by omega,by omega,by omega,by omega⟩)
 have c2:((Zj 4).map fun (k:Nat)=>D.str (nam st (k:Int)))=nm.map D.str:=by rw[hnm,Zr];rfl
 rw[c2] at c1;have c3:=aFt (g:=bAn) c1 (aUu (by omega));have hP:(aGk nm).length=4:=by rw[(aD3 nm).length_eq,hn]
 have bQ4:=aWw hnd;generalize aGk nm=P at c3 hP bQ4;rw[aAe (aQ2 c3 rfl)];show aBd (aAn _ _ (Rl ns (sN P) none none none none none none none none none none))=_;have pw: ∀ρ,b2 aOn (con (.int 10)) (con (.int 60)) ρ=ok (.int 1000000000000000000000000000000000000000000000000000000000000):=fun ρ=>by simp[b2,con,bnd,ok,aOn,p60]
 obtain⟨m,hm⟩: ∃m,m=2+atZ ns 1%1000000000000000000000000000000000000000000000000000000000000:=⟨_,rfl⟩;obtain⟨g,hg⟩: ∃g,g=1+atZ ns 2%1000000000000000000000000000000000000000000000000000000000000:=⟨_,rfl⟩;have hm2:2<=m:=by omega
 have hg1:1<=g:=by omega
 have e2:b2 aA4 (con (.int 2)) (b2 aEa (app fAt (aAa (look 0) (aAa (con (.int 1)) aAg))) (b2 aOn (con (.int 10)) (con (.int 60)))) (Rl ns (sN P) none none none none none none none none none none)=ok (.int m):=by
  rw[hm];exact aHx (i:=2) rfl (aHd (aQl 1) (pw _) (by decide))
 rw[aAe (aA5 e2 rfl)];show aBd (aAn _ _ (Rl ns (sN P) (sI m) none none none none none none none none none))=_;have e3:b2 aA4 (con (.int 1)) (b2 aEa (app fAt (aAa (look 0) (aAa (con (.int 2)) aAg))) (b2 aOn (con (.int 10)) (con (.int 60)))) (Rl ns (sN P) (sI m) none none none none none none none none none)=ok (.int g):=by
  rw[hg];exact aHx (i:=1) rfl (aHd (aQl 2) (pw _) (by decide))
 rw[aAe (aA5 e3 rfl)];show aBd (aAn _ _ (Rl ns (sN P) (sI m) (sI g) none none none none none none none none))=_;clear hm hg;have hh:0<=atZ ns 3%3/\atZ ns 3%3<3:=by omega
 have e4:=aHd (f:=app fAt (aAa (look 0) (aAa (con (.int 3)) aAg))) (g:=con (.int 3)) (ρ:=Rl ns (sN P) (sI m) (sI g) none none none none none none none none) (j:=3) (aQl 3) rfl (by decide);generalize atZ ns 3%3=h at hh e4;rw[aAe (aA5 e4 rfl)];show aBd (aAn _ _ (Rl ns (sN P) (sI m) (sI g) (sI h) none none none none none none none))=_;obtain⟨a,b,c,N,n1,n2,n3⟩:=aXp hP bQ4 h hh.1 hh.2;rw[aAe (aA5 (aB2 (x:= .lst (P.map D.str)) (y:= .int 0) rfl rfl n1) rfl)];show aBd (aAn _ _ (Rl ns (sN P) (sI m) (sI g) (sI h) (sT a) none none none none none none))=_;rw[aAe (aA5 (aB2 (x:= .lst (P.map D.str)) rfl (aHx (f:=con (.int 1)) (i:=1) (g:=look 4) (j:=h) rfl rfl) n2) rfl)];show aBd (aAn _ _ (Rl ns (sN P) (sI m) (sI g) (sI h) (sT a) (sT b) none none none none none))=_;rw[aAe (aA5 (aB2 (x:= .lst (P.map D.str)) rfl (aHx (f:=con (.int 1)) (i:=1) rfl (aHd (aHx (f:=look 4) (i:=h) (g:=con (.int 1)) (j:=1) rfl rfl) (g:=con (.int 3)) (j:=3) rfl (by decide))) n3) rfl)];show aBd (aAn _ _ (Rl ns (sN P) (sI m) (sI g) (sI h) (sT a) (sT b) (sT c) none none none none))=_;have hone:aGk (aDh [b,a])=[a,b]:=by
  rw[aTk (by simp[N.nab.symm])];refine bIr (List.pairwise_cons.mpr ⟨fun y hy=> ?_,by simp⟩) (List.Perm.swap _ _ _);rw[List.mem_singleton.mp hy];have w:=N.ba;unfold ltS at w;rw[aIx] at w
  simpa using w
 have iSe:iS [.lst [.str b,.str a]]=ok [(("nought":Str),D.tup []),(("one":Str),tS [a,b])]:=by
  show ok [(("nought":Str),D.tup []),(("one":Str),tS (aGk (aDh [b,a])))]=_;rw[hone]
 have iRo:iR [.int m]=ok [(("many":Str),D.int m),(("nought":Str),D.int 0),(("one":Str),D.int 1)]:=if_pos hm2;have iLo:iL [.int 2]=ok [(("many":Str),D.int 2),(("nought":Str),D.tup []),(("one":Str),D.tup [.int 0])]:=rfl;have iPa:iP t [oT t,oCo t]=ok [(("left":Str),oT t),(("right":Str),oCo t),(("nought":Str),D.tup [.bl false,.non]),(("one":Str),D.tup [.bl true,.int 0])]:=if_pos rfl;generalize hρ:Rl ns (sN P) (sI m) (sI g) (sI h) (sT a) (sT b) (sT c) none none none none=ρ;have l2:look 2 ρ=ok (.int m):=by rw[<-hρ];rfl
 have l5:look 5 ρ=ok (.str a):=by rw[<-hρ];rfl
 have l6:look 6 ρ=ok (.str b):=by rw[<-hρ];rfl
 have way: ∀{f:Rho->M D} {g:Rho->M (List D)} {s:Str} {o:D} {ds:List D},f ρ=ok o->g ρ=ok ds->aAa (mkT (aAa (con (.str s)) (aAa f aAg))) g ρ=ok (bE9 (s,o)::ds):=fun hf hg=>aAf (aXq (aAf (f:=con _) rfl (aAf hf aAq))) hg
 have mk: ∀{C:Addr} {F:List D->M (List (Str×D))} {g:Rho->M (List D)} {ds:List D} {fs:List (Str×D)},g ρ=ok ds->F ds=ok fs->app (mkO C F) g ρ=ok (.obj C fs):=fun hg hF=>by
  rw[aBo hg];unfold mkO;rw[hF];rfl
 have e8:=bJc (way (s:="t") (o:=oT t) (f:=fun _=>mkO t.aAr iT []) rfl (way (s:="c") (o:=oC t) (f:=fun _=>mkO t.aA3 iC []) rfl (way (s:="r") (o:=oRo t m) (mk (C:=t.aAw) (aAf l2 aAq) iRo) (way (s:="o") (o:=oCo t) (f:=fun _=>mkO t.aA2 iO []) rfl
  (way (s:="s") (o:=oSe t [a,b]) (mk (C:=t.aA7) (aAf (bJc (aAf l6 (aAf l5 aAq))) aAq) iSe) (way (s:="l") (o:=oLo t) (mk (C:=t.aBp) (aAf (f:=con (.int 2)) rfl aAq) iLo) (way (s:="u") (o:=oSu t) (f:=fun _=>mkO t.aBv iU []) rfl (way (s:="w") (o:=oRe t) (f:=fun _=>mkO t.aAu iW []) rfl
  (way (s:="p") (o:=oPa t) (mk (C:=t.aA8) (aAf (f:=fun _=>mkO t.aAr iT []) (d:=oT t) rfl (aAf (f:=fun _=>mkO t.aA2 iO []) (d:=oCo t) rfl aAq)) iPa) aAq))))))))) (by simp)
 have fr:free ρ=ρ:=by rw[<-hρ];rfl
 rw[aAe (aQ2 e8 fr),<-hρ];show aBd (aAn _ _ (R8 ns P m g h a b c (aDi t m a b) none none none))=_;clear e8 way mk fr l2 l5 l6 hρ;have told: ∀{f g':Rho->M D} {ρ:Rho} {d:D},f ρ=ok (aDi t m a b)->g' ρ=ok d->Fit d->app (aTx t) (aAa f (aAa g' aAg)) ρ=ok (.str (word letters (nine m [a,b] d) "")):=fun hf hg' hd=>(aBo (aAf hf (aAf hg' aAq))).trans (bKb X N.nab hd)
 obtain⟨L,hL⟩: ∃L,L=aLo m g++aSu a b c++bIp a b g:=⟨_,rfl⟩;have hLen:(aLo m g).length=32/\(aSu a b c).length=23/\(bIp a b g).length=15:=⟨rfl,rfl,rfl⟩;have hgood: ∀e∈L,Good m a b e:=fun e he=>by
  rw[hL] at he;rcases List.mem_append.mp he with he | he
  ·rcases List.mem_append.mp he with he | he
   ·exact aY3 hm2 hg1 a b e he
   ·exact bBe N e he
  ·exact bFq hg1 N e he
 have eA:b2 aA4 (b2 aA4 (app (aQg t) (aAa (look 2) (aAa (look 3) aAg))) (app (aZ2 t) (aAa (look 5) (aAa (look 6) (aAa (look 7) aAg))))) (app (bNy t) (aAa (look 5) (aAa (look 6) (aAa (look 3) aAg)))) (R8 ns P m g h a b c (aDi t m a b) none none none)=ok (.lst (L.map bFf)):=by
  have q1:app (aQg t) (aAa (look 2) (aAa (look 3) aAg)) (R8 ns P m g h a b c (aDi t m a b) none none none)=ok (.lst ((aLo m g).map bFf)):=(aBo (aAf (d:= .int m) rfl (aAf (d:= .int g) rfl aAq))).trans (bGk t m g);have q2:app (aZ2 t) (aAa (look 5) (aAa (look 6) (aAa (look 7) aAg))) (R8 ns P m g h a b c (aDi t m a b) none none none)=ok (.lst ((aSu a b c).map bFf)):=(aBo (aAf (d:= .str a) rfl (aAf (d:= .str b) rfl (aAf (d:= .str c) rfl aAq)))).trans (bKm t a b c);have q3:app (bNy t) (aAa (look 5) (aAa (look 6) (aAa (look 3) aAg))) (R8 ns P m g h a b c (aDi t m a b) none none none)=ok (.lst ((bIp a b g).map bFf)):=(aBo (aAf (d:= .str a) rfl (aAf (d:= .str b) rfl (aAf (d:= .int g) rfl aAq)))).trans (bOa t a b g);have cat: ∀(u v:List D),u.length<=100->v.length<=100->aA4 (.lst u) (.lst v)=ok (.lst (u++v)):=fun u v h1 h2=>if_pos (by omega)
  rw[hL,Zd,Zd];refine aB2 (aB2 q1 q2 (cat _ _ (by rw[Qh];omega) (by rw[Qh];omega))) q3 (cat _ _ (by rw[Qq,Qh,Qh];omega) (by rw[Qh];omega))
 clear hL hLen;have lp:=aN8 (G:=gN2 9 10) (F:=bH5 t) (fun p ρ=> ∃o9 o10:Option SV,(o9=none\/∃d,o9=some (.sh d))/\(o10=none\/∃d,o10=some (.sh d))/\ρ=R8 ns P m g h a b c (aDi t m a b) o9 o10 none) (L.map bFf) (R8 ns P m g h a b c (aDi t m a b) none none none) ⟨none,none,.inl rfl,.inl rfl,rfl⟩ (by
  rintro p d q ρ e ⟨o9,o10,f9,f10,rfl⟩
  have hd:d∈L.map bFf:=by rw[e];exact Zh _ Qm
  obtain⟨x,hx,rfl⟩:=List.mem_map.mp hd;obtain⟨x1,x2⟩:=hgood x hx;have hfit:=bRh x1;refine⟨R8 ns P m g h a b c (aDi t m a b) (some (.sh x.1)) (sT (word letters x.2 "")) none,R8 ns P m g h a b c (aDi t m a b) (some (.sh x.1)) (sT (word letters x.2 "")) none,?_,.inl ?_,some (.sh x.1),sT (word letters x.2 ""),.inr ⟨_,rfl⟩,.inr ⟨_,rfl⟩,rfl⟩
  ·show some (aMs 10 (.str (word letters x.2 "")) (aMs 9 x.1 _))=_
   rw[aI7 (d:= .str (word letters x.2 "")) rfl];unfold aMs;split
   ·rfl
   ·rcases f9 with rfl |⟨d9,rfl⟩<;>rcases f10 with rfl |⟨d10,rfl⟩<;>rfl
  ·unfold bH5
   have q1:=told (f:=look 8) (g':=look 9) (d:=x.1) (ρ:=R8 ns P m g h a b c (aDi t m a b) (some (.sh x.1)) (sT (word letters x.2 "")) none) rfl rfl hfit;rw[x2] at q1;have q2:aA9 (b2 gNe (app (aTx t) (aAa (look 8) (aAa (look 9) aAg))) (look 10)) (R8 ns P m g h a b c (aDi t m a b) (some (.sh x.1)) (sT (word letters x.2 "")) none)=ok false:=by
    refine aDy (aB2 q1 (y:= .str (word letters x.2 "")) rfl ?_);show ok (D.bl (!decide (word letters x.2 ""=word letters x.2 "")))=_;rw[decide_eq_true rfl];rfl
   rw[aAe ((aHl q2).trans rfl)];rfl)
 obtain⟨ρ',lp,o9,o10,f9,f10,rfl⟩:=lp;have sE:aL4 (b2 aA4 (b2 aA4 (app (aQg t) (aAa (look 2) (aAa (look 3) aAg))) (app (aZ2 t) (aAa (look 5) (aAa (look 6) (aAa (look 7) aAg))))) (app (bNy t) (aAa (look 5) (aAa (look 6) (aAa (look 3) aAg))))) (gN2 9 10) (bH5 t) (R8 ns P m g h a b c (aDi t m a b) none none none)=some (.nx (R8 ns P m g h a b c (aDi t m a b) o9 o10 none)):=by
  rw[bF6 eA rfl];exact lp
 show aBd (aAn (aL4 (b2 aA4 (b2 aA4 (app (aQg t) (aAa (look 2) (aAa (look 3) aAg))) (app (aZ2 t) (aAa (look 5) (aAa (look 6) (aAa (look 7) aAg))))) (app (bNy t) (aAa (look 5) (aAa (look 6) (aAa (look 3) aAg))))) (gN2 9 10) (bH5 t)) _ _)=_;rw[aAe sE];clear sE lp eA hgood;obtain⟨l,dl,el⟩:=bOi t (P:=P) (by omega) (by omega) (atZ ns 4);have e11:app (bUh t) (aAa (look 1) (aAa (app fAt (aAa (look 0) (aAa (con (.int 4)) aAg))) aAg)) (R8 ns P m g h a b c (aDi t m a b) o9 o10 none)=ok (sD l):=(aBo (aAf (f:=look 1) (d:= .lst (P.map D.str)) rfl (aAf (aQl 4) aAq))).trans el;rw[aAe (aA5 e11 (bOn l))];show aBd (aAn _ _ (R8 ns P m g h a b c (aDi t m a b) o9 o10 (some (.sh (sD l)))))=_;have hk3: ∀p∈l,p.1.length<=3:=fun p hp=>bFk.len (dl.fi p hp)
 have hent: ∀p∈l,aQh (pD p)=true:=fun p hp=>bRn (dl.ma.fa p hp) (dl.ma.po p hp)
 have bXj:=bJr dl.le hk3;have t1:=told (f:=look 8) (g':=look 11) (d:=sD l) (ρ:=R8 ns P m g h a b c (aDi t m a b) o9 o10 (some (.sh (sD l)))) rfl rfl bXj;have b1:bR2 (aA9 (b2 aLu (look 11) (mkT aAg))) (aA9 (b2 gNe (app (aTx t) (aAa (look 8) (aAa (look 11) aAg))) (con (.str "u")))) (R8 ns P m g h a b c (aDi t m a b) o9 o10 (some (.sh (sD l))))=ok false:=by
  have q1:aA9 (b2 aLu (look 11) (mkT aAg)) (R8 ns P m g h a b c (aDi t m a b) o9 o10 (some (.sh (sD l))))=ok (!(l.map pD).isEmpty):=aDy rfl;by_cases hl:l=[]
  ·have q2:aA9 (b2 gNe (app (aTx t) (aAa (look 8) (aAa (look 11) aAg))) (con (.str "u"))) (R8 ns P m g h a b c (aDi t m a b) o9 o10 (some (.sh (sD l))))=ok (!decide (word letters (nine m [a,b] (sD l)) ""="u")):=aDy (aB2 t1 (y:= .str "u") rfl rfl)
   have:=bE1 q1 q2;rw[this,hl];rfl
  ·have w:word letters (nine m [a,b] (sD l)) ""="u":=by
    rw[bCn hl hent,(aVo _).mpr dl.ma.ks]
    decide+kernel
   rw[w] at t1;have q2:aA9 (b2 gNe (app (aTx t) (aAa (look 8) (aAa (look 11) aAg))) (con (.str "u"))) (R8 ns P m g h a b c (aDi t m a b) o9 o10 (some (.sh (sD l))))=ok false:=aDy (aB2 t1 (y:= .str "u") rfl (by
    show ok (D.bl (!decide (("u":Str)="u")))=_;rw[decide_eq_true rfl];rfl))
   rw[bE1 q1 q2,Jw]
 rw[aAe ((aHl b1).trans rfl)];have l11:f1 aI3 (look 11) (R8 ns P m g h a b c (aDi t m a b) o9 o10 (some (.sh (sD l))))=ok (.int (l.length:Int)):=by
  have:=aKu (f:=look 11) (ρ:=R8 ns P m g h a b c (aDi t m a b) o9 o10 (some (.sh (sD l)))) (ds:=l.map pD) rfl;rw[Qh] at this;exact this
 have b2':aA9 (b2 gLt (f1 aI3 (look 11)) (con (.int 2))) (R8 ns P m g h a b c (aDi t m a b) o9 o10 (some (.sh (sD l))))=ok (decide ((l.length:Int)<2)):=aDy (aB2 l11 (y:= .int 2) rfl rfl);by_cases hl2:(l.length:Int)<2
 ·rw[decide_eq_true hl2] at b2'
  rw[aZp b2'];rfl
 rw[decide_eq_false hl2] at b2';rw[aAe ((aHl b2').trans rfl)];have e4':b2 aA4 (con (.int 1)) (b2 aEa (app fAt (aAa (look 0) (aAa (con (.int 5)) aAg))) (b2 PU.aM2 (f1 aI3 (look 11)) (con (.int 1)))) (R8 ns P m g h a b c (aDi t m a b) o9 o10 (some (.sh (sD l))))=ok (.int (1+atZ ns 5%((l.length:Int)-1))):=aHx (i:=1) rfl (aHd (aQl 5) (aB2 (g:=PU.aM2) l11 (y:= .int 1) rfl rfl) (by omega));obtain⟨j,hj,hj1,hj2⟩: ∃j:Nat,1+atZ ns 5%((l.length:Int)-1)=(j:Int)/\1<=j/\j<l.length:=by
  have h1:=Int.emod_nonneg (atZ ns 5) (show (l.length:Int)-1≠0 by omega);have h2:=Int.emod_lt_of_pos (atZ ns 5) (show 0<(l.length:Int)-1 by omega);exact⟨(1+atZ ns 5%((l.length:Int)-1)).toNat,by omega,by omega,by omega⟩
 rw[hj] at e4';rw[aAe (aA5 e4' rfl)];show aBd (aAn _ _ (R8 ns P m g j a b c (aDi t m a b) o9 o10 (some (.sh (sD l)))))=_;obtain⟨p,q,gp,gq,hs⟩:=bFr l j hj1 hj2;generalize hρ:R8 ns P m g j a b c (aDi t m a b) o9 o10 (some (.sh (sD l)))=ρ;have k4:look 4 ρ=ok (.int (j:Int)):=by rw[<-hρ];rfl
 have k8:look 8 ρ=ok (aDi t m a b):=by rw[<-hρ];rfl
 have k11:look 11 ρ=ok (sD l):=by rw[<-hρ];rfl
 have jm:b2 PU.aM2 (look 4) (con (.int 1)) ρ=ok (.int ((j-1:Nat):Int)):=by
  refine aB2 k4 (y:= .int 1) rfl ?_;show ok (D.int ((j:Int)-1))=_;rw[show (j:Int)-1=((j-1:Nat):Int) by omega]
 have jp:b2 aA4 (look 4) (con (.int 1)) ρ=ok (.int ((j+1:Nat):Int)):=by
  refine aB2 k4 (y:= .int 1) rfl ?_;show ok (D.int ((j:Int)+1))=_;rw[show (j:Int)+1=((j+1:Nat):Int) by omega]
 have cA:aPl (look 11) aGr (aFm (b2 PU.aM2 (look 4) (con (.int 1)))) ρ=ok (.tup ((l.take (j-1)).map pD)):=by
  unfold aPl aFm;rw[k11,jm];show ok (D.tup (cutD (l.map pD) none (some ((j-1:Nat):Int))))=_;rw[bRu _ (by rw[Qh];omega),List.map_take]
 have cB:aPl (look 11) (aFm (b2 aA4 (look 4) (con (.int 1)))) aGr ρ=ok (.tup ((l.drop (j+1)).map pD)):=by
  unfold aPl aFm;rw[k11,jp];show ok (D.tup (cutD (l.map pD) (some ((j+1:Nat):Int)) none))=_;rw[aX8 _ (by rw[Qh];omega),List.map_drop]
 have iq:b2 gIx (look 11) (look 4) ρ=ok (pD q):=aB2 k11 k4 (L2.PU.aXv (by rw[Q7,gq];rfl));have ip:b2 gIx (look 11) (b2 PU.aM2 (look 4) (con (.int 1))) ρ=ok (pD p):=aB2 k11 jm (L2.PU.aXv (by rw[Q7,gp];rfl));have cat: ∀(u v:List D),u.length<=100->v.length<=100->aA4 (.tup u) (.tup v)=ok (.tup (u++v)):=fun u v h1 h2=>if_pos (by omega)
 have hle:=dl.le;obtain⟨l',hl'⟩: ∃l':Sm,l'=l.take (j-1)++q::p::l.drop (j+1):=⟨_,rfl⟩;have ew:b2 aA4 (b2 aA4 (aPl (look 11) aGr (aFm (b2 PU.aM2 (look 4) (con (.int 1))))) (mkT (aAa (b2 gIx (look 11) (look 4)) (aAa (b2 gIx (look 11) (b2 PU.aM2 (look 4) (con (.int 1)))) aAg)))) (aPl (look 11) (aFm (b2 aA4 (look 4) (con (.int 1)))) aGr) ρ=ok (sD l'):=by
  have:sD l'= .tup (((l.take (j-1)).map pD++ [pD q,pD p])++(l.drop (j+1)).map pD):=by
   rw[hl'];show D.tup (Wl pD _)=_;rw[Zd,Z1];rfl
  rw[this];refine aB2 (aB2 cA (aXq (aAf iq (aAf ip aAq))) (cat _ _ (by rw[Qh,Yv];omega) (by simp))) cB (cat _ _ ?_ (by rw[Qh,Ub];omega));rw[Qq,Qh,Yv];simp;omega
 have hmem: ∀x∈l',x∈l:=fun x hx=>by
  rw[hl'] at hx;rw[hs];simp only[List.mem_append,Zt] at hx⊢;rcases hx with h | h | h | h
  ·exact .inl h
  ·exact .inr (.inr (.inl h))
  ·exact .inr (.inl h)
  ·exact .inr (.inr (.inr h))
 have hlen':l'.length<=3:=by
  have:=congrArg Uu hs;rw[hl'];simp only[Qq,Qk] at this⊢;omega
 have bXi:=bJr hlen' fun x hx=>hk3 x (hmem x hx)
 have t2:=told k8 ew bXi;have bW6:aEu p.1 q.1=true:=by
  have hk:=dl.ma.ks;rw[hs] at hk;unfold kys at hk;rw[Zd] at hk;exact Ug (List.pairwise_append.mp hk).2.1 Qm
 have w2:word letters (nine m [a,b] (sD l')) ""="":=by
  rw[bCn (by rw[hl'];simp) fun x hx=>hent x (hmem x hx)];have:kys l'=kys (l.take (j-1))++q.1::p.1::kys (l.drop (j+1)):=by rw[hl'];unfold kys;rw[Zd];rfl
  rw[this,bHa bW6]
  decide+kernel
 rw[w2] at t2;have fin:=aB2 (g:=gEq) t2 (fb:=con (.str "")) (y:= .str "") rfl (r:=ok (.bl true)) (by
  show ok (D.bl (decide (("":Str)="")))=_;rw[decide_eq_true rfl])
 rw[aBa (aBl fin)];rfl
section
variable {P:Qx}{w:Zb}{K:Qc}{mg:Str->Option Qd}{base:Heap}{t:Adr}
theorem aUm (X:Txt K mg t)(k:Nat):Def P w K mg base (k+1) "is_whole" (aFf t):=aVg X aEb
theorem bJ9 (X:Txt K mg t)(k:Nat):Def P w K mg base (k+1) "is_texts" (aLv t):=aVh X aEb
theorem bP0 (X:Txt K mg t)(k:Nat):Def P w K mg base (k+1) "never_falls" (aOr t):=aO7 X aEb
theorem bR1 (X:Txt K mg t)(k:Nat):Def P w K mg base (k+1) "always_rises" (aQf t):=aNp X aEb
theorem bUi (X:Txt K mg t)(k:Nat):Def P w K mg base (k+2) "is_entry" (aX5 t):=aVi X (bJ9 X k) (aUm X k) (bP0 X k) aEb
theorem bTr (X:Txt K mg t)(k:Nat):Def P w K mg base (k+3) "least_of" (fLO t):=aVc X (aZc X (k:=k+1) aEb) (aRc X (aRe X (k:=k) aEb) aEb) (aRb X (k:=k+1) aEb) aEb
theorem bRb (X:Txt K mg t)(k:Nat):Mth P w K mg base (k+1) t.aAr "is_mark" (gT t):=aKc X aEb
theorem bRd (X:Txt K mg t)(k:Nat):Mth P w K mg base (k+2) t.aA2 "is_mark" (gO t):=aL9 X (aUm X k) aEb
theorem bTo (X:Txt K mg t)(k:Nat): ∀C F,mM0 t C=some F->Mth P w K mg base (k+2) C "is_mark" F:=by
 intro C F h;unfold mM0 at h;split at h
 ·rename_i e;subst e;cases h;exact bRb X (k+1)
 ·split at h
  ·rename_i e;subst e;cases h;exact bRd X k
  ·cases h
theorem bTn (X:Txt K mg t)(k:Nat): ∀C F,mM t C=some F->Mth P w K mg base (k+4) C "is_mark" F:=by
 intro C F h;unfold mM at h;split at h
 ·rename_i e;subst e;cases h;exact bRb X (k+3)
 split at h
 ·rename_i e;subst e;cases h;exact aKg X (aUm X (k+2)) aEb
 split at h
 ·rename_i e;subst e;cases h;exact aKe X (aUm X (k+2)) aEb
 split at h
 ·rename_i e;subst e;cases h;exact bRd X (k+2)
 split at h
 ·rename_i e;subst e;cases h;exact aL6 X (bR1 X (k+2)) (bJ9 X (k+2)) aEb
 split at h
 ·rename_i e;subst e;cases h;exact aNr X (aUm X (k+2)) (bP0 X (k+2)) aEb
 split at h
 ·rename_i e;subst e;cases h;exact aNq X (bR1 X (k+2)) (bUi X (k+1)) aEb
 split at h
 ·rename_i e;subst e;cases h;exact aJl X (bJ9 X (k+2)) (bTr X k) aEb
 split at h
 ·rename_i e;subst e;cases h;exact aL7 X (bTo X (k+1)) aEb
 ·cases h
theorem bQd (X:Txt K mg t){fd:FuncData}(Fu:Fun K "law" "law" bF5 t.aV4 fd):FnD P w K mg base 9 t.aV4 fd ["_law_script"] (tt bKq):=
 bM6 X Fu (k:=8) (k':=5) (by decide) (bCi X (k:=7) ⟨bM8,bR0 aSb rfl⟩) (aVf X (k:=7) ⟨bD3,bG4 aLb rfl⟩) (aTe X (k:=7) aEb) (aVe X (k:=7) aEb)
  (aZa X (k:=7) (aZb X (k:=6) aEb) aEb) (aVd X (k:=7) (bTn X 3) aEb) (aRd X (k:=7) aEb)
  (aKh X (k:=4) ⟨(by intro ds r h;unfold iO at h;split at h;rfl;cases h),bQx t⟩) (aJm X (k:=4) ⟨(by intro ds r h;unfold iC at h;split at h;rfl;cases h),bQz t⟩)
  (aL8 X (k:=4) (aUm X 3) ⟨(by intro ds r h;unfold iL at h;split at h;rfl;cases h),bQy t⟩) (aKf X (k:=4) ⟨bQv t,bQw t⟩) (aIw X (k:=4) ⟨(by intro ds r h;unfold iW at h;split at h;rfl;cases h),bQq t⟩)
  (aJk X (k:=4) (aUm X 3) ⟨(by intro ds r h;unfold iR at h;split at h;rfl;cases h),bQu t⟩) (aKd X (k:=4) ⟨(by intro ds r h;unfold iS at h;split at h;rfl;cases h),bQt t⟩) (aL5 X (k:=4) ⟨(by intro ds r h;unfold iU at h;split at h;rfl;cases h),bQr t⟩) (aJj X (k:=4) ⟨(by intro ds r h;unfold iT at h;split at h;rfl;cases h),bQs t⟩)
  (by intro ds r h;obtain⟨ns,rfl,_⟩:=(bIo h).1;rfl) (bMh X)
end
end K07
namespace K07
open PySem PySem.W L2 L2.HD
def bSd:Params->Frag:=fun P=>
 (nat_lit 2,⟨.none,none,.dict #[] 0,#[]⟩)::
 (nat_lit 3,od 41 [de P "__name__" 165 (vs "law_whence_k07_what_is_a_mark" 817),
  de P "__doc__" 166 .none,
  de P "__package__" 167 .none,
  de P "__loader__" 168 (.builtin "__main__.__loader__#opaque"),
  de P "__spec__" 169 .none,
  de P "__annotations__" 170 (.ref 6),
  de P "__builtins__" 171 (.ref 4),
  de P "__file__" 173 (vs "/claim/cut.py" 172),
  de P "__cached__" 174 .none,
  de P "_wall" 193 (.ref 21),
  de P "WhenceError" 213 (.ref 31),
  de P "NoWay" 229 (.ref 44),
  de P "is_whole" 239 (.ref 53),
  de P "is_texts" 245 (.ref 58),
  de P "never_falls" 251 (.ref 63),
  de P "always_rises" 257 (.ref 68),
  de P "Sums" 312 (.ref 104),
  de P "is_entry" 319 (.ref 115),
  de P "Reasons" 374 (.ref 151),
  de P "least_of" 380 (.ref 160),
  de P "numbers_of" 390 (.ref 167),
  de P "bits_of" 400 (.ref 174),
  de P "least_bits" 411 (.ref 181),
  de P "has_within" 422 (.ref 188),
  de P "Truths" 479 (.ref 226),
  de P "Counts" 534 (.ref 268),
  de P "Rounds" 591 (.ref 310),
  de P "Costs" 646 (.ref 352),
  de P "Seers" 702 (.ref 394),
  de P "Lows" 757 (.ref 434),
  de P "Pairs" 816 (.ref 476),
  de P "_law_at" 826 (.ref 487),
  de P "_law_same" 835 (.ref 494),
  de P "_law_mix" 842 (.ref 501),
  de P "_law_name" 851 (.ref 508),
  de P "_law_sum" 868 (.ref 515),
  de P "_law_plain" 876 (.ref 522),
  de P "_law_sets" 885 (.ref 529),
  de P "_law_totals" 894 (.ref 536),
  de P "_law_told" 906 (.ref 543),
  de P "law" 912 (.ref 548)])::
 (nat_lit 20,oc "_wall" 187 "_wall" 188 189 1 1 3 (q5 181 15 16 17 18 19) 191 1 192)::
 (nat_lit 21,of "_wall" "_wall" (top 0) "__main__" 164 20)::
 (nat_lit 30,od 3 [de P "__module__" 203 (vs "whence.errors" 194),
  de P "__firstlineno__" 207 (.int 5 206),
  de P "__static_attributes__" 208 (.ref 29),
  de P "__weakref__" 210 (.ref 32),
  de P "__doc__" 211 .none])::
 (nat_lit 31,⟨(.type "type"),none,.cls ⟨"WhenceError",[(.type "ValueError")],[(.ref 31),(.type "ValueError"),(.type "Exception"),(.type "BaseException"),(.type "object")],30,"WhenceError",true,[],[(.ref 44)],false,none,false⟩,#[some (.ref 22),none,some (vs "WhenceError" 196),some (vs "WhenceError" 204),some (.builtin "ValueError.__new__"),some (.bool true)]⟩)::
 (nat_lit 32,gwd 209 31)::
 (nat_lit 43,od 2 [de P "__module__" 221 (vs "whence.errors" 194),
  de P "__firstlineno__" 225 (.int 7 224),
  de P "__static_attributes__" 226 (.ref 42),
  de P "__doc__" 227 .none])::
 (nat_lit 44,⟨(.type "type"),none,.cls ⟨"NoWay",[(.ref 31)],[(.ref 44),(.ref 31),(.type "ValueError"),(.type "Exception"),(.type "BaseException"),(.type "object")],43,"NoWay",true,[],[],false,none,false⟩,#[some (.ref 35),none,some (vs "NoWay" 214),some (vs "NoWay" 222),some (.builtin "ValueError.__new__"),some (.bool true)]⟩)::
 (nat_lit 52,oc "is_whole" 232 "is_whole" 233 234 10 2 3 (q5 181 47 48 49 50 51) 237 10 238)::
 (nat_lit 53,of "is_whole" "is_whole" (top 5) "whence.plain" 230 52)::
 (nat_lit 57,oc "is_texts" 240 "is_texts" 241 242 12 1 3 (q3 181 54 55 56) 243 12 244)::
 (nat_lit 58,of "is_texts" "is_texts" (top 6) "whence.plain" 230 57)::
 (nat_lit 62,oc "never_falls" 246 "never_falls" 247 248 14 1 3 (q3 181 59 60 61) 249 14 250)::
 (nat_lit 63,of "never_falls" "never_falls" (top 7) "whence.plain" 230 62)::
 (nat_lit 67,oc "always_rises" 252 "always_rises" 253 254 16 1 3 (q3 181 64 65 66) 255 16 256)::
 (nat_lit 68,of "always_rises" "always_rises" (top 8) "whence.plain" 230 67)::
 (nat_lit 81,oc "__init__" 272 "Sums.__init__" 273 274 21 1 3 (q5 181 76 77 78 79 80) 276 21 277)::
 (nat_lit 82,of "__init__" "Sums.__init__" (inClass (top 10) 0) "whence.sums" 258 81)::
 (nat_lit 88,oc "plus" 279 "Sums.plus" 280 281 25 3 3 (q5 181 83 84 85 86 87) 285 25 286)::
 (nat_lit 89,of "plus" "Sums.plus" (inClass (top 10) 1) "whence.sums" 258 88)::
 (nat_lit 95,oc "times" 288 "Sums.times" 289 290 28 3 3 (q5 181 90 91 92 93 94) 294 28 295)::
 (nat_lit 96,of "times" "Sums.times" (inClass (top 10) 2) "whence.sums" 258 95)::
 (nat_lit 100,oc "is_mark" 297 "Sums.is_mark" 298 299 31 2 3 (q3 181 97 98 99) 300 31 301)::
 (nat_lit 101,of "is_mark" "Sums.is_mark" (inClass (top 10) 3) "whence.sums" 258 100)::
 (nat_lit 103,od 4 [de P "__module__" 267 (vs "whence.sums" 258),
  de P "__firstlineno__" 271 (.int 19 270),
  de P "__init__" 278 (.ref 82),
  de P "plus" 287 (.ref 89),
  de P "times" 296 (.ref 96),
  de P "is_mark" 302 (.ref 101),
  de P "__static_attributes__" 305 (.ref 102),
  de P "__dict__" 307 (.ref 105),
  de P "__weakref__" 309 (.ref 106),
  de P "__doc__" 310 .none])::
 (nat_lit 104,okl "Sums" 104 103 260 268)::
 (nat_lit 105,gdd 306 104)::
 (nat_lit 106,gwd 308 104)::
 (nat_lit 114,oc "is_entry" 313 "is_entry" 314 315 35 1 3 (q5 181 109 110 111 112 113) 317 35 318)::
 (nat_lit 115,of "is_entry" "is_entry" (top 11) "whence.sums" 258 114)::
 (nat_lit 128,oc "__init__" 334 "Reasons.__init__" 335 336 42 1 3 (q5 181 123 124 125 126 127) 338 42 339)::
 (nat_lit 129,of "__init__" "Reasons.__init__" (inClass (top 13) 0) "whence.reasons" 320 128)::
 (nat_lit 135,oc "plus" 341 "Reasons.plus" 342 343 46 3 3 (q5 181 130 131 132 133 134) 347 46 348)::
 (nat_lit 136,of "plus" "Reasons.plus" (inClass (top 13) 1) "whence.reasons" 320 135)::
 (nat_lit 142,oc "times" 350 "Reasons.times" 351 352 49 3 3 (q5 181 137 138 139 140 141) 356 49 357)::
 (nat_lit 143,of "times" "Reasons.times" (inClass (top 13) 2) "whence.reasons" 320 142)::
 (nat_lit 147,oc "is_mark" 359 "Reasons.is_mark" 360 361 52 2 3 (q3 181 144 145 146) 362 52 363)::
 (nat_lit 148,of "is_mark" "Reasons.is_mark" (inClass (top 13) 3) "whence.reasons" 320 147)::
 (nat_lit 150,od 4 [de P "__module__" 329 (vs "whence.reasons" 320),
  de P "__firstlineno__" 333 (.int 40 332),
  de P "__init__" 340 (.ref 129),
  de P "plus" 349 (.ref 136),
  de P "times" 358 (.ref 143),
  de P "is_mark" 364 (.ref 148),
  de P "__static_attributes__" 367 (.ref 149),
  de P "__dict__" 369 (.ref 152),
  de P "__weakref__" 371 (.ref 153),
  de P "__doc__" 372 .none])::
 (nat_lit 151,okl "Reasons" 151 150 322 330)::
 (nat_lit 152,gdd 368 151)::
 (nat_lit 153,gwd 370 151)::
 (nat_lit 159,oc "least_of" 375 "least_of" 376 377 56 1 3 (q3 181 156 157 158) 378 56 379)::
 (nat_lit 160,of "least_of" "least_of" (top 14) "whence.reasons" 320 159)::
 (nat_lit 166,oc "numbers_of" 381 "numbers_of" 382 383 62 1 3 (q5 181 161 162 163 164 165) 388 62 389)::
 (nat_lit 167,of "numbers_of" "numbers_of" (top 15) "whence.reasons" 320 166)::
 (nat_lit 173,oc "bits_of" 391 "bits_of" 392 393 68 2 3 (q5 181 168 169 170 171 172) 398 68 399)::
 (nat_lit 174,of "bits_of" "bits_of" (top 16) "whence.reasons" 320 173)::
 (nat_lit 180,oc "least_bits" 401 "least_bits" 402 403 73 1 3 (q5 181 175 176 177 178 179) 409 73 410)::
 (nat_lit 181,of "least_bits" "least_bits" (top 17) "whence.reasons" 320 180)::
 (nat_lit 187,oc "has_within" 412 "has_within" 413 414 82 2 3 (q5 181 182 183 184 185 186) 420 82 421)::
 (nat_lit 188,of "has_within" "has_within" (top 18) "whence.reasons" 320 187)::
 (nat_lit 201,oc "__init__" 437 "Truths.__init__" 438 439 96 1 3 (q5 181 196 197 198 199 200) 441 96 442)::
 (nat_lit 202,of "__init__" "Truths.__init__" (inClass (top 20) 0) "whence.ways" 423 201)::
 (nat_lit 208,oc "plus" 444 "Truths.plus" 445 446 100 3 3 (q5 181 203 204 205 206 207) 450 100 451)::
 (nat_lit 209,of "plus" "Truths.plus" (inClass (top 20) 1) "whence.ways" 423 208)::
 (nat_lit 215,oc "times" 453 "Truths.times" 454 455 103 3 3 (q5 181 210 211 212 213 214) 459 103 460)::
 (nat_lit 216,of "times" "Truths.times" (inClass (top 20) 2) "whence.ways" 423 215)::
 (nat_lit 222,oc "is_mark" 462 "Truths.is_mark" 463 464 106 2 3 (q5 181 217 218 219 220 221) 467 106 468)::
 (nat_lit 223,of "is_mark" "Truths.is_mark" (inClass (top 20) 3) "whence.ways" 423 222)::
 (nat_lit 225,od 4 [de P "__module__" 432 (vs "whence.ways" 423),
  de P "__firstlineno__" 436 (.int 94 435),
  de P "__init__" 443 (.ref 202),
  de P "plus" 452 (.ref 209),
  de P "times" 461 (.ref 216),
  de P "is_mark" 469 (.ref 223),
  de P "__static_attributes__" 472 (.ref 224),
  de P "__dict__" 474 (.ref 227),
  de P "__weakref__" 476 (.ref 228),
  de P "__doc__" 477 .none])::
 (nat_lit 226,okl "Truths" 226 225 425 433)::
 (nat_lit 227,gdd 473 226)::
 (nat_lit 228,gwd 475 226)::
 (nat_lit 243,oc "__init__" 492 "Counts.__init__" 493 494 110 1 3 (q5 181 238 239 240 241 242) 496 110 497)::
 (nat_lit 244,of "__init__" "Counts.__init__" (inClass (top 21) 0) "whence.ways" 423 243)::
 (nat_lit 250,oc "plus" 499 "Counts.plus" 500 501 114 3 3 (q5 181 245 246 247 248 249) 505 114 506)::
 (nat_lit 251,of "plus" "Counts.plus" (inClass (top 21) 1) "whence.ways" 423 250)::
 (nat_lit 257,oc "times" 508 "Counts.times" 509 510 117 3 3 (q5 181 252 253 254 255 256) 514 117 515)::
 (nat_lit 258,of "times" "Counts.times" (inClass (top 21) 2) "whence.ways" 423 257)::
 (nat_lit 264,oc "is_mark" 517 "Counts.is_mark" 518 519 120 2 3 (q5 181 259 260 261 262 263) 522 120 523)::
 (nat_lit 265,of "is_mark" "Counts.is_mark" (inClass (top 21) 3) "whence.ways" 423 264)::
 (nat_lit 267,od 4 [de P "__module__" 487 (vs "whence.ways" 423),
  de P "__firstlineno__" 491 (.int 108 490),
  de P "__init__" 498 (.ref 244),
  de P "plus" 507 (.ref 251),
  de P "times" 516 (.ref 258),
  de P "is_mark" 524 (.ref 265),
  de P "__static_attributes__" 527 (.ref 266),
  de P "__dict__" 529 (.ref 269),
  de P "__weakref__" 531 (.ref 270),
  de P "__doc__" 532 .none])::
 (nat_lit 268,okl "Counts" 268 267 480 488)::
 (nat_lit 269,gdd 528 268)::
 (nat_lit 270,gwd 530 268)::
 (nat_lit 285,oc "__init__" 547 "Rounds.__init__" 548 549 124 2 3 (q5 181 280 281 282 283 284) 552 124 553)::
 (nat_lit 286,of "__init__" "Rounds.__init__" (inClass (top 22) 0) "whence.ways" 423 285)::
 (nat_lit 292,oc "plus" 555 "Rounds.plus" 556 557 131 3 3 (q5 181 287 288 289 290 291) 561 131 562)::
 (nat_lit 293,of "plus" "Rounds.plus" (inClass (top 22) 1) "whence.ways" 423 292)::
 (nat_lit 299,oc "times" 564 "Rounds.times" 565 566 134 3 3 (q5 181 294 295 296 297 298) 570 134 571)::
 (nat_lit 300,of "times" "Rounds.times" (inClass (top 22) 2) "whence.ways" 423 299)::
 (nat_lit 306,oc "is_mark" 573 "Rounds.is_mark" 574 575 137 2 3 (q5 181 301 302 303 304 305) 578 137 579)::
 (nat_lit 307,of "is_mark" "Rounds.is_mark" (inClass (top 22) 3) "whence.ways" 423 306)::
 (nat_lit 309,od 4 [de P "__module__" 542 (vs "whence.ways" 423),
  de P "__firstlineno__" 546 (.int 122 545),
  de P "__init__" 554 (.ref 286),
  de P "plus" 563 (.ref 293),
  de P "times" 572 (.ref 300),
  de P "is_mark" 580 (.ref 307),
  de P "__static_attributes__" 584 (.ref 308),
  de P "__dict__" 586 (.ref 311),
  de P "__weakref__" 588 (.ref 312),
  de P "__doc__" 589 .none])::
 (nat_lit 310,okl "Rounds" 310 309 535 543)::
 (nat_lit 311,gdd 585 310)::
 (nat_lit 312,gwd 587 310)::
 (nat_lit 327,oc "__init__" 604 "Costs.__init__" 605 606 141 1 3 (q5 181 322 323 324 325 326) 608 141 609)::
 (nat_lit 328,of "__init__" "Costs.__init__" (inClass (top 23) 0) "whence.ways" 423 327)::
 (nat_lit 334,oc "plus" 611 "Costs.plus" 612 613 145 3 3 (q5 181 329 330 331 332 333) 617 145 618)::
 (nat_lit 335,of "plus" "Costs.plus" (inClass (top 23) 1) "whence.ways" 423 334)::
 (nat_lit 341,oc "times" 620 "Costs.times" 621 622 148 3 3 (q5 181 336 337 338 339 340) 626 148 627)::
 (nat_lit 342,of "times" "Costs.times" (inClass (top 23) 2) "whence.ways" 423 341)::
 (nat_lit 348,oc "is_mark" 629 "Costs.is_mark" 630 631 151 2 3 (q5 181 343 344 345 346 347) 634 151 635)::
 (nat_lit 349,of "is_mark" "Costs.is_mark" (inClass (top 23) 3) "whence.ways" 423 348)::
 (nat_lit 351,od 4 [de P "__module__" 599 (vs "whence.ways" 423),
  de P "__firstlineno__" 603 (.int 139 602),
  de P "__init__" 610 (.ref 328),
  de P "plus" 619 (.ref 335),
  de P "times" 628 (.ref 342),
  de P "is_mark" 636 (.ref 349),
  de P "__static_attributes__" 639 (.ref 350),
  de P "__dict__" 641 (.ref 353),
  de P "__weakref__" 643 (.ref 354),
  de P "__doc__" 644 .none])::
 (nat_lit 352,okl "Costs" 352 351 592 600)::
 (nat_lit 353,gdd 640 352)::
 (nat_lit 354,gwd 642 352)::
 (nat_lit 369,oc "__init__" 659 "Seers.__init__" 660 661 155 2 3 (q5 181 364 365 366 367 368) 664 155 665)::
 (nat_lit 370,of "__init__" "Seers.__init__" (inClass (top 24) 0) "whence.ways" 423 369)::
 (nat_lit 376,oc "plus" 667 "Seers.plus" 668 669 159 3 3 (q5 181 371 372 373 374 375) 673 159 674)::
 (nat_lit 377,of "plus" "Seers.plus" (inClass (top 24) 1) "whence.ways" 423 376)::
 (nat_lit 383,oc "times" 676 "Seers.times" 677 678 162 3 3 (q5 181 378 379 380 381 382) 682 162 683)::
 (nat_lit 384,of "times" "Seers.times" (inClass (top 24) 2) "whence.ways" 423 383)::
 (nat_lit 390,oc "is_mark" 685 "Seers.is_mark" 686 687 165 2 3 (q5 181 385 386 387 388 389) 690 165 691)::
 (nat_lit 391,of "is_mark" "Seers.is_mark" (inClass (top 24) 3) "whence.ways" 423 390)::
 (nat_lit 393,od 4 [de P "__module__" 654 (vs "whence.ways" 423),
  de P "__firstlineno__" 658 (.int 153 657),
  de P "__init__" 666 (.ref 370),
  de P "plus" 675 (.ref 377),
  de P "times" 684 (.ref 384),
  de P "is_mark" 692 (.ref 391),
  de P "__static_attributes__" 695 (.ref 392),
  de P "__dict__" 697 (.ref 395),
  de P "__weakref__" 699 (.ref 396),
  de P "__doc__" 700 .none])::
 (nat_lit 394,okl "Seers" 394 393 647 655)::
 (nat_lit 395,gdd 696 394)::
 (nat_lit 396,gwd 698 394)::
 (nat_lit 411,oc "__init__" 715 "Lows.__init__" 716 717 169 2 3 (q5 181 406 407 408 409 410) 720 169 721)::
 (nat_lit 412,of "__init__" "Lows.__init__" (inClass (top 25) 0) "whence.ways" 423 411)::
 (nat_lit 418,oc "plus" 723 "Lows.plus" 724 725 176 3 3 (q5 181 413 414 415 416 417) 729 176 730)::
 (nat_lit 419,of "plus" "Lows.plus" (inClass (top 25) 1) "whence.ways" 423 418)::
 (nat_lit 425,oc "times" 732 "Lows.times" 733 734 179 3 3 (q5 181 420 421 422 423 424) 738 179 739)::
 (nat_lit 426,of "times" "Lows.times" (inClass (top 25) 2) "whence.ways" 423 425)::
 (nat_lit 430,oc "is_mark" 741 "Lows.is_mark" 742 743 182 2 3 (q3 181 427 428 429) 744 182 745)::
 (nat_lit 431,of "is_mark" "Lows.is_mark" (inClass (top 25) 3) "whence.ways" 423 430)::
 (nat_lit 433,od 4 [de P "__module__" 710 (vs "whence.ways" 423),
  de P "__firstlineno__" 714 (.int 167 713),
  de P "__init__" 722 (.ref 412),
  de P "plus" 731 (.ref 419),
  de P "times" 740 (.ref 426),
  de P "is_mark" 746 (.ref 431),
  de P "__static_attributes__" 750 (.ref 432),
  de P "__dict__" 752 (.ref 435),
  de P "__weakref__" 754 (.ref 436),
  de P "__doc__" 755 .none])::
 (nat_lit 434,okl "Lows" 434 433 703 711)::
 (nat_lit 435,gdd 751 434)::
 (nat_lit 436,gwd 753 434)::
 (nat_lit 451,oc "__init__" 770 "Pairs.__init__" 771 772 188 3 3 (q5 181 446 447 448 449 450) 776 188 777)::
 (nat_lit 452,of "__init__" "Pairs.__init__" (inClass (top 26) 0) "whence.ways" 423 451)::
 (nat_lit 458,oc "plus" 779 "Pairs.plus" 780 781 194 3 3 (q5 181 453 454 455 456 457) 785 194 786)::
 (nat_lit 459,of "plus" "Pairs.plus" (inClass (top 26) 1) "whence.ways" 423 458)::
 (nat_lit 465,oc "times" 788 "Pairs.times" 789 790 197 3 3 (q5 181 460 461 462 463 464) 794 197 795)::
 (nat_lit 466,of "times" "Pairs.times" (inClass (top 26) 2) "whence.ways" 423 465)::
 (nat_lit 472,oc "is_mark" 797 "Pairs.is_mark" 798 799 200 2 3 (q5 181 467 468 469 470 471) 802 200 803)::
 (nat_lit 473,of "is_mark" "Pairs.is_mark" (inClass (top 26) 3) "whence.ways" 423 472)::
 (nat_lit 475,od 4 [de P "__module__" 765 (vs "whence.ways" 423),
  de P "__firstlineno__" 769 (.int 186 768),
  de P "__init__" 778 (.ref 452),
  de P "plus" 787 (.ref 459),
  de P "times" 796 (.ref 466),
  de P "is_mark" 804 (.ref 473),
  de P "__static_attributes__" 809 (.ref 474),
  de P "__dict__" 811 (.ref 477),
  de P "__weakref__" 813 (.ref 478),
  de P "__doc__" 814 .none])::
 (nat_lit 476,okl "Pairs" 476 475 758 766)::
 (nat_lit 477,gdd 810 476)::
 (nat_lit 478,gwd 812 476)::
 (nat_lit 486,oc "_law_at" 819 "_law_at" 820 821 205 2 3 (q5 181 481 482 483 484 485) 824 205 825)::
 (nat_lit 487,of "_law_at" "_law_at" (top 28) "law_whence_k07_what_is_a_mark" 817 486)::
 (nat_lit 500,oc "_law_mix" 836 "_law_mix" 837 838 224 1 3 (q5 181 495 496 497 498 499) 840 224 841)::
 (nat_lit 501,of "_law_mix" "_law_mix" (top 30) "law_whence_k07_what_is_a_mark" 817 500)::
 (nat_lit 507,oc "_law_name" 843 "_law_name" 844 845 226 2 3 (q5 181 502 503 504 505 506) 849 226 850)::
 (nat_lit 508,of "_law_name" "_law_name" (top 31) "law_whence_k07_what_is_a_mark" 817 507)::
 (nat_lit 514,oc "_law_sum" 852 "_law_sum" 853 854 231 2 3 (q5 181 509 510 511 512 513) 866 231 867)::
 (nat_lit 515,of "_law_sum" "_law_sum" (top 32) "law_whence_k07_what_is_a_mark" 817 514)::
 (nat_lit 521,oc "_law_plain" 869 "_law_plain" 870 871 250 2 3 (q5 181 516 517 518 519 520) 874 250 875)::
 (nat_lit 522,of "_law_plain" "_law_plain" (top 33) "law_whence_k07_what_is_a_mark" 817 521)::
 (nat_lit 528,oc "_law_sets" 877 "_law_sets" 878 879 252 3 3 (q5 181 523 524 525 526 527) 883 252 884)::
 (nat_lit 529,of "_law_sets" "_law_sets" (top 34) "law_whence_k07_what_is_a_mark" 817 528)::
 (nat_lit 535,oc "_law_totals" 886 "_law_totals" 887 888 254 3 3 (q5 181 530 531 532 533 534) 892 254 893)::
 (nat_lit 536,of "_law_totals" "_law_totals" (top 35) "law_whence_k07_what_is_a_mark" 817 535)::
 (nat_lit 542,oc "_law_told" 895 "_law_told" 896 897 256 2 3 (q5 181 537 538 539 540 541) 904 256 905)::
 (nat_lit 543,of "_law_told" "_law_told" (top 36) "law_whence_k07_what_is_a_mark" 817 542)::
 (nat_lit 547,oc "law" 907 "law" 908 909 265 1 3 (q3 181 544 545 546) 910 265 911)::
 (nat_lit 548,of "law" "law" (top 37) "law_whence_k07_what_is_a_mark" 817 547)::[]
def fas:List Addr:=[2,3,20,21,30,31,32,43,44,52,53,57,58,62,63,67,68,81,82,88,89,95,96,100,101,103,104,105,106,114,115,128,129,135,136,142,143,147,148,150,151,152,153,159,160,166,167,173,174,180,181,187,188,201,202,208,209,215,216,222,223,225,226,227,228,243,244,250,251,257,258,264,265,267,268,269,270,285,286,292,293,299,300,306,307,309,310,311,312,327,328,334,335,341,342,348,349,351,352,353,354,369,370,376,377,383,384,390,391,393,394,395,396,411,412,418,419,425,426,430,431,433,434,435,436,451,452,458,459,465,466,472,473,475,476,477,478,486,487,500,501,507,508,514,515,521,522,528,529,535,536,542,543,547,548]
theorem bRi: ∀P,fas=(bSd P).map (·.1):=fun P=>by kernel_rfl
def vw:Qx:=view PySem.Challenge.pw_whence_k07_what_is_a_mark [0,2,3,5,6,7,8,10,11,13,14,15,16,17,18,20,21,22,23,24,25,26,28,29,30,31,32,33,34,35,36,37]
abbrev hook:Hook:=kHook bSd fas bRi
set_option maxHeartbeats 0 in
theorem left:LeftO PySem.Challenge.pw_whence_k07_what_is_a_mark vw [] (fun s=>xlAt vw [] s&&recOk (RowW.records PySem.Challenge.rw_whence_k07_what_is_a_mark.row.toRowW) s) (Hook.obs hook) (Hook.val hook) 8054:=by
 refine bMg (boot_open (by kernel_rfl) (by decide+kernel) (fun s=>by kernel_rfl)) fun w=> ?_
 rw[Fast.te5923862056798008813,Fast.te4187177175401517315,Fast.te6613529449190102663,Fast.te10156331382660048174,Fast.te11892475500146522536,Fast.te14364793385576792824]
 kernel_rfl
def adr:Adr:={aBv:=104,aAu:=151,aAr:=226,aA3:=268,aAw:=310,aA2:=352,aA7:=394,aBp:=434,aA8:=476,aK4:=53,aK5:=58,aGw:=63,aFq:=68,aE2:=82,aFr:=101,aK6:=115,aC8:=129,aDp:=148,aK1:=160,aHr:=167,aOq:=174,aHs:=181,aHt:=188,aDn:=202,aEf:=223,aDq:=244,aEj:=265,aDo:=286,aEh:=307,aEk:=328,aE6:=349,aEg:=370,aE3:=391,aE5:=412,aFs:=431,aEi:=452,aE4:=473,aRw:=487,aOp:=501,aK3:=508,aOo:=515,aE1:=522,aF9:=529,aD8:=536,aK2:=543,aV4:=548}
set_option maxHeartbeats 0 in
theorem txt {P:Params}{h:Heap}{mg:Str->Option Qd}(X:(bSd P).In h)(G:h.Ns Js mg):Txt (bSd P) mg adr:=by
 refine⟨?_,?_,?_,?_,?_,?_,?_,?_,?_,?_,?_,?_,?_,?_,?_,?_,?_,?_,?_,?_,?_,?_,?_,?_,?_,?_,?_,?_,?_,?_,?_,?_,?_,?_,?_,?_,?_,?_,?_,?_,?_,fo2 "whence.plain" 230 52,?_,fo1 "whence.plain" 230 57,?_,fo1 "whence.plain" 230 62,?_,fo1 "whence.plain" 230 67,?_,fo1 "whence.sums" 258 81,fo2 "whence.sums" 258 100,fo1 "whence.sums" 258 114,?_,fo1 "whence.reasons" 320 128,fo2 "whence.reasons" 320 147,fo1 "whence.reasons" 320 159,?_,fo1 "whence.reasons" 320 166,?_,fo2 "whence.reasons" 320 173,?_,fo1 "whence.reasons" 320 180,?_,fo2 "whence.reasons" 320 187,?_,fo1 "whence.ways" 423 201,fo2 "whence.ways" 423 222,fo1 "whence.ways" 423 243,fo2 "whence.ways" 423 264,fo2 "whence.ways" 423 285,fo2 "whence.ways" 423 306,fo1 "whence.ways" 423 327,fo2 "whence.ways" 423 348,fo2 "whence.ways" 423 369,fo2 "whence.ways" 423 390,fo2 "whence.ways" 423 411,fo2 "whence.ways" 423 430,fo3 "whence.ways" 423 451,fo2 "whence.ways" 423 472,fo2 "law_whence_k07_what_is_a_mark" 817 486,?_,fo1 "law_whence_k07_what_is_a_mark" 817 500,?_,fo2 "law_whence_k07_what_is_a_mark" 817 507,?_,fo2 "law_whence_k07_what_is_a_mark" 817 514,?_,fo2 "law_whence_k07_what_is_a_mark" 817 521,?_,fo3 "law_whence_k07_what_is_a_mark" 817 528,?_,fo3 "law_whence_k07_what_is_a_mark" 817 535,?_,fo2 "law_whence_k07_what_is_a_mark" 817 542,?_,fo1 "law_whence_k07_what_is_a_mark" 817 547,?_,?_,?_,?_,?_,?_,?_,?_,?_,?_,?_,?_,?_,?_,?_,?_,?_,?_,?_,?_,?_,?_,?_,?_,?_,?_,?_,?_,?_,?_,?_,?_,?_,?_,?_,?_,?_,?_,?_,?_,?_,?_,?_,?_,?_,?_,?_,?_,?_⟩
 all_goals first | exact mg_of X G (by kernel_rfl) | exact mg_none_of X G (by kernel_rfl) | decide |(refine⟨?_,?_,?_,?_⟩<;>kernel_rfl) |(refine⟨?_,?_,?_⟩<;>kernel_rfl) | kernel_rfl |(intro C hC;simp only[cs,Yu,decide_eq_true_eq] at hC;rcases hC with (((((((rfl | rfl) | rfl) | rfl) | rfl) | rfl) | rfl) | rfl) | rfl<;>exact⟨⟨by kernel_rfl,by kernel_rfl,by kernel_rfl,by kernel_rfl⟩,by unfold aE8;kernel_rfl⟩)
end K07
namespace K07
open PySem PySem.Spec PyProof.Rows L2 L2.PU
def bSt (K:Qc):Sp:=fun vs H Q _=> ∃(a:Addr) (ns:List Int),vs=[.ref a]/\SqL K H a (ns.map V.int)/\ns.length<=63/\∀H',Q (.bl true) H'
theorem walk {l:E0}{q:Qx}{loose:List Str}{XP:(Str->Option Qd)->Heap->Prop}{YP:Zb->Heap->Prop}{d:DefRec}{K:Params->Qc}(hn:l.most=some 63)(hdf:d.params.defaults=[])(hnm:d.name="law")
  (hY: ∀(w:Zb) (h:Heap),YP w h->(K w.params).In h)
  (T: ∀(w:Zb) (mg:Str->Option Qd) (h:Heap),(K w.params).In h->h.Ns Js mg->∃t,Txt (K w.params) mg t):
  PySem.W.WalkO q loose XP YP l.row.toRowW d [] (fun f vs=>Vn f vs):=by
 refine L2.bJ5 (n:=63) (k:=9) (x:="_law_script") (CX:=fun w=>CXD l.prog w) (sp:=fun w=>bSt (K w.params)) hn (by decide) hdf ⟨rfl,by decide,by decide⟩ hY (fun w mg fa h KX G hmg=> ?_) (fun _ _ a ns hl _ hS=>⟨a,ns,rfl,hS,hl,fun _=>rfl⟩) (fun w H s e s' ⟨_,_,_,_,_,_,_,_,z⟩=>z);obtain⟨t,T⟩:=T w mg h KX G;have e:=hmg.symm.trans ((congrArg mg hnm).trans T.bT7);cases e;obtain⟨fd,Fu,bi⟩:=T.bUv;refine⟨fd,fun s v=> ?_,fun base _ _=> ?_⟩
 ·obtain⟨oc,od,kV,doc,pm,an,cdv,ct,osl,rfl,lk,hcd⟩:=Fu.ex
  exact .of_eq rfl
 ·refine (bQd (P:=l.prog) (w:=w) (base:=base) T Fu).imp fun vs H Q E ⟨a,ns,e1,hS,hl,q⟩=> ?_
  subst e1;refine⟨[.lst (ns.map D.int)],.cons (.lst hS (aX0 ns)) .nil,rfl,?_⟩;rw[bSi (show bKq _ from⟨ns,rfl,hl⟩)];intro v H' s' i';cases i';exact q H'
end K07
open PySem PySem.W PyProof.Rows
set_option maxRecDepth 100000 in
set_option maxHeartbeats 0 in
theorem PySem.Challenge.cw_whence_k07_what_is_a_mark_holds : PySem.Challenge.rw_whence_k07_what_is_a_mark.Holds := by
 w_on;o_law
 refine L2.HD.holds_of (l:=PySem.Challenge.rw_whence_k07_what_is_a_mark) (q:=K07.vw) K07.left (by first | assumption | decide+kernel) (by rfl) (by rfl) (by rfl) (by rfl) (by decide+kernel) ⟨rfl,rfl,rfl,rfl,rfl,by decide+kernel⟩ ?hw ?hc
 (case hw=>w_witness2)
 exact K07.walk (l:=PySem.Challenge.rw_whence_k07_what_is_a_mark) rfl rfl rfl (fun w h Y=>PySem.W.kIn_of Y) fun w mg h KX G=>⟨_,K07.txt KX G⟩
