import PyProof.Rows.All
import Wide.All
import OpenK.AllK
import Wide.FinOn
import Lean
import PyProof.EqAt
import PyProof.EqKinds
import PyProof.TupleCall
import PySem.Challenge.RW_whence_k05_lows
set_option Elab.async false
set_option linter.all false
set_option bootstrap.genMatcherCode false
set_option maxRecDepth 100000
namespace L2
open PySem PySem.Spec PyProof.Rows
noncomputable abbrev Key := Sum Int Str
noncomputable def keyIs : Key → Value → Bool
  | .inl k, v => Value.isInt k v
  | .inr x, v => Value.isStrOf x v
noncomputable def keyH (w : World) : Key → Int
  | .inl k => hashInt k
  | .inr x => hashStr w x
theorem keyIs_shape : ∀ {k : Key} {v : Value}, keyIs k v = true → (∃ i t, k = Sum.inl i ∧ v = Value.int i t) ∨ (∃ x t, k = Sum.inr x ∧ v = Value.str x t)
  | .inl i, v, h => by
    obtain ⟨t, e⟩ := Value.isInt_shape (k := i) (v := v) h
    exact .inl ⟨i, t, rfl, e⟩
  | .inr x, v, h => by
    obtain ⟨t, e⟩ := Value.isStrOf_shape (x := x) (v := v) h
    exact .inr ⟨x, t, rfl, e⟩
theorem key_ll (a b : Int) : decide ((Sum.inl a : Key) = Sum.inl b) = (a == b) := by
  by_cases e : a = b
  · subst e; simp
  · have h : ¬ (Sum.inl a : Key) = Sum.inl b := fun q => e (Sum.inl.inj q)
    rw [decide_eq_false h]
    exact (beq_eq_false_iff_ne.mpr e).symm
theorem key_rr (a b : Str) : decide ((Sum.inr a : Key) = Sum.inr b) = decide (a = b) := by
  by_cases e : a = b
  · subst e; simp
  · have h : ¬ (Sum.inr a : Key) = Sum.inr b := fun q => e (Sum.inr.inj q)
    rw [decide_eq_false h, decide_eq_false e]
theorem key_lr (a : Int) (b : Str) : decide ((Sum.inl a : Key) = Sum.inr b) = false := decide_eq_false (fun q => nomatch q)
theorem key_rl (a : Str) (b : Int) : decide ((Sum.inr a : Key) = Sum.inl b) = false := decide_eq_false (fun q => nomatch q)
noncomputable def mixKind (prog : Program) (w : World) : PySem.KeyKind prog w Key where
  is := keyIs
  hash := keyH w
  inj := fun v a b ha hb => by
    rcases keyIs_shape ha with ⟨i, t, rfl, rfl⟩ | ⟨x, t, rfl, rfl⟩
    · rcases keyIs_shape hb with ⟨j, u, rfl, e⟩ | ⟨y, u, rfl, e⟩
      · injection e with e1 _; rw [e1]
      · exact nomatch e
    · rcases keyIs_shape hb with ⟨j, u, rfl, e⟩ | ⟨y, u, rfl, e⟩
      · exact nomatch e
      · injection e with e1 _; rw [e1]
  byValue := fun k v h => by
    rcases keyIs_shape h with ⟨i, t, rfl, rfl⟩ | ⟨x, t, rfl, rfl⟩ <;> rfl
  pyHash := fun hv h => by
    rcases keyIs_shape hv with ⟨i, t, rfl, rfl⟩ | ⟨x, t, rfl, rfl⟩
    · exact wpAny_pyHash_int h
    · exact wpAny_pyHash_str h
  eqBool := fun hu hv h => by
    rcases keyIs_shape hu with ⟨i, t, rfl, rfl⟩ | ⟨x, t, rfl, rfl⟩
    · rcases keyIs_shape hv with ⟨j, u, rfl, rfl⟩ | ⟨y, u, rfl, rfl⟩
      · rw [key_ll] at h; exact wpAny_eqBool_int h
      · rw [key_lr] at h; exact SeqAt.EqAt.int_str i t y u _ _ _ _ h
    · rcases keyIs_shape hv with ⟨j, u, rfl, rfl⟩ | ⟨y, u, rfl, rfl⟩
      · rw [key_rl] at h; exact SeqAt.EqAt.str_int x t j u _ _ _ _ h
      · rw [key_rr] at h; exact wpAny_eqBool_str h
  «strs» := fun k x t v h => by
    rcases keyIs_shape h with ⟨i, u, rfl, e⟩ | ⟨y, u, rfl, e⟩
    · exact nomatch e
    · injection e with e1 _
      subst e1
      cases v <;> rfl
end L2
namespace L2
open PySem PySem.Spec PyProof.Rows
inductive V where
  | non | bl (b : Bool) | int (i : Int) | str (x : Str) | byt (b : Array UInt8) | flt (b : UInt64) | ref (a : Addr) | ty (n : String)
  deriving DecidableEq
noncomputable def RelV : V → Value → Prop
  | .non, u => u = Value.none
  | .bl b, u => u = Value.bool b
  | .int i, u => ∃ t, u = Value.int i t
  | .str x, u => ∃ t, u = Value.str x t
  | .byt b, u => ∃ t, u = Value.bytes b t
  | .flt b, u => ∃ t, u = Value.float b t
  | .ref a, u => u = Value.ref a
  | .ty n, u => u = Value.type n
noncomputable abbrev Vals : List V → List Value → Prop := Paired RelV
theorem Vals.length {xs : List V} {us : List Value} (r : Vals xs us) : xs.length = us.length := Paired.length r
theorem Vals.get : ∀ {xs : List V} {us : List Value} {i : Nat} {x : V}, Vals xs us → xs[i]? = some x → ∃ u, us[i]? = some u ∧ RelV x u
  | _, _, _, _, .nil, e => by simp at e
  | _, _, 0, _, .cons r _, e => by simp at e; subst e; exact ⟨_, rfl, r⟩
  | _, _, i + 1, x, .cons _ t, e => by
    obtain ⟨u, h1, h2⟩ := Vals.get (i := i) (x := x) t (by simpa using e)
    exact ⟨u, by simpa using h1, h2⟩
theorem Vals.set {x : V} {u : Value} (r : RelV x u) : ∀ {xs : List V} {us : List Value} (i : Nat), Vals xs us → Vals (xs.set i x) (us.set i u)
  | _, _, _, .nil => .nil
  | _, _, 0, .cons _ t => .cons r t
  | _, _, i + 1, .cons q t => .cons q (Vals.set r i t)
theorem Vals.append : ∀ {xs ys : List V} {us ws : List Value}, Vals xs us → Vals ys ws → Vals (xs ++ ys) (us ++ ws)
  | _, _, _, _, .nil, s => s
  | _, _, _, _, .cons r t, s => .cons r (Vals.append t s)
theorem Vals.take : ∀ {xs : List V} {us : List Value} (n : Nat), Vals xs us → Vals (xs.take n) (us.take n)
  | _, _, 0, _ => .nil
  | _, _, _ + 1, .nil => .nil
  | _, _, n + 1, .cons r t => .cons r (Vals.take n t)
theorem Vals.drop : ∀ {xs : List V} {us : List Value} (n : Nat), Vals xs us → Vals (xs.drop n) (us.drop n)
  | _, _, 0, r => r
  | _, _, _ + 1, .nil => .nil
  | _, _, n + 1, .cons _ t => Vals.drop n t
theorem Vals.none_of : ∀ {xs : List V} {us : List Value} {i : Nat}, Vals xs us → xs[i]? = none → us[i]? = none := fun {xs us i} r e => by
  have h1 := r.length
  have h2 : xs.length ≤ i := List.getElem?_eq_none_iff.mp e
  exact List.getElem?_eq_none_iff.mpr (by omega)
noncomputable def RelO : Option V → Option Value → Prop
  | some v, some u => RelV v u
  | none, none => True
  | _, _ => False
noncomputable def KV {κ : Type} : List (κ × V) → List (κ × Value) → Prop := Paired fun (p : κ × V) (q : κ × Value) => p.1 = q.1 ∧ RelV p.2 q.2
noncomputable def kV : Key → V
  | .inl i => .int i
  | .inr x => .str x
inductive HO where
  | lst (xs : List V)
  | tup (xs : List V)
  | dK (kvs : List (Key × V)) | dT (kvs : List (List Key × V))
  | set (S : Str → Bool) (n : Nat)
  | ins (C dx : Addr) (fs : List (Str × V))
  | own (x : Addr)
  | xd (fs : List (Str × V))
  | met (f x : Addr)
  | rng (lo hi : Int)
  | frz (o : Obj) (u : HO)
  | tbl (ps : Array Value)
  | ext (φ : Heap → Prop)
noncomputable abbrev Hp := Addr → Option HO
noncomputable def upd (H : Hp) (a : Addr) (o : HO) : Hp := fun b => if b = a then some o else H b
theorem upd_same {H : Hp} {a : Addr} {o : HO} : upd H a o a = some o := by unfold upd; rw [if_pos rfl]
theorem upd_ne {H : Hp} {a b : Addr} {o : HO} (h : b ≠ a) : upd H a o b = H b := by unfold upd; rw [if_neg h]
theorem ne_of_none {H : Hp} {a b : Addr} {o : HO} (h : H a = some o) (h' : H b = none) : a ≠ b := by
  intro e; subst e; rw [h] at h'; cases h'
noncomputable def TxtO (w : World) (o : Obj) : Prop := ∃ es ep t, o.data = .set es ep t ∧ (w.params.followText "set-order" = true ∨ t.led = true) ∧ (es.size = 0 ∨ t.plain = false)
noncomputable def Txts (w : World) (h : Heap) (a : Addr) : Prop := ∃ o, h.get? a = some o ∧ TxtO w o
noncomputable def TupD (h : Heap) (a : Addr) (its : Array Value) : Prop := ∃ o, h.get? a = some o ∧ o.cls = .type "tuple" ∧ (∃ n, o.data = .seq its n) ∧ o.dict = none
theorem TupD.tup {h : Heap} {a : Addr} {its : Array Value} (x : TupD h a its) : IsTup h a its := let ⟨o, e, c, d, _⟩ := x; ⟨o, e, c, d⟩
theorem TupD.lt {h : Heap} {a : Addr} {its : Array Value} (x : TupD h a its) : a < h.objs.size := let ⟨_, e, _⟩ := x; Heap.lt_size e
theorem TupD.new (h : Heap) (its : Array Value) : TupD (h.push { cls := .type "tuple", data := .seq its }) h.objs.size its := ⟨_, Heap.get?_push_size _ rfl, rfl, ⟨_, rfl⟩, rfl⟩
section
variable (P : Program) (w : World)
noncomputable def ObjOk (H : Hp) (h : Heap) (a : Addr) : HO → Prop
  | .lst xs => xs.length ≤ sizeLine ∧ ∃ (its : List Value) (n : Nat), Vals xs its ∧ h.get? a = some { cls := .type "list", data := .seq its.toArray n }
  | .tup xs => xs.length ≤ sizeLine ∧ ∃ its : List Value, Vals xs its ∧ TupD h a its.toArray
  | .dK kvs => kvs.length ≤ sizeLine ∧ (a == sysModules) = false ∧ ∃ vs, KV kvs vs ∧ h.DictOf (mixKind P w) a vs
  | .dT kvs => kvs.length ≤ sizeLine ∧ (a == sysModules) = false ∧ ∃ xs : List (List Key × Addr × Value),
      Paired (fun (p : List Key × V) (q : List Key × Addr × Value) => p.1 = q.1 ∧ H q.2.1 = some (.tup (p.1.map kV)) ∧ RelV p.2 q.2.2) kvs xs ∧
      ∃ o es ep, h.get? a = some o ∧ o.ExactDict ∧ o.data = .dict es ep ∧ es.toList = xs.map (entryOfKey (tupleKind (mixKind P w))) ∧ (xs.map (·.1)).Nodup
  | .set S n => h.SetOf (PySem.strKind P w) a S n ∧ Txts w h a
  | .ins C dx fs => H dx = some (.own a) ∧ fs.length ≤ 1000 ∧ dx ≠ a ∧ h.get? a = some (PySem.W.instObj C dx) ∧
      ∃ mA, h.Ns1 dx mA ∧ (∀ f, RelO (fs.lookup f) (mA f)) ∧ PySem.Within mA (fs.map (·.1))
  | .own _ => ∃ o, h.get? a = some o
  | .xd fs => ∃ mA, h.Ns1 a mA ∧ ∀ f, RelO (fs.lookup f) (mA f)
  | .rng lo hi => ∃ t u v, h.get? a = some { cls := .type "range", data := .fields #[.int lo t, .int hi u, .int 1 v] }
  | .frz o u => h.get? a = some o ∧ ObjOk H h a u
  | .tbl ps => h.get? a = some { cls := .none, data := .fields ps }
  | .met f x => h.get? a = some (PySem.W.methodObj (.ref f) (.ref x))
  | .ext φ => φ h ∧ (∃ o, h.get? a = some o) ∧ ∀ h1 h2 : Heap, φ h1 → (∀ o, h1.get? a = some o → h2.get? a = some o) → φ h2
noncomputable def HOk (H : Hp) (h : Heap) : Prop := ∀ a o, H a = some o → ObjOk P w H h a o
end
section
variable {P : Program} {w : World} {H H' : Hp} {h h' : Heap} {a : Addr} {o : HO}
theorem ObjOk.lt (x : ObjOk P w H h a o) : a < h.objs.size := by
  cases o with
  | lst xs => obtain ⟨_, _, _, _, e⟩ := x; exact Heap.lt_size e
  | tup xs => obtain ⟨_, _, _, p⟩ := x; exact p.lt
  | dK kvs => obtain ⟨_, _, _, _, o, _, _, e, _⟩ := x; exact Heap.lt_size e
  | dT kvs => obtain ⟨_, _, _, _, o, _, _, e, _⟩ := x; exact Heap.lt_size e
  | set S n => obtain ⟨⟨o, _, _, _, e, _⟩, _⟩ := x; exact Heap.lt_size e
  | ins C dx fs => obtain ⟨_, _, _, e, _⟩ := x; exact Heap.lt_size e
  | own y => obtain ⟨_, e⟩ := x; exact Heap.lt_size e
  | xd fs => obtain ⟨_, ⟨_, _, _, e, _⟩, _⟩ := x; exact Heap.lt_size e
  | rng lo hi => obtain ⟨_, _, _, e⟩ := x; exact Heap.lt_size e
  | frz ob u => obtain ⟨e, _⟩ := x; exact Heap.lt_size e
  | tbl ps => exact Heap.lt_size (show h.get? a = some _ from x)
  | met f y => exact Heap.lt_size (show h.get? a = some _ from x)
  | ext φ => obtain ⟨_, ⟨_, e⟩, _⟩ := x; exact Heap.lt_size e
theorem Paired.mapP {α β : Type} {F G : α → β → Prop} : ∀ {l₁ : List α} {l₂ : List β}, Paired F l₁ l₂ → (∀ a b, F a b → G a b) → Paired G l₁ l₂
  | _, _, .nil, _ => .nil
  | _, _, .cons r t, f => .cons (f _ _ r) (Paired.mapP t f)
theorem ObjOk.stay (x : ObjOk P w H h a o) (k : ∀ b u, (b = a ∨ H b = some (.own a)) → h.get? b = some u → h'.get? b = some u)
    (ho : ∀ b, H b = some (.own a) → H' b = some (.own a)) (ht : ∀ b xs, H b = some (.tup xs) → H' b = some (.tup xs)) : ObjOk P w H' h' a o := by
  induction o with
  | lst xs => obtain ⟨z, its, n, r, e⟩ := x; exact ⟨z, its, n, r, k _ _ (.inl rfl) e⟩
  | tup xs => obtain ⟨z, its, r, ob, e, c⟩ := x; exact ⟨z, its, r, ob, k _ _ (.inl rfl) e, c⟩
  | dK kvs => obtain ⟨z, y, vs, r, ob, es, ep, e, c⟩ := x; exact ⟨z, y, vs, r, ob, es, ep, k _ _ (.inl rfl) e, c⟩
  | dT kvs =>
    obtain ⟨z, y, xs, r, ob, es, ep, e, c⟩ := x
    exact ⟨z, y, xs, Paired.mapP r fun p q z => ⟨z.1, ht _ _ z.2.1, z.2.2⟩, ob, es, ep, k _ _ (.inl rfl) e, c⟩
  | set S n => obtain ⟨⟨ob, es, ep, t, e, c⟩, o', e', c'⟩ := x; exact ⟨⟨ob, es, ep, t, k _ _ (.inl rfl) e, c⟩, o', k _ _ (.inl rfl) e', c'⟩
  | ins C dx fs =>
    obtain ⟨d, z, ne, e, mA, ⟨od, es, ep, e2, c⟩, r⟩ := x
    exact ⟨ho _ d, z, ne, k _ _ (.inl rfl) e, mA, ⟨od, es, ep, k _ _ (.inr d) e2, c⟩, r⟩
  | own y => obtain ⟨ob, e⟩ := x; exact ⟨ob, k _ _ (.inl rfl) e⟩
  | xd fs => obtain ⟨mA, ⟨od, es, ep, e, c⟩, r⟩ := x; exact ⟨mA, ⟨od, es, ep, k _ _ (.inl rfl) e, c⟩, r⟩
  | rng lo hi => obtain ⟨t, u, v, e⟩ := x; exact ⟨t, u, v, k _ _ (.inl rfl) e⟩
  | frz ob u ih => obtain ⟨e, q⟩ := x; exact ⟨k _ _ (.inl rfl) e, ih q⟩
  | tbl ps =>
    have e : h.get? a = some { cls := .none, data := .fields ps } := x
    show h'.get? a = some { cls := .none, data := .fields ps }
    exact k a _ (.inl rfl) e
  | met f y =>
    have e : h.get? a = some (PySem.W.methodObj (.ref f) (.ref y)) := x
    show h'.get? a = some (PySem.W.methodObj (.ref f) (.ref y))
    exact k a _ (.inl rfl) e
  | ext φ => obtain ⟨p, ⟨o, e⟩, st⟩ := x; exact ⟨st _ _ p fun o q => k _ _ (.inl rfl) q, ⟨o, k _ _ (.inl rfl) e⟩, st⟩
theorem HOk.lt (x : HOk P w H h) (e : H a = some o) : a < h.objs.size := (x a o e).lt
theorem HOk.fresh (x : HOk P w H h) (e : h.objs.size ≤ a) : H a = none := by
  cases q : H a with
  | none => rfl
  | some u => exact absurd (Nat.lt_of_lt_of_le (x.lt q) e) (Nat.lt_irrefl _)
theorem HOk.kept (x : HOk P w H h) (k : ∀ b u, h.get? b = some u → h'.get? b = some u) : HOk P w H h' := fun a o e =>
  (x a o e).stay (fun b u _ q => k b u q) (fun _ q => q) fun _ _ q => q
theorem HOk.laid (x : HOk P w H h) (k : ∀ b u, h.get? b = some u → h'.get? b = some u) (hp : h.objs.size ≤ a) (new : ObjOk P w (upd H a o) h' a o) : HOk P w (upd H a o) h' := fun b u e => by
  have hn := x.fresh hp
  by_cases hb : b = a
  · subst hb; rw [upd_same] at e; cases e; exact new
  · rw [upd_ne hb] at e
    exact (x b u e).stay (fun c v _ q => k c v q) (fun c q => by rw [upd_ne (ne_of_none q hn)]; exact q) fun c xs q => by rw [upd_ne (ne_of_none q hn)]; exact q
end
noncomputable def Rd (H : Hp) (a : Addr) (u : HO) : Prop := H a = some u ∨ ∃ o, H a = some (.frz o u)
theorem Rd.of {H : Hp} {a : Addr} {u : HO} (h : H a = some u) : Rd H a u := .inl h
theorem Rd.ok {P : Program} {w : World} {H : Hp} {h : Heap} {a : Addr} {u : HO} (r : Rd H a u) (x : HOk P w H h) : ObjOk P w H h a u := by
  rcases r with r | ⟨o, r⟩
  · exact x a u r
  · obtain ⟨_, q⟩ := x a _ r
    exact q
noncomputable def Mut : Option HO → Prop
  | some (.lst _) => True
  | some (.dK _) => True
  | some (.dT _) => True
  | some (.set _ _) => True
  | some (.ins _ _ _) => True
  | some (.ext _) => True
  | _ => False
section
variable {P : Program} {w : World} {H : Hp} {h h' : Heap} {x e : Addr} {o' : HO}
theorem HOk.write (ok : HOk P w H h) (mu : Mut (H x)) (he : e = x ∨ H e = some (.own x)) (k : ∀ b u, b ≠ e → h.get? b = some u → h'.get? b = some u) (heo : ∃ u, h'.get? e = some u)
    (new : ObjOk P w (upd H x o') h' x o') : HOk P w (upd H x o') h' := fun b u q => by
  have nown : ∀ c y, H c = some (.own y) → c ≠ x := fun c y r z => by subst z; rw [r] at mu; exact mu
  have ntup : ∀ c xs, H c = some (.tup xs) → c ≠ x := fun c xs r z => by subst z; rw [r] at mu; exact mu
  by_cases hb : b = x
  · subst hb; rw [upd_same] at q; cases q; exact new
  · rw [upd_ne hb] at q
    by_cases hbe : b = e
    · have q' : H b = some (.own x) := by
        rcases he with z | z
        · exact absurd (hbe.trans z) hb
        · rw [hbe]; exact z
      rw [q] at q'; cases q'
      obtain ⟨v, hv⟩ := heo
      exact ⟨v, by rw [hbe]; exact hv⟩
    · refine (ok b u q).stay (fun c v hc r => k c v ?_ r) (fun c r => by rw [upd_ne (nown c b r)]; exact r) fun c xs r => by rw [upd_ne (ntup c xs r)]; exact r
      rcases hc with rfl | hc
      · exact hbe
      · rintro rfl
        rcases he with z | z
        · exact nown c b hc z
        · rw [hc] at z; cases z; exact hb rfl
end
structure Un (fs ex : List Addr) (H H' : Hp) (h h' : Heap) : Prop where
  keep : ∀ b o, h.get? b = some o → H b = none → b ∉ fs → b ∉ ex → h'.get? b = some o
  slot : ∀ b o, h.get? b = some o → H b = none → b ∈ fs → b ∉ ex → ∃ sl, h'.get? b = some { o with slots := sl }
  free : ∀ b o, h.get? b = some o → H b = none → b ∉ ex → H' b = none
  there : ∀ b o, h.get? b = some o → b ∉ ex → ∃ o', h'.get? b = some o'
  tups : ∀ b xs, H b = some (.tup xs) → H' b = some (.tup xs)
  frzs : ∀ b o u, H b = some (.frz o u) → H' b = some (.frz o u)
  tbls : ∀ b ps, H b = some (.tbl ps) → ∃ more, H' b = some (.tbl (ps ++ more))
section
variable {fs fs' ex ex' : List Addr} {H H1 H2 : Hp} {h h1 h2 h' : Heap} {a x e : Addr} {o : HO}
theorem Un.any (u : Un fs ex H H1 h h1) {b : Addr} {ob : Obj} (q : h.get? b = some ob) (n : H b = none) (hx : b ∉ ex) : ∃ sl, h1.get? b = some { ob with slots := sl } := by
  by_cases hb : b ∈ fs
  · exact u.slot b ob q n hb hx
  · exact ⟨ob.slots, u.keep b ob q n hb hx⟩
theorem Un.trans (a : Un fs ex H H1 h h1) (b : Un fs ex H1 H2 h1 h2) : Un fs ex H H2 h h2 where
  keep := fun c ob q n hc hx => b.keep c ob (a.keep c ob q n hc hx) (a.free c ob q n hx) hc hx
  slot := fun c ob q n hc hx => by
    obtain ⟨sl, e1⟩ := a.slot c ob q n hc hx
    obtain ⟨sl', e2⟩ := b.slot c _ e1 (a.free c ob q n hx) hc hx
    exact ⟨sl', e2⟩
  free := fun c ob q n hx => by
    obtain ⟨o', e1⟩ := a.there c ob q hx
    exact b.free c o' e1 (a.free c ob q n hx) hx
  there := fun c ob q hx => by
    obtain ⟨o', e1⟩ := a.there c ob q hx
    exact b.there c o' e1 hx
  tups := fun c xs q => b.tups c xs (a.tups c xs q)
  frzs := fun c ob xs q => b.frzs c ob xs (a.frzs c ob xs q)
  tbls := fun c ps q => by
    obtain ⟨m1, e1⟩ := a.tbls c ps q
    obtain ⟨m2, e2⟩ := b.tbls c _ e1
    exact ⟨m1 ++ m2, by rw [e2, Array.append_assoc]⟩
theorem Un.kept (k : ∀ b u, h.get? b = some u → h'.get? b = some u) : Un fs ex H H h h' :=
  ⟨fun b ob q _ _ _ => k b ob q, fun b ob q _ _ _ => ⟨ob.slots, k b ob q⟩, fun _ _ _ n _ => n, fun b ob q _ => ⟨ob, k b ob q⟩, fun _ _ q => q, fun _ _ _ q => q, fun _ ps q => ⟨#[], by rw [q]; simp⟩⟩
theorem Un.refl : Un fs ex H H h h := Un.kept fun _ _ q => q
theorem Un.laid (k : ∀ b u, h.get? b = some u → h'.get? b = some u) (hp : h.objs.size ≤ a) (hn : H a = none) : Un fs ex H (upd H a o) h h' where
  keep := fun b u q _ _ _ => k b u q
  slot := fun b u q _ _ _ => ⟨u.slots, k b u q⟩
  free := fun b u q n _ => by rw [upd_ne (Nat.ne_of_lt (Nat.lt_of_lt_of_le (Heap.lt_size q) hp))]; exact n
  there := fun b u q _ => ⟨u, k b u q⟩
  tups := fun b xs q => by rw [upd_ne (ne_of_none q hn)]; exact q
  frzs := fun b u xs q => by rw [upd_ne (ne_of_none q hn)]; exact q
  tbls := fun b ps q => ⟨#[], by rw [upd_ne (ne_of_none q hn), q]; simp⟩
theorem Un.write (mu : Mut (H x)) (he : e = x ∨ H e = some (.own x)) (k : ∀ b u, b ≠ e → h.get? b = some u → h'.get? b = some u) (heo : ∃ u, h'.get? e = some u) : Un fs ex H (upd H x o) h h' := by
  have hx : ∀ b, H b = none → b ≠ x := fun b n z => by subst z; rw [n] at mu; exact mu
  have hb : ∀ b, H b = none → b ≠ e := fun b n z => by
    subst z
    rcases he with r | r
    · exact hx b n r
    · rw [n] at r; cases r
  have hm : ∀ b u, H b = some u → ¬ Mut (some u) → b ≠ x := fun b u q nm z => by subst z; rw [q] at mu; exact nm mu
  refine ⟨fun b u q n _ _ => k b u (hb b n) q, fun b u q n _ _ => ⟨u.slots, k b u (hb b n) q⟩, fun b u q n _ => by rw [upd_ne (hx b n)]; exact n, fun b u q _ => ?_,
    fun b xs q => by rw [upd_ne (hm b _ q fun z => z)]; exact q, fun b u xs q => by rw [upd_ne (hm b _ q fun z => z)]; exact q, fun b ps q => ⟨#[], by rw [upd_ne (hm b _ q fun z => z), q]; simp⟩⟩
  by_cases hbe : b = e
  · subst hbe; exact heo
  · exact ⟨u, k b u hbe q⟩
theorem Un.mono (u : Un fs ex H H1 h h1) (hs : ∀ b ∈ fs, b ∈ fs') (hx : ∀ b ∈ ex, b ∈ ex') : Un fs' ex' H H1 h h1 :=
  ⟨fun b ob q n hb he => u.keep b ob q n (fun z => hb (hs b z)) fun z => he (hx b z), fun _ _ q n _ he => u.any q n fun z => he (hx _ z), fun b ob q n he => u.free b ob q n fun z => he (hx b z), fun b ob q he => u.there b ob q fun z => he (hx b z), u.tups, u.frzs, u.tbls⟩
end
noncomputable def trk (h : Heap) (H : Hp) : List Addr := (List.range h.objs.size).filter fun a => (H a).isSome
noncomputable def hidT (h : Heap) (H : Hp) : Heap := PySem.W.hideAll h (trk h H)
theorem hidT_size (h : Heap) (H : Hp) : (hidT h H).objs.size = h.objs.size := PySem.W.hideAll_size _ _
theorem hidT_get {h : Heap} {H : Hp} {b : Addr} {o : Obj} (e : h.get? b = some o) (n : H b = none) : (hidT h H).get? b = some o :=
  PySem.W.hideAll_get _ e fun hm => by
    have q : (H b).isSome = true := (List.mem_filter.mp hm).2
    rw [n] at q; simp at q
theorem of_hidT {h : Heap} {H : Hp} {b : Addr} {o : Obj} (e : (hidT h H).get? b = some o) : h.get? b = some o ∧ H b = none := by
  have e' : h.get? b = some o := PySem.W.of_hideAll (trk h H) e
  refine ⟨e', ?_⟩
  cases q : H b with
  | none => rfl
  | some x =>
    have hm : b ∈ trk h H := List.mem_filter.mpr ⟨List.mem_range.mpr (Heap.lt_size e'), by simp [q]⟩
    have z : (hidT h H).get? b = none := PySem.W.hideAll_none (trk h H) hm
    rw [z] at e; cases e
noncomputable def allNews (g h : Heap) (L : Addr) : List (Addr × Obj) := (List.range h.objs.size).filterMap fun a => if a = L ∨ (g.get? a).isSome = true then none else (h.get? a).map fun o => (a, o)
noncomputable def rest (g h : Heap) (L d : Addr) : List (Addr × Obj) := (allNews g h L).filter fun p => decide (p.1 ≠ d)
end L2
namespace L2
open PySem PySem.Spec PyProof.Rows
structure Mod (K : PySem.W.Frag) (mg : Str → Option Value) (base : Heap) : Prop where
  kin : K.In base
  glob : base.Ns mainGlobals mg
  blt : ∃ mb, base.Ns builtinsNs mb ∧ ∀ x : Str, x ≠ "__name__" → mb x = bootBuiltins x
  nolimit : base.NoLimit
structure Cx where
  prog : Program
  w : World
  K : PySem.W.Frag
  mg : Str → Option Value
  base : Heap
  A : Around
  N : List Str
  s₀ : Shared
  H₀ : Hp
  env : Env
  outer : List Env
  stack : List Env
  ex : List Addr
  fn : Str → Bool
  calm : Bool
  pn : List (Addr × Obj)
  xe : Value → Shared → Prop
noncomputable def frs (l : List Env) : List Addr := l.filterMap (·.frame)
noncomputable abbrev Cx.fs (X : Cx) : List Addr := frs X.outer
noncomputable def Vis (sc : Scope) (x : Str) : Prop := sc.names.lookup x = some .local ∨ sc.names.lookup x = some .cell ∨ sc.names.lookup x = some .free
noncomputable def Loc (sc : Scope) (x : Str) : Prop := sc.names.lookup x = some .local ∨ sc.names.lookup x = some .cell
noncomputable def Look (env : Env) (h : Heap) (m : Str → Option Value) (x : Str) (u : Value) : Prop :=
  (env.kindOf x = some .local ∧ m x = some u) ∨ ((env.kindOf x = some .cell ∨ env.kindOf x = some .free) ∧ ∃ c, env.cells.lookup x = some c ∧ h.IsCell c (some u))
structure Cx.Ok (X : Cx) : Prop where
  mod : Mod X.K X.mg X.base
  kind : X.env.scope.kind = .function
  glob : X.env.globals = mainGlobals
  blt : X.env.builtins = builtinsNs
  above : X.s₀.heap.objs.size ≤ X.env.locals
  inj : ∀ x y c, X.env.cells.lookup x = some c → X.env.cells.lookup y = some c → x = y
  has : ∀ x, (X.env.kindOf x = some .cell ∨ X.env.kindOf x = some .free) → ∃ c, X.env.cells.lookup x = some c
  cab : ∀ x c, X.fn x = true → X.env.cells.lookup x = some c → X.s₀.heap.objs.size ≤ c
  hd : X.calm = true → X.A.handled = none
  frames : X.A.frames = some X.stack
  stk : X.stack = X.outer ∨ (X.stack = X.env :: X.outer ∧ X.env.frame = some X.env.locals)
  exf : ∀ b ∈ X.ex, b ≠ X.env.locals ∧ ∀ x c, X.env.cells.lookup x = some c → c ≠ b
  bs : ∀ b o, X.base.get? b = some o → X.s₀.heap.get? b = some o ∧ X.H₀ b = none
  bsz : X.base.objs.size ≤ X.s₀.heap.objs.size
  noex : ∀ b o, X.base.get? b = some o → b ∉ X.ex
  exfs : ∀ b ∈ X.ex, b ∉ X.fs
  funs : X.s₀.heap.FunFrames X.base X.outer
  frf : ∀ b ∈ X.fs, X.H₀ b = none
structure Inv (X : Cx) (pins : List (Addr × Obj)) (σ : List (Option V)) (H : Hp) (s : Shared) : Prop where
  ok : X.Ok
  os : s.os = X.s₀.os
  bare : AllBare s.gens
  base : Un X.fs X.ex X.H₀ H X.s₀.heap s.heap
  loc : ∃ m, s.heap.Ns X.env.locals m ∧ ∀ (i : Nat) (x : Str) (v : V), X.N[i]? = some x → σ[i]? = some (some v) → Vis X.env.scope x → ∃ u, RelV v u ∧ Look X.env s.heap m x u
  cell : ∀ x c, X.env.cells.lookup x = some c → ∃ v, s.heap.IsCell c v
  free : H X.env.locals = none
  freeC : ∀ x c, X.env.cells.lookup x = some c → H c = none
  pin : ∀ p ∈ X.pn ++ pins, s.heap.get? p.1 = some p.2 ∧ H p.1 = none ∧ p.1 ≠ X.env.locals ∧ p.1 ∉ X.fs ∧ ∀ v, p.2.data ≠ .cell v
  hok : HOk X.prog X.w H s.heap
  len : σ.length = X.N.length
section
variable {X : Cx} {pins : List (Addr × Obj)} {σ : List (Option V)} {H H' : Hp} {s : Shared} {h' : Heap}
theorem Cx.Ok.nofr (ok : X.Ok) {b : Addr} {o : Obj} (e : X.base.get? b = some o) : b ∉ X.fs := fun hb => by
  have := (ok.funs.mem hb).1
  rw [e] at this; cases this
theorem Inv.bs (I : Inv X pins σ H s) : ∀ b o, X.base.get? b = some o → s.heap.get? b = some o ∧ H b = none := fun b o e =>
  ⟨I.base.keep b o (I.ok.bs b o e).1 (I.ok.bs b o e).2 (I.ok.nofr e) (I.ok.noex b o e), I.base.free b o (I.ok.bs b o e).1 (I.ok.bs b o e).2 (I.ok.noex b o e)⟩
theorem Inv.bk (I : Inv X pins σ H s) : ∀ b o, X.base.get? b = some o → s.heap.get? b = some o := fun b o e => (I.bs b o e).1
theorem Inv.mod (I : Inv X pins σ H s) : Mod X.K X.mg X.base := I.ok.mod
theorem Inv.kIn (I : Inv X pins σ H s) : X.K.In s.heap := I.ok.mod.kin.keeps I.bk
theorem Inv.nolimit (I : Inv X pins σ H s) : s.heap.NoLimit := I.ok.mod.nolimit.keeps I.bk
theorem Inv.fr (I : Inv X pins σ H s) : ∃ m, Fr X.base X.env.locals s.heap m :=
  let ⟨m, hn, _⟩ := I.loc
  ⟨m, hn, I.bk, Nat.le_trans I.ok.bsz I.ok.above⟩
theorem Inv.lt (I : Inv X pins σ H s) : X.env.locals < s.heap.objs.size := let ⟨_, hn, _⟩ := I.loc; hn.lt
theorem Inv.sz (I : Inv X pins σ H s) : X.s₀.heap.objs.size ≤ s.heap.objs.size := Nat.le_trans I.ok.above (Nat.le_of_lt I.lt)
theorem Inv.nofs (I : Inv X pins σ H s) {a : Addr} (h : s.heap.objs.size ≤ a) : a ∉ X.fs := fun hb => by
  obtain ⟨_, o, ho, _⟩ := I.ok.funs.mem hb
  exact absurd (Nat.lt_of_lt_of_le (Heap.lt_size ho) (Nat.le_trans I.sz h)) (Nat.lt_irrefl _)
theorem Inv.cne (I : Inv X pins σ H s) : ∀ x c, X.env.cells.lookup x = some c → c ≠ X.env.locals := fun x c e z => by
  obtain ⟨v, o, ho, hd⟩ := I.cell x c e
  obtain ⟨m, ⟨o', es, ep, ho', hd', _⟩, _⟩ := I.loc
  rw [z, ho'] at ho; cases ho; rw [hd'] at hd; cases hd
theorem Inv.funs (I : Inv X pins σ H s) : s.heap.FunFrames X.base X.outer := by
  have all : ∀ (l : List Env), (∀ b ∈ frs l, b ∈ X.fs) → X.s₀.heap.FunFrames X.base l → s.heap.FunFrames X.base l := by
    intro l
    induction l with
    | nil => intro _ _; trivial
    | cons env r ih =>
      intro hs hl
      obtain ⟨hk, ⟨L, o, hf, hn, ho, hd⟩, hr⟩ := hl
      have hL : L ∈ X.fs := hs L (by unfold frs; rw [List.filterMap_cons, hf]; exact List.mem_cons_self)
      obtain ⟨sl, e⟩ := I.base.slot L o ho (I.ok.frf L hL) hL fun z => I.ok.exfs L z hL
      exact ⟨hk, ⟨L, _, hf, hn, e, hd⟩, ih (fun b hb => hs b (by unfold frs; rw [List.filterMap_cons, hf]; exact List.mem_cons_of_mem _ hb)) hr⟩
  exact all X.outer (fun _ hb => hb) I.ok.funs
theorem Inv.stack (I : Inv X pins σ H s) : s.heap.FunFrames X.base X.stack := by
  rcases I.ok.stk with e | ⟨e, hf⟩
  · rw [e]; exact I.funs
  · rw [e]
    obtain ⟨m, hn, _⟩ := I.loc
    refine .cons (by rw [I.ok.kind]; decide) hf hn ?_ I.funs
    exact Heap.get?_none_of_le (Nat.le_trans I.ok.bsz I.ok.above)
theorem Inv.stkSub (I : Inv X pins σ H s) : ∀ b ∈ frs X.stack, b ∈ X.env.locals :: X.fs := fun b hb => by
  rcases I.ok.stk with e | ⟨e, hf⟩
  · rw [e] at hb; exact List.mem_cons_of_mem _ hb
  · rw [e] at hb
    unfold frs at hb
    rw [List.filterMap_cons, hf] at hb
    exact hb
theorem Inv.stkFree (I : Inv X pins σ H s) : ∀ b ∈ frs X.stack, H b = none := fun b hb => by
  rcases List.mem_cons.mp (I.stkSub b hb) with e | hb
  · rw [e]; exact I.free
  · obtain ⟨_, o, ho, _⟩ := I.ok.funs.mem hb
    exact I.base.free b o ho (I.ok.frf b hb) fun z => I.ok.exfs b z hb
theorem Inv.step {g' : Array GenState} {t' : Nat} {d' : Drawn} {ch : List Addr} (I : Inv X pins σ H s)
    (hch : ∀ b ∈ ch, (b ∈ X.ex ∨ X.s₀.heap.objs.size ≤ b) ∧ b ≠ X.env.locals ∧ (∀ x c, X.env.cells.lookup x = some c → c ≠ b) ∧ ∀ p ∈ X.pn ++ pins, p.1 ≠ b)
    (keep : ∀ b o, b ≠ X.env.locals → b ∉ X.fs → b ∉ ch → s.heap.get? b = some o → H b = none → h'.get? b = some o)
    (slot : ∀ b o, b ≠ X.env.locals → b ∈ X.fs → b ∉ ch → s.heap.get? b = some o → H b = none → ∃ sl, h'.get? b = some { o with slots := sl }) (free : ∀ b o, b ∉ ch → s.heap.get? b = some o → H b = none → H' b = none)
    (there : ∀ b o, b ∉ ch → s.heap.get? b = some o → ∃ o', h'.get? b = some o')
    (tups : ∀ b xs, H b = some (.tup xs) → H' b = some (.tup xs)) (frzs : ∀ b o u, H b = some (.frz o u) → H' b = some (.frz o u)) (tbls : ∀ b ps, H b = some (.tbl ps) → ∃ more, H' b = some (.tbl (ps ++ more)))
    (ns : ∀ m, s.heap.Ns X.env.locals m → h'.Ns X.env.locals m) (hok : HOk X.prog X.w H' h') (hg : AllBare g') :
    Inv X pins σ H' { s with heap := h', gens := g', drawn := d', toks := t' } := by
  have neL : ∀ b o, X.s₀.heap.get? b = some o → b ≠ X.env.locals := fun b o e => Nat.ne_of_lt (Nat.lt_of_lt_of_le (Heap.lt_size e) I.ok.above)
  have neC : ∀ b o, X.s₀.heap.get? b = some o → b ∉ X.ex → b ∉ ch := fun b o e hx hb => by
    rcases (hch b hb).1 with z | z
    · exact hx z
    · exact absurd (Nat.lt_of_lt_of_le (Heap.lt_size e) z) (Nat.lt_irrefl _)
  have cellK : ∀ x c, X.env.cells.lookup x = some c → ∀ v, s.heap.IsCell c v → h'.IsCell c v := fun x c e v ⟨o, ho, hd⟩ => by
    have nch : c ∉ ch := fun z => (hch c z).2.2.1 x c e rfl
    by_cases hc : c ∈ X.fs
    · obtain ⟨sl, q⟩ := slot c o (I.cne x c e) hc nch ho (I.freeC x c e)
      exact ⟨_, q, hd⟩
    · exact ⟨o, keep c o (I.cne x c e) hc nch ho (I.freeC x c e), hd⟩
  refine ⟨I.ok, I.os, hg, ⟨fun b o e n hb hx => ?_, fun b o e n hb hx => ?_, fun b o e n hx => ?_, fun b o e hx => ?_, fun b xs e => tups b xs (I.base.tups b xs e), fun b o xs e => frzs b o xs (I.base.frzs b o xs e), fun b ps e => ?_⟩, ?_, fun x c e => ?_, ?_, fun x c e => ?_, fun p hp => ?_, hok, I.len⟩
  · exact keep b o (neL b o e) hb (neC b o e hx) (I.base.keep b o e n hb hx) (I.base.free b o e n hx)
  · obtain ⟨sl, e1⟩ := I.base.slot b o e n hb hx
    obtain ⟨sl', e2⟩ := slot b _ (neL b o e) hb (neC b o e hx) e1 (I.base.free b o e n hx)
    exact ⟨sl', e2⟩
  · obtain ⟨o', e1⟩ := I.base.there b o e hx
    exact free b o' (neC b o e hx) e1 (I.base.free b o e n hx)
  · obtain ⟨o', e1⟩ := I.base.there b o e hx
    exact there b o' (neC b o e hx) e1
  · obtain ⟨m1, e1⟩ := I.base.tbls b ps e
    obtain ⟨m2, e2⟩ := tbls b _ e1
    exact ⟨m1 ++ m2, by rw [e2, Array.append_assoc]⟩
  · obtain ⟨m, hn, hl⟩ := I.loc
    refine ⟨m, ns m hn, fun i x v e1 e2 e3 => ?_⟩
    obtain ⟨u, r, l⟩ := hl i x v e1 e2 e3
    refine ⟨u, r, ?_⟩
    rcases l with l | ⟨k, c, e, z⟩
    · exact .inl l
    · exact .inr ⟨k, c, e, cellK x c e _ z⟩
  · obtain ⟨v, z⟩ := I.cell x c e
    exact ⟨v, cellK x c e v z⟩
  · obtain ⟨m, ⟨o, _, _, ho, _⟩, _⟩ := I.loc
    exact free _ o (fun z => (hch _ z).2.1 rfl) ho I.free
  · obtain ⟨v, o, ho, hd⟩ := I.cell x c e
    exact free c o (fun z => (hch c z).2.2.1 x c e rfl) ho (I.freeC x c e)
  · obtain ⟨e, n, ne, nf, d⟩ := I.pin p hp
    have nch : p.1 ∉ ch := fun z => (hch p.1 z).2.2.2 p hp rfl
    exact ⟨keep p.1 p.2 ne nf nch e n, free p.1 p.2 nch e n, ne, nf, d⟩
theorem Inv.un {t' : Nat} (I : Inv X pins σ H s) (u : Un X.fs [] H H' s.heap h') (hok : HOk X.prog X.w H' h') : Inv X pins σ H' { s with heap := h', toks := t' } := by
  obtain ⟨m, ⟨o, es, ep, ho, r⟩, _⟩ := id I.loc
  obtain ⟨sl, hL⟩ := u.any ho I.free (by simp)
  exact I.step (g' := s.gens) (d' := s.drawn) (ch := []) (fun _ z => nomatch z) (fun b o _ hb _ e n => u.keep b o e n hb (by simp)) (fun b o _ hb _ e n => u.slot b o e n hb (by simp)) (fun b o _ e n => u.free b o e n (by simp)) (fun b o _ e => u.there b o e (by simp)) u.tups u.frzs u.tbls (fun m' hm => by
    obtain ⟨o', es', ep', ho', r'⟩ := hm
    rw [ho] at ho'; cases ho'
    exact ⟨_, es', ep', hL, r'⟩) hok I.bare
theorem Inv.call {g' : Array GenState} {t' : Nat} {d' : Drawn} {ch : List Addr} (I : Inv X pins σ H s) (u : Un (frs X.stack) ch H H' s.heap h') (hok : HOk X.prog X.w H' h') (hg : AllBare g')
    (hch : ∀ b ∈ ch, (b ∈ X.ex ∨ X.s₀.heap.objs.size ≤ b) ∧ b ≠ X.env.locals ∧ (∀ x c, X.env.cells.lookup x = some c → c ≠ b) ∧ ∀ p ∈ X.pn ++ pins, p.1 ≠ b) :
    Inv X pins σ H' { s with heap := h', gens := g', drawn := d', toks := t' } := by
  obtain ⟨m, ⟨o, es, ep, ho, r⟩, _⟩ := id I.loc
  obtain ⟨sl, hL⟩ := u.any ho I.free fun z => (hch _ z).2.1 rfl
  exact I.step (ch := ch) hch (fun b o hL hb hc e n => u.keep b o e n (fun z => (List.mem_cons.mp (I.stkSub b z)).elim hL hb) hc) (fun b o _ _ hc e n => u.any e n hc) (fun b o hc e n => u.free b o e n hc) (fun b o hc e => u.there b o e hc) u.tups u.frzs u.tbls (fun m' hm => by
    obtain ⟨o', es', ep', ho', r'⟩ := hm
    rw [ho] at ho'; cases ho'
    exact ⟨_, es', ep', hL, r'⟩) hok hg
theorem Inv.turned {t' : Nat} {it : Addr} (I : Inv X pins σ H s) (k : ∀ b o, b ≠ it → s.heap.get? b = some o → h'.get? b = some o) (hn : H it = none) (hL : it ≠ X.env.locals)
    (h1 : it ∈ X.ex ∨ X.s₀.heap.objs.size ≤ it) (h2 : ∀ x c, X.env.cells.lookup x = some c → c ≠ it) (h3 : ∀ p ∈ X.pn ++ pins, p.1 ≠ it) : Inv X pins σ H { s with heap := h', toks := t' } := by
  have nit : ∀ b u, H b = some u → b ≠ it := fun b u e z => by rw [z, hn] at e; cases e
  refine I.step (g' := s.gens) (d' := s.drawn) (ch := [it]) (fun b hb => ?_) (fun b o _ _ hc e _ => k b o (fun z => hc (by simp [z])) e) (fun b o _ _ hc e _ => ⟨o.slots, k b o (fun z => hc (by simp [z])) e⟩) (fun _ _ _ _ n => n)
    (fun b o hc e => ⟨o, k b o (fun z => hc (by simp [z])) e⟩) (fun _ _ e => e) (fun _ _ _ e => e) (fun b ps e => ⟨#[], by rw [e]; simp⟩) (fun m hm => ?_) (fun b u e => ?_) I.bare
  · have e : b = it := by simpa using hb
    subst e
    exact ⟨h1, hL, h2, h3⟩
  · obtain ⟨o, es, ep, ho, r⟩ := hm
    exact ⟨o, es, ep, k _ o (Ne.symm hL) ho, r⟩
  · refine (I.hok b u e).stay (fun c v hc q => k c v ?_ q) (fun _ q => q) fun _ _ q => q
    rcases hc with z | z
    · rw [z]; exact nit b u e
    · exact nit c _ z
theorem Inv.tok (I : Inv X pins σ H s) (t : Nat) : Inv X pins σ H { s with toks := t } := I.un (h' := s.heap) (t' := t) Un.refl I.hok
theorem Inv.kept {t' : Nat} (I : Inv X pins σ H s) (k : ∀ b u, s.heap.get? b = some u → h'.get? b = some u) : Inv X pins σ H { s with heap := h', toks := t' } := I.un (Un.kept k) (I.hok.kept k)
theorem Inv.laid {a : Addr} {o : HO} {t' : Nat} (I : Inv X pins σ H s) (k : ∀ b u, s.heap.get? b = some u → h'.get? b = some u) (hp : s.heap.objs.size ≤ a) (new : ObjOk X.prog X.w (upd H a o) h' a o) :
    Inv X pins σ (upd H a o) { s with heap := h', toks := t' } := I.un (Un.laid k hp (I.hok.fresh hp)) (I.hok.laid k hp new)
theorem Inv.write {x e : Addr} {o : HO} {t' : Nat} (I : Inv X pins σ H s) (mu : Mut (H x)) (he : e = x ∨ H e = some (.own x)) (k : ∀ b u, b ≠ e → s.heap.get? b = some u → h'.get? b = some u) (heo : ∃ u, h'.get? e = some u)
    (new : ObjOk X.prog X.w (upd H x o) h' x o) : Inv X pins σ (upd H x o) { s with heap := h', toks := t' } := I.un (Un.write mu he k heo) (I.hok.write mu he k heo new)
theorem Inv.weak {σ' : List (Option V)} (I : Inv X pins σ H s) (hl : σ'.length = σ.length) (w : ∀ (i : Nat) v, σ'[i]? = some (some v) → σ[i]? = some (some v)) : Inv X pins σ' H s :=
  ⟨I.ok, I.os, I.bare, I.base, let ⟨m, hn, hl'⟩ := I.loc; ⟨m, hn, fun i x v e1 e2 e3 => hl' i x v e1 (w i v e2) e3⟩, I.cell, I.free, I.freeC, I.pin, I.hok, hl.trans I.len⟩
theorem Inv.pins_of {pins' : List (Addr × Obj)} (I : Inv X pins σ H s) (h : ∀ p ∈ pins', s.heap.get? p.1 = some p.2 ∧ H p.1 = none ∧ p.1 ≠ X.env.locals ∧ p.1 ∉ X.fs ∧ ∀ v, p.2.data ≠ .cell v) : Inv X pins' σ H s :=
  ⟨I.ok, I.os, I.bare, I.base, I.loc, I.cell, I.free, I.freeC, fun p hp => (List.mem_append.mp hp).elim (fun z => I.pin p (List.mem_append_left _ z)) (h p), I.hok, I.len⟩
theorem nodup_ix {N : List Str} (hN : N.Nodup) {i j : Nat} {x : Str} (a : N[i]? = some x) (b : N[j]? = some x) : i = j := by
  obtain ⟨h1, e1⟩ := List.getElem?_eq_some_iff.mp a
  obtain ⟨h2, e2⟩ := List.getElem?_eq_some_iff.mp b
  exact (List.getElem_inj hN).mp (e1.trans e2.symm)
theorem store_ok2 {M : Model} {A : Around} {E : Value → Shared → Prop} {i : Nat} {x : Str} {v : V} {u : Value} {Q : Unit → Shared → Prop} (I : Inv X pins σ H s) (hN : X.N.Nodup) (hi : X.N[i]? = some x) (hx : Loc X.env.scope x) (r : RelV v u)
    (h : ∀ s', Inv X pins (σ.set i (some v)) H s' → (∃ a, Heap.SameBut a s.heap s'.heap ∧ (a = X.env.locals ∨ X.env.cells.lookup x = some a)) → Q () s') (hf : X.fn x = true ∨ X.env.scope.names.lookup x = some .local) : wpAny M A (storeName X.env x u) Q E s := by
  obtain ⟨m, hn, hl⟩ := id I.loc
  have hcls : (X.env.scope.kind == .class || (X.env.scope.kind == .module && X.env.locals != X.env.globals)) = false := by rw [I.ok.kind]; rfl
  have hiσ : i < σ.length := by rw [I.len]; exact (List.getElem?_eq_some_iff.mp hi).1
  have cne := I.cne
  have tracked : ∀ {a : Addr} {h' : Heap}, (∃ o, s.heap.get? a = some o ∧ H a = none) → Heap.SameBut a s.heap h' → HOk X.prog X.w H h' := fun {a h'} ha hs b ob e => by
    obtain ⟨_, _, hfree⟩ := ha
    refine (I.hok b ob e).stay (fun c w' hc q => (hs.2 c ?_).trans q) (fun _ q => q) fun _ _ q => q
    rintro rfl
    rcases hc with rfl | hc
    · rw [hfree] at e; cases e
    · rw [hfree] at hc; cases hc
  rcases hx with hk | hk
  · refine wpAny_storeName_local hk hn (fun h' hn' hs => ?_) hcls
    obtain ⟨oL, _, _, hoL, _⟩ := id hn
    refine h _ ⟨I.ok, I.os, I.bare, ⟨fun b o e n hb hx => ?_, fun b o e n hb hx => ?_, I.base.free, fun b o e hx => ?_, I.base.tups, I.base.frzs, I.base.tbls⟩, ⟨_, hn', fun j y v' e1 e2 e3 => ?_⟩, fun y c e => ?_, I.free, I.freeC, fun p hp => ?_, tracked ⟨oL, hoL, I.free⟩ hs, by simpa using I.len⟩ ⟨_, hs, .inl rfl⟩
    · exact (hs.2 b (Nat.ne_of_lt (Nat.lt_of_lt_of_le (Heap.lt_size e) I.ok.above))).trans (I.base.keep b o e n hb hx)
    · obtain ⟨sl, e1⟩ := I.base.slot b o e n hb hx
      exact ⟨sl, (hs.2 b (Nat.ne_of_lt (Nat.lt_of_lt_of_le (Heap.lt_size e) I.ok.above))).trans e1⟩
    · obtain ⟨o', e1⟩ := I.base.there b o e hx
      exact ⟨o', (hs.2 b (Nat.ne_of_lt (Nat.lt_of_lt_of_le (Heap.lt_size e) I.ok.above))).trans e1⟩
    · by_cases hj : j = i
      · subst hj
        rw [hi] at e1; cases e1
        rw [List.getElem?_set_self hiσ] at e2
        cases e2
        exact ⟨u, r, .inl ⟨hk, by simp⟩⟩
      · rw [List.getElem?_set_ne (Ne.symm hj)] at e2
        obtain ⟨u', r', q⟩ := hl j y v' e1 e2 e3
        refine ⟨u', r', ?_⟩
        rcases q with ⟨k, e⟩ | ⟨k, c, e, z⟩
        · refine .inl ⟨k, ?_⟩
          have : y ≠ x := fun e => hj (nodup_ix hN e1 (e ▸ hi))
          simp [this, e]
        · exact .inr ⟨k, c, e, z.sameBut hs (cne y c e)⟩
    · obtain ⟨w', z⟩ := I.cell y c e
      exact ⟨w', z.sameBut hs (cne y c e)⟩
    · obtain ⟨e, n, ne, nf, d⟩ := I.pin p hp
      exact ⟨(hs.2 p.1 ne).trans e, n, ne, nf, d⟩
  · have hfn : X.fn x = true := by
      rcases hf with z | z
      · exact z
      · rw [z] at hk; cases hk
    obtain ⟨c, hc⟩ := I.ok.has x (.inl hk)
    obtain ⟨w', z⟩ := I.cell x c hc
    refine wpAny_storeName_cell I.ok.kind hk hc z (fun h' hc' hs => ?_)
    obtain ⟨oc, hoc, hocd⟩ := id z
    refine h { s with heap := h' } ⟨I.ok, I.os, I.bare, ⟨fun b o e n hb hx => ?_, fun b o e n hb hx => ?_, I.base.free, fun b o e hx => ?_, I.base.tups, I.base.frzs, I.base.tbls⟩, ⟨m, hn.sameBut hs (Ne.symm (cne x c hc)), fun j y v' e1 e2 e3 => ?_⟩, fun y c' e => ?_, I.free, I.freeC, fun p hp => ?_, tracked ⟨oc, hoc, I.freeC x c hc⟩ hs, by simpa using I.len⟩ ⟨c, hs, .inr hc⟩
    · exact (hs.2 b (Nat.ne_of_lt (Nat.lt_of_lt_of_le (Heap.lt_size e) (I.ok.cab x c hfn hc)))).trans (I.base.keep b o e n hb hx)
    · obtain ⟨sl, e1⟩ := I.base.slot b o e n hb hx
      exact ⟨sl, (hs.2 b (Nat.ne_of_lt (Nat.lt_of_lt_of_le (Heap.lt_size e) (I.ok.cab x c hfn hc)))).trans e1⟩
    · obtain ⟨o', e1⟩ := I.base.there b o e hx
      exact ⟨o', (hs.2 b (Nat.ne_of_lt (Nat.lt_of_lt_of_le (Heap.lt_size e) (I.ok.cab x c hfn hc)))).trans e1⟩
    · by_cases hj : j = i
      · subst hj
        rw [hi] at e1; cases e1
        rw [List.getElem?_set_self hiσ] at e2
        cases e2
        exact ⟨u, r, .inr ⟨.inl hk, c, hc, hc'⟩⟩
      · rw [List.getElem?_set_ne (Ne.symm hj)] at e2
        obtain ⟨u', r', q⟩ := hl j y v' e1 e2 e3
        refine ⟨u', r', ?_⟩
        rcases q with q | ⟨k, c', e, z'⟩
        · exact .inl q
        · refine .inr ⟨k, c', e, z'.sameBut hs ?_⟩
          rintro rfl
          exact hj (nodup_ix hN e1 (I.ok.inj _ _ _ e hc ▸ hi))
    · by_cases hcc : c' = c
      · subst hcc; exact ⟨_, hc'⟩
      · obtain ⟨w2, z2⟩ := I.cell y c' e
        exact ⟨w2, z2.sameBut hs hcc⟩
    · obtain ⟨e, n, ne, nf, d⟩ := I.pin p hp
      refine ⟨(hs.2 p.1 ?_).trans e, n, ne, nf, d⟩
      intro q
      rw [q, hoc] at e
      have q' : oc = p.2 := Option.some.inj e
      exact d w' (by rw [← q']; exact hocd)
theorem store_ok {M : Model} {A : Around} {E : Value → Shared → Prop} {i : Nat} {x : Str} {v : V} {u : Value} {Q : Unit → Shared → Prop} (I : Inv X pins σ H s) (hN : X.N.Nodup) (hi : X.N[i]? = some x) (hx : Loc X.env.scope x) (r : RelV v u)
    (h : ∀ s', Inv X pins (σ.set i (some v)) H s' → Q () s') (hf : X.fn x = true ∨ X.env.scope.names.lookup x = some .local := by first | exact .inl rfl | exact .inr rfl | assumption) : wpAny M A (storeName X.env x u) Q E s :=
  store_ok2 I hN hi hx r (fun s' I' _ => h s' I') hf
theorem Inv.call' {s' : Shared} {ch : List Addr} (I : Inv X pins σ H s) (ho : s'.os = s.os) (u : Un (frs X.stack) ch H H' s.heap s'.heap) (hok : HOk X.prog X.w H' s'.heap) (hg : AllBare s'.gens)
    (hch : ∀ b ∈ ch, (b ∈ X.ex ∨ X.s₀.heap.objs.size ≤ b) ∧ b ≠ X.env.locals ∧ (∀ x c, X.env.cells.lookup x = some c → c ≠ b) ∧ ∀ p ∈ X.pn ++ pins, p.1 ≠ b) : Inv X pins σ H' s' := by
  obtain ⟨h', g', d', t', o'⟩ := s'
  have e : o' = s.os := ho
  subst e
  exact I.call (g' := g') (t' := t') (d' := d') u hok hg hch
end
noncomputable abbrev XK := Value → Option Addr → Hp → Prop
noncomputable abbrev St := List (Option V)
noncomputable abbrev VK := V → Hp → Prop
noncomputable abbrev TE := St → Hp → VK → Prop
noncomputable abbrev TT := St → Hp → (Bool → Hp → Prop) → Prop
noncomputable abbrev TA := St → Hp → (List V → Hp → Prop) → Prop
structure Ends where
  nx : St → Hp → Prop
  rt : VK
  bk : St → Hp → Prop := fun _ _ => False
  ct : St → Hp → Prop := fun _ _ => False
noncomputable abbrev TS := Ends → St → Hp → Prop
noncomputable def EP (X : Cx) (pins : List (Addr × Obj)) (σ : St) (Q : VK) (u : Value) (s' : Shared) : Prop := ∃ v H', Inv X pins σ H' s' ∧ RelV v u ∧ Q v H'
noncomputable def TP (X : Cx) (pins : List (Addr × Obj)) (σ : St) (Q : Bool → Hp → Prop) (b : Bool) (s' : Shared) : Prop := ∃ H', Inv X pins σ H' s' ∧ Q b H'
noncomputable def AP (X : Cx) (pins : List (Addr × Obj)) (σ : St) (Q : List V → Hp → Prop) (us : List Value) (s' : Shared) : Prop := ∃ vs H', Inv X pins σ H' s' ∧ Vals vs us ∧ Q vs H'
noncomputable def SP (X : Cx) (pins : List (Addr × Obj)) (D : Ends) (f : Flow) (s' : Shared) : Prop :=
  match f with
  | .next => ∃ σ' H', Inv X pins σ' H' s' ∧ D.nx σ' H'
  | .brk => ∃ σ' H', Inv X pins σ' H' s' ∧ D.bk σ' H'
  | .cont => ∃ σ' H', Inv X pins σ' H' s' ∧ D.ct σ' H'
  | .ret u => ∃ v σ' H', Inv X pins σ' H' s' ∧ RelV v u ∧ D.rt v H'
noncomputable def PE (X : Cx) (e : Expr) (t : TE) : Prop :=
  ∀ (pins : List (Addr × Obj)) (s : Shared) (σ : St) (H : Hp) (Q : VK), Inv X pins σ H s → t σ H Q → wpAny (model X.prog X.w) X.A (eval e X.env) (EP X pins σ Q) X.xe s
noncomputable def PT (X : Cx) (e : Expr) (t : TT) : Prop :=
  ∀ (pins : List (Addr × Obj)) (s : Shared) (σ : St) (H : Hp) (Q : Bool → Hp → Prop), Inv X pins σ H s → t σ H Q → wpAny (model X.prog X.w) X.A (isTrue e X.env (eval e X.env)) (TP X pins σ Q) X.xe s
noncomputable def PW (X : Cx) (e : Expr) (t : TT) : Prop :=
  ∀ (whole : Sem Value) (pins : List (Addr × Obj)) (s : Shared) (σ : St) (H : Hp) (Q : Bool → Hp → Prop), Inv X pins σ H s → t σ H Q → wpAny (model X.prog X.w) X.A (isTrue e X.env whole) (TP X pins σ Q) X.xe s
theorem PW.pt {X : Cx} {e : Expr} {t : TT} (h : PW X e t) : PT X e t := h _
noncomputable def PA (X : Cx) (es : List Expr) (t : TA) : Prop :=
  ∀ (pos : Pos) (pins : List (Addr × Obj)) (s : Shared) (σ : St) (H : Hp) (Q : List V → Hp → Prop), Inv X pins σ H s → t σ H Q → wpAny (model X.prog X.w) X.A (spliced (backTo pos (starEach es X.env))) (AP X pins σ Q) X.xe s
noncomputable def PS (X : Cx) (st : Stmt) (t : TS) : Prop :=
  ∀ (pins : List (Addr × Obj)) (s : Shared) (σ : St) (H : Hp) (D : Ends), Inv X pins σ H s → t D σ H → wpAny (model X.prog X.w) X.A (exec st X.env) (SP X pins D) X.xe s
noncomputable def PSs (X : Cx) (st : List Stmt) (t : TS) : Prop :=
  ∀ (pins : List (Addr × Obj)) (s : Shared) (σ : St) (H : Hp) (D : Ends), Inv X pins σ H s → t D σ H → wpAny (model X.prog X.w) X.A (execs st X.env) (SP X pins D) X.xe s
theorem thn {α : Type} {t : Sem α} {Q Q' : α → Shared → Prop} {M : Model} {A : Around} {E : Value → Shared → Prop} {s : Shared} (h : wpAny M A t Q E s) (hQ : ∀ a s, Q a s → Q' a s) : wpAny M A t Q' E s := wpAny_mono h hQ fun _ _ x => x
end L2
namespace L2
open PySem PySem.Spec PyProof.Rows
section
variable {X : Cx}
noncomputable def tVar (i : Nat) : TE := fun σ H Q => ∃ v, σ[i]? = some (some v) ∧ Q v H
noncomputable def tC (v : V) : TE := fun _ H Q => Q v H
theorem pe_var {i : Nat} {x : Str} {pos : Pos} (hN : X.N[i]? = some x) (hv : Vis X.env.scope x) (hd : (x == ("__debug__" : Str)) = false := by decide) (hcd : (x == ("__classdict__" : Str)) = false := by decide) : PE X (.Name x pos) (tVar i) := by
  intro pins s σ H Q I h
  obtain ⟨v, e, h⟩ := h
  obtain ⟨m, hn, hl⟩ := I.loc
  obtain ⟨u, r, l⟩ := hl i x v hN e hv
  have fin : EP X pins σ Q u s := ⟨v, H, I, r, h⟩
  rcases l with ⟨hk, hm⟩ | ⟨hk, c, hc, hcell⟩
  · exact wpAny_Name (wpAny_loadName_local I.ok.kind hk hn hm fin) hd
  · rcases hk with hk | hk
    · exact wpAny_Name (wpAny_loadName_cell I.ok.kind hk hc hcell fin) hd
    · exact wpAny_Name (wpAny_loadName_free I.ok.kind hk hc hcell fin hcd) hd
theorem pe_int {i j pos} : PE X (.Constant (.int i) j pos) (tC (.int i)) := fun _ _ _ H _ I h => wpAny_Constant_int ⟨.int i, H, I.tok _, ⟨_, rfl⟩, h⟩
theorem pe_bl {b j pos} : PE X (.Constant (.bool b) j pos) (tC (.bl b)) := fun _ _ _ H _ I h => Constant_bool ⟨.bl b, H, I, rfl, h⟩
theorem pe_non {j pos} : PE X (.Constant .none j pos) (tC .non) := fun _ _ _ H _ I h => Constant_none ⟨.non, H, I, rfl, h⟩
theorem pe_str {x j pos} : PE X (.Constant (.str x) j pos) (tC (.str x)) := fun _ _ _ H _ I h => Calls.Constant_str ⟨.str x, H, I.tok _, ⟨_, rfl⟩, h⟩
noncomputable def Gl (X : Cx) (x : Str) : Prop := X.env.kindOf x = some .globalImplicit
theorem ld_glob {E : Value → Shared → Prop} {pins : List (Addr × Obj)} {s : Shared} {σ : St} {H : Hp} {x : Str} {u : Value} {pos : Pos} {Q : Value → Shared → Prop} (I : Inv X pins σ H s) (hg : Gl X x) (hm : X.mg x = some u) (h : Q u s)
    (hd : (x == ("__debug__" : Str)) = false := by decide) : wpAny (model X.prog X.w) X.A (eval (.Name x pos) X.env) Q E s :=
  Calls.Name_function_global I.ok.kind hg (Calls.loadGlobal_global (by rw [I.ok.glob]; exact I.mod.glob.keeps I.bk) hm h) hd
theorem ld_blt {E : Value → Shared → Prop} {pins : List (Addr × Obj)} {s : Shared} {σ : St} {H : Hp} {x : Str} {u : Value} {pos : Pos} {Q : Value → Shared → Prop} (I : Inv X pins σ H s) (hg : Gl X x) (hm : X.mg x = none) (hv : bootBuiltins x = some u) (h : Q u s)
    (hn : x ≠ "__name__" := by decide) (hd : (x == ("__debug__" : Str)) = false := by decide) : wpAny (model X.prog X.w) X.A (eval (.Name x pos) X.env) Q E s := by
  obtain ⟨mb, h1, h2⟩ := I.mod.blt
  exact Calls.Name_function_global I.ok.kind hg (Calls.loadGlobal_builtin (by rw [I.ok.glob]; exact I.mod.glob.keeps I.bk) hm (by rw [I.ok.blt]; exact h1.keeps I.bk) ((h2 x hn).trans hv) h) hd
theorem pe_glob {x : Str} {v : V} {u : Value} {pos : Pos} (hg : Gl X x) (hm : X.mg x = some u) (r : RelV v u) (hd : (x == ("__debug__" : Str)) = false := by decide) : PE X (.Name x pos) (tC v) :=
  fun _ _ _ H _ I h => ld_glob I hg hm ⟨v, H, I, r, h⟩ hd
theorem pe_bltn {x : Str} {v : V} {u : Value} {pos : Pos} (hg : Gl X x) (hm : X.mg x = none) (hv : bootBuiltins x = some u) (r : RelV v u) (hn : x ≠ "__name__" := by decide) (hd : (x == ("__debug__" : Str)) = false := by decide) : PE X (.Name x pos) (tC v) :=
  fun _ _ _ H _ I h => ld_blt I hg hm hv ⟨v, H, I, r, h⟩ hn hd
variable {a b : Expr} {ta tb : TE} {pos : Pos}
variable {tA tB' : TT} {rest : List Expr}
noncomputable def tOr (t u : TT) : TT := fun σ H Q => t σ H fun c H1 => if c = true then Q true H1 else u σ H1 Q
noncomputable def tNot (t : TT) : TT := fun σ H Q => t σ H fun c H1 => Q (!c) H1
theorem pw_or1 (ha : PT X a tA) : PW X (.BoolOp .Or [a] pos) tA := by
  intro wh pins s σ H Q I h
  refine isTrue_or (thn (ha pins s σ H Q I h) fun c s1 e => ?_)
  cases c with
  | false => exact isTrue_or_nil e
  | true => exact e
theorem pw_or (ha : PT X a tA) (hb : PW X (.BoolOp .Or (b :: rest) pos) tB') : PW X (.BoolOp .Or (a :: b :: rest) pos) (tOr tA tB') := by
  intro wh pins s σ H Q I h
  refine isTrue_or (thn (ha pins s σ H _ I h) fun c s1 ⟨H1, I1, q1⟩ => ?_)
  cases c with
  | true => exact ⟨H1, I1, q1⟩
  | false => exact hb wh pins s1 σ H1 Q I1 q1
theorem pt_not (ha : PT X a tA) : PT X (.UnaryOp .Not a pos) (tNot tA) := by
  intro pins s σ H Q I h
  exact isTrue_not (ha pins s σ H (fun c H1 => Q (!c) H1) I h)
noncomputable def tAndV (ta tb : TE) : TE := fun σ H Q => ta σ H fun x H1 => ∃ c, x = .bl c ∧ if c = true then tb σ H1 Q else Q (.bl false) H1
noncomputable def tNotV (ta : TE) : TE := fun σ H Q => ta σ H fun x H1 => ∃ c, x = .bl c ∧ Q (.bl (!c)) H1
theorem pe_one {op} {t : TE} (h : PE X a t) : PE X (.BoolOp op [a] pos) t := fun pins s σ H Q I hw => BoolOp_one (h pins s σ H Q I hw)
theorem pe_and (ha : PE X a ta) (hb : PE X (.BoolOp .And (b :: rest) pos) tb) : PE X (.BoolOp .And (a :: b :: rest) pos) (tAndV ta tb) := by
  intro pins s σ H Q I h
  refine BoolOp_and (thn (ha pins s σ H _ I h) fun v s1 ⟨x, H1, I1, r1, q1⟩ => ?_)
  obtain ⟨c, rfl, q1⟩ := q1
  cases r1
  refine wpAny_truthy_bool ?_
  cases c with
  | true => exact hb pins s1 σ H1 Q I1 q1
  | false => exact ⟨.bl false, H1, I1, rfl, q1⟩
theorem pe_not (ha : PE X a ta) : PE X (.UnaryOp .Not a pos) (tNotV ta) := by
  intro pins s σ H Q I h
  refine UnaryOp_ (thn (ha pins s σ H _ I h) fun v s1 ⟨x, H1, I1, r1, q1⟩ => ?_)
  obtain ⟨c, rfl, q1⟩ := q1
  cases r1
  exact not_of (wpAny_truthy_bool ⟨.bl (!c), H1, I1, rfl, q1⟩)
end
end L2
namespace L2
open PySem PySem.Spec PyProof.Rows
noncomputable def SqL (K : PySem.W.Frag) (H : Hp) (a : Addr) (xs : List V) : Prop :=
  Rd H a (.lst xs) ∨
    ∃ (o : Obj) (its : Array Value) (n : Nat), K.lookup a = some o ∧ o.cls = .type "list" ∧ o.dict = none ∧ o.data = .seq its n ∧ its.size ≤ sizeLine ∧ Vals xs its.toList
noncomputable def SqT (K : PySem.W.Frag) (H : Hp) (a : Addr) (xs : List V) : Prop :=
  Rd H a (.tup xs) ∨
    ∃ (o : Obj) (its : Array Value) (n : Nat), K.lookup a = some o ∧ o.cls = .type "tuple" ∧ o.dict = none ∧ o.data = .seq its n ∧ its.size ≤ sizeLine ∧ Vals xs its.toList
noncomputable def absV : Value → Option V
  | .none => some .non
  | .bool b => some (.bl b)
  | .int i _ => some (.int i)
  | .str x _ => some (.str x)
  | .bytes b _ => some (.byt b)
  | .float b _ => some (.flt b)
  | .ref a => some (.ref a)
  | .type n => some (.ty n)
  | _ => none
theorem RelV.abs {x : V} {u : Value} (r : RelV x u) : absV u = some x := by
  cases x with
  | non => cases r; rfl
  | bl _ => cases r; rfl
  | int _ => obtain ⟨t, rfl⟩ := r; rfl
  | str _ => obtain ⟨t, rfl⟩ := r; rfl
  | byt _ => obtain ⟨t, rfl⟩ := r; rfl
  | flt _ => obtain ⟨t, rfl⟩ := r; rfl
  | ref _ => cases r; rfl
  | ty _ => cases r; rfl
theorem RelV.inj {x y : V} {u : Value} (r : RelV x u) (q : RelV y u) : x = y := Option.some.inj (r.abs.symm.trans q.abs)
theorem Vals.inj : ∀ {xs ys : List V} {us : List Value}, Vals xs us → Vals ys us → xs = ys
  | _, _, _, .nil, .nil => rfl
  | _, _, _, .cons r t, .cons r' t' => by rw [r.inj r', Vals.inj t t']
section
variable {X : Cx} {pins : List (Addr × Obj)} {σ : St} {H : Hp} {s : Shared} {a : Addr} {xs ys : List V}
theorem SqL.of {K : PySem.W.Frag} (h : H a = some (.lst xs)) : SqL K H a xs := .inl (.inl h)
theorem SqT.of {K : PySem.W.Frag} (h : H a = some (.tup xs)) : SqT K H a xs := .inl (.inl h)
theorem Inv.list (I : Inv X pins σ H s) (h : SqL X.K H a xs) : ∃ its : List Value, Vals xs its ∧ PlainL s.heap a its.toArray ∧ xs.length ≤ sizeLine := by
  rcases h with h | ⟨o, its, n, hk, hc, hd, hs, hz, r⟩
  · obtain ⟨z, its, n, r, e⟩ := h.ok I.hok
    exact ⟨its, r, ⟨_, n, e, rfl, rfl, rfl⟩, z⟩
  · refine ⟨its.toList, r, ⟨o, n, I.kIn a o hk, hc, hd, by simpa using hs⟩, ?_⟩
    have e := r.length
    simp only [Array.length_toList] at e
    omega
theorem Inv.tuple (I : Inv X pins σ H s) (h : SqT X.K H a xs) : ∃ its : List Value, Vals xs its ∧ IsTup s.heap a its.toArray ∧ xs.length ≤ sizeLine := by
  rcases h with h | ⟨o, its, n, hk, hc, _, hs, hz, r⟩
  · obtain ⟨z, its, r, p⟩ := h.ok I.hok
    exact ⟨its, r, p.tup, z⟩
  · refine ⟨its.toList, r, ⟨o, I.kIn a o hk, hc, n, by simpa using hs⟩, ?_⟩
    have e := r.length
    simp only [Array.length_toList] at e
    omega
theorem Inv.list_inj (I : Inv X pins σ H s) (h : SqL X.K H a xs) (h' : SqL X.K H a ys) : xs = ys := by
  obtain ⟨its, r, ⟨o, n, e, _, _, d⟩, _⟩ := I.list h
  obtain ⟨its', r', ⟨o', n', e', _, _, d'⟩, _⟩ := I.list h'
  rw [e] at e'; cases e'
  rw [d] at d'
  injection d' with d1 _
  have : its = its' := by simpa using congrArg Array.toList d1
  subst this
  exact r.inj r'
theorem Inv.tuple_inj (I : Inv X pins σ H s) (h : SqT X.K H a xs) (h' : SqT X.K H a ys) : xs = ys := by
  obtain ⟨its, r, ⟨o, e, _, n, d⟩, _⟩ := I.tuple h
  obtain ⟨its', r', ⟨o', e', _, n', d'⟩, _⟩ := I.tuple h'
  rw [e] at e'; cases e'
  rw [d] at d'
  injection d' with d1 _
  have : its = its' := by simpa using congrArg Array.toList d1
  subst this
  exact r.inj r'
end
noncomputable abbrev Cx.wish (X : Cx) (E : Value → Shared → Prop) : Cx := { X with xe := E }
noncomputable abbrev Cx.nox (X : Cx) : Cx := X.wish fun _ _ => False
theorem Cx.Ok.wish {X : Cx} (ok : X.Ok) (E : Value → Shared → Prop) : (X.wish E).Ok :=
  ⟨ok.mod, ok.kind, ok.glob, ok.blt, ok.above, ok.inj, ok.has, ok.cab, ok.hd, ok.frames, ok.stk, ok.exf, ok.bs, ok.bsz, ok.noex, ok.exfs, ok.funs, ok.frf⟩
theorem Cx.Ok.unwish {X : Cx} {E : Value → Shared → Prop} (ok : (X.wish E).Ok) : X.Ok :=
  ⟨ok.mod, ok.kind, ok.glob, ok.blt, ok.above, ok.inj, ok.has, ok.cab, ok.hd, ok.frames, ok.stk, ok.exf, ok.bs, ok.bsz, ok.noex, ok.exfs, ok.funs, ok.frf⟩
section
variable {X : Cx} {pins : List (Addr × Obj)} {σ : St} {H : Hp} {s : Shared} {E : Value → Shared → Prop}
theorem Inv.wish (I : Inv X pins σ H s) (E : Value → Shared → Prop) : Inv (X.wish E) pins σ H s := ⟨I.ok.wish E, I.os, I.bare, I.base, I.loc, I.cell, I.free, I.freeC, I.pin, I.hok, I.len⟩
theorem Inv.unwish (I : Inv (X.wish E) pins σ H s) : Inv X pins σ H s := ⟨I.ok.unwish, I.os, I.bare, I.base, I.loc, I.cell, I.free, I.freeC, I.pin, I.hok, I.len⟩
theorem SP.unwish {D : Ends} {f : Flow} {s' : Shared} (h : SP (X.wish E) pins D f s') : SP X pins D f s' := by
  cases f with
  | next => obtain ⟨σ', H', I, q⟩ := h; exact ⟨σ', H', I.unwish, q⟩
  | brk => obtain ⟨σ', H', I, q⟩ := h; exact ⟨σ', H', I.unwish, q⟩
  | cont => obtain ⟨σ', H', I, q⟩ := h; exact ⟨σ', H', I.unwish, q⟩
  | ret u => obtain ⟨v, σ', H', I, r, q⟩ := h; exact ⟨v, σ', H', I.unwish, r, q⟩
theorem PE.nox {e : Expr} {t : TE} (h : PE X.nox e t) : PE X e t := fun pins s σ H Q I hw =>
  wpAny_mono (h pins s σ H Q (I.wish _) hw) (fun _ _ ⟨v, H', I', r, q⟩ => ⟨v, H', I'.unwish, r, q⟩) fun _ _ z => False.elim z
theorem PT.nox {e : Expr} {t : TT} (h : PT X.nox e t) : PT X e t := fun pins s σ H Q I hw =>
  wpAny_mono (h pins s σ H Q (I.wish _) hw) (fun _ _ ⟨H', I', q⟩ => ⟨H', I'.unwish, q⟩) fun _ _ z => False.elim z
theorem PSs.nox {st : List Stmt} {t : TS} (h : PSs X.nox st t) : PSs X st t := fun pins s σ H D I hw =>
  wpAny_mono (h pins s σ H D (I.wish _) hw) (fun _ _ q => q.unwish) fun _ _ z => False.elim z
end
section
variable {X : Cx} {st : Stmt} {rest : List Stmt} {t u : TS} {e : Expr} {te : TE} {pos : Pos}
noncomputable def tNext : TS := fun D σ H => D.nx σ H
noncomputable def tSeq (t u : TS) : TS := fun D σ H => t { D with nx := u D } σ H
theorem pss_nil : PSs X [] tNext := fun _ _ σ H _ I h => wpAny_execs_nil ⟨σ, H, I, h⟩
theorem pss_cons (h1 : PS X st t) (h2 : PSs X rest u) : PSs X (st :: rest) (tSeq t u) := by
  intro pins s σ H D I h
  refine wpAny_execs_cons (thn (h1 pins s σ H { D with nx := u D } I h) fun f s1 q => ?_)
  cases f with
  | next =>
    obtain ⟨σ', H', I', q⟩ := q
    exact h2 pins s1 σ' H' D I' q
  | ret v => exact q
  | brk => exact q
  | cont => exact q
theorem Inv.quiet {pins : List (Addr × Obj)} {σ : St} {H : Hp} {s : Shared} (I : Inv X pins σ H s) : interactive X.env = false := by simp [interactive, I.ok.kind]
noncomputable def tDrop (te : TE) : TS := fun D σ H => te σ H fun _ H1 => D.nx σ H1
theorem ps_expr (he : PE X e te) (hs : swapsWith e none pos.line X.env = pure false := by rfl) : PS X (.Expr e pos) (tDrop te) := by
  intro pins s σ H D I h
  exact wpAny_Expr_any (thn (he pins s σ H _ I h) fun v s1 ⟨x, H1, I1, r1, q1⟩ => ⟨σ, H1, I1, q1⟩) I.quiet hs
noncomputable def tRet (te : TE) : TS := fun D σ H => te σ H D.rt
theorem ps_ret (he : PE X e te) : PS X (.Return (some e) pos) (tRet te) := by
  intro pins s σ H D I h
  exact wpAny_Return_some (thn (he pins s σ H _ I h) fun v s1 ⟨x, H1, I1, r1, q1⟩ => ⟨x, σ, H1, I1, r1, q1⟩)
noncomputable def tIfS (c : TT) (t u : TS) : TS := fun D σ H => c σ H fun b H1 => if b = true then t D σ H1 else u D σ H1
theorem ps_if {c : Expr} {a b : List Stmt} {tc : TT} (hc : PT X c tc) (ha : PSs X a t) (hb : PSs X b u) : PS X (.If c a b pos) (tIfS tc t u) := by
  intro pins s σ H D I h
  refine wpAny_If (thn (hc pins s σ H _ I h) fun d s1 ⟨H1, I1, q1⟩ => ?_)
  cases d with
  | true => exact ha pins s1 σ H1 D I1 q1
  | false => exact hb pins s1 σ H1 D I1 q1
end
noncomputable abbrev TG := V → St → Hp → (St → Hp → Prop) → Prop
noncomputable def PG (X : Cx) (target : Expr) (t : TG) : Prop :=
  ∀ (pins : List (Addr × Obj)) (s : Shared) (σ : St) (H : Hp) (v : V) (u : Value) (Q : St → Hp → Prop), Inv X pins σ H s → RelV v u → t v σ H Q →
    wpAny (model X.prog X.w) X.A (assign target X.env u) (fun _ s' => ∃ σ' H', Inv X pins σ' H' s' ∧ Q σ' H') X.xe s
noncomputable abbrev TSet := V → V → V → Hp → (Hp → Prop) → Prop
section
variable {X : Cx} {pos : Pos}
noncomputable def gName (i : Nat) : TG := fun v σ H Q => Q (σ.set i (some v)) H
theorem pg_name {i : Nat} {x : Str} (hN : X.N.Nodup) (hi : X.N[i]? = some x) (hx : Loc X.env.scope x) (hf : X.fn x = true ∨ X.env.scope.names.lookup x = some .local := by first | exact .inl rfl | exact .inr rfl | assumption) : PG X (.Name x pos) (gName i) := by
  intro pins s σ H v u Q I r h
  exact wpAny_assign_Name (store_ok I hN hi hx r (fun s' I' => ⟨_, H, I', h⟩) hf)
noncomputable def gSub (to ti : TE) (t : TSet) : TG := fun v σ H Q => to σ H fun o H1 => ti σ H1 fun i H2 => t o i v H2 fun H3 => Q σ H3
noncomputable def tAsg (te : TE) (g : TG) : TS := fun D σ H => te σ H fun x H1 => g x σ H1 D.nx
theorem ps_set {i : Nat} {x : Str} {e : Expr} {te : TE} {pos' : Pos} (hN : X.N.Nodup) (hi : X.N[i]? = some x) (hx : Loc X.env.scope x) (he : PE X e te) (hs : swapsWith e (some (.Name x pos')) pos.line X.env = pure false := by rfl) (hf : X.fn x = true ∨ X.env.scope.names.lookup x = some .local := by first | exact .inl rfl | exact .inr rfl | assumption) :
    PS X (.Assign [.Name x pos'] e pos) (tAsg te (gName i)) := by
  intro pins s σ H D I h
  refine wpAny_Assign_Name (thn (he pins s σ H _ I h) fun v s1 ⟨y, H1, I1, r1, q1⟩ => ?_) hs
  exact store_ok I1 hN hi hx r1 (fun s2 I2 => ⟨_, H1, I2, q1⟩) hf
end
section
variable {X : Cx} {pos : Pos}
end
structure It where
  go : Nat → Hp → Prop
  yld : Nat → Hp → V → Hp → Prop
  stop : Nat → Hp → Prop
noncomputable def FpOk (X : Cx) (pins : List (Addr × Obj)) (H : Hp) (b : Addr) : Prop :=
  H b = none ∧ b ≠ X.env.locals ∧ b ∉ X.fs ∧ (b ∈ X.ex ∨ X.s₀.heap.objs.size ≤ b) ∧ (∀ x c, X.env.cells.lookup x = some c → c ≠ b) ∧ ∀ p ∈ X.pn ++ pins, p.1 ≠ b
theorem Inv.fpOk {X : Cx} {pins : List (Addr × Obj)} {σ : St} {H H' : Hp} {s : Shared} {b : Addr} (I : Inv X pins σ H s) (hb : s.heap.objs.size ≤ b) (hn : H' b = none) : FpOk X pins H' b := by
  refine ⟨hn, Nat.ne_of_gt (Nat.lt_of_lt_of_le I.lt hb), I.nofs hb, .inr (Nat.le_trans I.sz hb), fun x c e z => ?_, fun p hp z => ?_⟩
  · obtain ⟨v, q⟩ := I.cell x c e
    exact absurd (Nat.lt_of_lt_of_le q.lt (by rw [z]; exact hb)) (Nat.lt_irrefl _)
  · exact absurd (Nat.lt_of_lt_of_le (Heap.lt_size (I.pin p hp).1) (by rw [z]; exact hb)) (Nat.lt_irrefl _)
structure Turn (P : Program) (w : World) (K : PySem.W.Frag) (tg : Expr) (J : It) (fp : List Addr) (it : Addr) (tn : Nat → Heap → Prop) : Prop where
  mem : it ∈ fp
  obj : ∀ i h, tn i h → ∀ b ∈ fp, ∃ o, h.get? b = some o ∧ ∀ v, o.data ≠ .cell v
  keep : ∀ i h h', tn i h → (∀ b ∈ fp, ∀ o, h.get? b = some o → h'.get? b = some o) → tn i h'
  item : ∀ (X : Cx), X.prog = P → X.w = w → X.K = K → X.calm = true → ∀ (i : Nat) (pins : List (Addr × Obj)) (s : Shared) (σ : St) (H : Hp) (E : Value → Shared → Prop), Inv X pins σ H s → (∀ b ∈ fp, FpOk X pins H b) → tn i s.heap → J.go i H →
    wpAny (model P w) X.A (pyNext (.ref it)) (fun r s1 => ∃ u, r = some u ∧
      wpAny (model P w) X.A (letOwnedTupleGo tg (.ref it) u) (fun _ s2 => ∃ x H', Inv X pins σ H' s2 ∧ RelV x u ∧ J.yld i H x H' ∧ tn (i + 1) s2.heap ∧ ∀ b ∈ fp, H' b = none) E s1) E s
  done : ∀ (X : Cx), X.prog = P → X.w = w → X.K = K → X.calm = true → ∀ (i : Nat) (pins : List (Addr × Obj)) (s : Shared) (σ : St) (H : Hp) (E : Value → Shared → Prop), Inv X pins σ H s → (∀ b ∈ fp, FpOk X pins H b) → tn i s.heap → J.stop i H →
    wpAny (model P w) X.A (pyNext (.ref it)) (fun r s1 => r = none ∧ Inv X pins σ H s1) E s
  self : ∀ (A : Around) (i : Nat) (s : Shared) (Q : Value → Shared → Prop) (E : Value → Shared → Prop), tn i s.heap → Q (.ref it) s → wpAny (model P w) A (pyIter (.ref it)) Q E s
noncomputable abbrev TI := St → Hp → (It → Hp → Prop) → Prop
noncomputable def PIE (X : Cx) (pins : List (Addr × Obj)) (σ : St) (tg : Expr) (R : It → Hp → Prop) (itv : Value) (s2 : Shared) : Prop :=
  ∃ (it : Addr) (fp : List Addr) (tn : Nat → Heap → Prop) (J : It) (H' : Hp), itv = .ref it ∧ Inv X pins σ H' s2 ∧ Turn X.prog X.w X.K tg J fp it tn ∧ tn 0 s2.heap ∧ (∀ b ∈ fp, FpOk X pins H' b) ∧ R J H'
noncomputable def PI (X : Cx) (tg iter : Expr) (wi : TI) : Prop :=
  ∀ (pins : List (Addr × Obj)) (s : Shared) (σ : St) (H : Hp) (R : It → Hp → Prop), Inv X pins σ H s → wi σ H R →
    wpAny (model X.prog X.w) X.A (eval iter X.env) (fun v s1 => wpAny (model X.prog X.w) X.A (pyIter v) (PIE X pins σ tg R) X.xe s1) X.xe s
theorem go_of {M : Model} {A : Around} {E : Value → Shared → Prop} {s : Shared} {tg : Expr} {it : Addr} {u : Value} {o : Obj} {n : String} {vs : Array Value} {Q : Unit → Shared → Prop} (ho : s.heap.get? it = some o) (hc : o.cls = .type n) (hd : o.data = .fields vs)
    (hn : ["enumerate", "zip", "dict_itemiterator", "dict_reverseitemiterator", "odict_iterator", "itertools.zip_longest", "itertools.pairwise"].contains n = false) (hQ : Q () s) : wpAny M A (letOwnedTupleGo tg (.ref it) u) Q E s := by
  unfold letOwnedTupleGo
  cases tg <;> first
    | exact wpAny_pure hQ
    | (cases u <;> first
        | exact wpAny_pure hQ
        | (refine wpAny_bind (wpAny_load ho ?_)
           rw [hc, hd]
           show wpAny M A (if (["enumerate", "zip", "dict_itemiterator", "dict_reverseitemiterator", "odict_iterator", "itertools.zip_longest", "itertools.pairwise"].contains n && vs[0]? == some (rawInt _)) = true then _ else _) Q E s
           rw [if_neg (by intro h; rw [hn, Bool.false_and] at h; cases h)]
           exact wpAny_pure hQ))
noncomputable def Itl (K : PySem.W.Frag) (a : Addr) : It :=
  ⟨fun i H => ∃ xs x, SqL K H a xs ∧ xs[i]? = some x, fun i H x H' => H' = H ∧ ∀ xs, SqL K H a xs → xs[i]? = some x, fun i H => ∃ xs, SqL K H a xs ∧ xs.length ≤ i⟩
noncomputable def Itt (K : PySem.W.Frag) (a : Addr) : It :=
  ⟨fun i H => ∃ xs x, SqT K H a xs ∧ xs[i]? = some x, fun i H x H' => H' = H ∧ ∀ xs, SqT K H a xs → xs[i]? = some x, fun i H => ∃ xs, SqT K H a xs ∧ xs.length ≤ i⟩
noncomputable def Itr (lo : Int) (n : Nat) : It := ⟨fun i _ => i < n, fun i H x H' => H' = H ∧ x = .int (lo + i), fun i _ => n ≤ i⟩
theorem turn_list {P : Program} {w : World} {K : PySem.W.Frag} {tg : Expr} (a it : Addr) : Turn P w K tg (Itl K a) [it] it (fun i h => h.IsListIter it a i) where
  mem := by simp
  obj := fun i h st b hb => by
    have e : b = it := by simpa using hb
    subst e
    obtain ⟨o, e, c, d⟩ := st
    exact ⟨o, e, fun v z => by rw [d] at z; cases z⟩
  keep := fun i h h' st k => st.at fun o e => k it (by simp) o e
  item := by
    intro X hP hw hK hc i pins s σ H E I hf st hg
    subst hP hw hK
    obtain ⟨xs, x, hq, hx⟩ := hg
    obtain ⟨its, rv, p, hz⟩ := I.list hq
    obtain ⟨u, hu, ru⟩ := rv.get hx
    obtain ⟨f0, f1, f2, f3, f4, f5⟩ := hf it (by simp)
    refine wpAny_pyNext_list_item st p.isList (x := u) (by simpa using hu) fun h' st' sb => ?_
    have I1 : Inv X pins σ H { s with heap := h' } := I.turned (t' := s.toks) (fun b o hb e => (sb.2 b hb).trans e) f0 f1 f3 f4 f5
    obtain ⟨o, e, c, d⟩ := id st'
    exact ⟨u, rfl, go_of (s := { s with heap := h' }) e c d (by decide) ⟨x, H, I1, ru, ⟨rfl, fun ys hy => by rw [I.list_inj hy hq]; exact hx⟩, st', fun b hb => (hf b hb).1⟩⟩
  done := by
    intro X hP hw hK hc i pins s σ H E I hf st hg
    subst hP hw hK
    obtain ⟨xs, hq, hx⟩ := hg
    obtain ⟨its, rv, p, hz⟩ := I.list hq
    obtain ⟨f0, f1, f2, f3, f4, f5⟩ := hf it (by simp)
    have hl := rv.length
    exact wpAny_pyNext_list_end (I.ok.hd hc) st p.isList (by simp; omega) fun h' eb => ⟨rfl, I.turned (t' := s.toks) (fun b o hb e => eb b o hb e) f0 f1 f3 f4 f5⟩
  self := fun _ _ _ _ _ st h => wpAny_pyIter_listiter st h
theorem turn_tuple {P : Program} {w : World} {K : PySem.W.Frag} {tg : Expr} (a it : Addr) : Turn P w K tg (Itt K a) [it] it (fun i h => h.IsTupleIter it a i) where
  mem := by simp
  obj := fun i h st b hb => by
    have e : b = it := by simpa using hb
    subst e
    obtain ⟨o, e, c, d⟩ := st
    exact ⟨o, e, fun v z => by rw [d] at z; cases z⟩
  keep := fun i h h' st k => st.at fun o e => k it (by simp) o e
  item := by
    intro X hP hw hK hc i pins s σ H E I hf st hg
    subst hP hw hK
    obtain ⟨xs, x, hq, hx⟩ := hg
    obtain ⟨its, rv, p, hz⟩ := I.tuple hq
    obtain ⟨u, hu, ru⟩ := rv.get hx
    obtain ⟨f0, f1, f2, f3, f4, f5⟩ := hf it (by simp)
    refine wpAny_pyNext_tuple_item st (show s.heap.IsTuple a its.toArray from p) (x := u) (by simpa using hu) fun h' st' sb => ?_
    have I1 : Inv X pins σ H { s with heap := h' } := I.turned (t' := s.toks) (fun b o hb e => (sb.2 b hb).trans e) f0 f1 f3 f4 f5
    obtain ⟨o, e, c, d⟩ := id st'
    exact ⟨u, rfl, go_of (s := { s with heap := h' }) e c d (by decide) ⟨x, H, I1, ru, ⟨rfl, fun ys hy => by rw [I.tuple_inj hy hq]; exact hx⟩, st', fun b hb => (hf b hb).1⟩⟩
  done := by
    intro X hP hw hK hc i pins s σ H E I hf st hg
    subst hP hw hK
    obtain ⟨xs, hq, hx⟩ := hg
    obtain ⟨its, rv, p, hz⟩ := I.tuple hq
    obtain ⟨f0, f1, f2, f3, f4, f5⟩ := hf it (by simp)
    have hl := rv.length
    exact wpAny_pyNext_tuple_end (I.ok.hd hc) st (show s.heap.IsTuple a its.toArray from p) (by simp; omega) fun h' eb => ⟨rfl, I.turned (t' := s.toks) (fun b o hb e => eb b o hb e) f0 f1 f3 f4 f5⟩
  self := fun _ _ _ _ _ st h => wpAny_pyIter_tupleiter st h
theorem turn_range {P : Program} {w : World} {K : PySem.W.Frag} {tg : Expr} (it : Addr) (lo : Int) (n : Nat) : Turn P w K tg (Itr lo n) [it] it (fun i h => IsRangeIter h it (lo + (i : Nat) * 1) ((n : Int) - (i : Nat)) 1) where
  mem := by simp
  obj := fun i h st b hb => by
    have e : b = it := by simpa using hb
    subst e
    exact ⟨_, st, fun v z => by
      have z' : Data.fields _ = Data.cell v := z
      cases z'⟩
  keep := fun i h h' st k => k it (by simp) _ st
  item := by
    intro X hP hw hK hc i pins s σ H E I hf st hg
    subst hP hw hK
    obtain ⟨f0, f1, f2, f3, f4, f5⟩ := hf it (by simp)
    have W := Walks.range (prog := X.prog) (w := X.w) (I.ok.hd hc) it lo 1 n
    refine W.item i s _ _ hg st fun v h' tk hv st' kk => ?_
    obtain ⟨t, rfl⟩ := hv
    have I1 : Inv X pins σ H { s with heap := h', toks := tk } := I.turned (fun b o hb e => kk b o (by simpa using hb) e) f0 f1 f3 f4 f5
    refine ⟨_, rfl, go_of (s := { s with heap := h', toks := tk }) (n := "range_iterator") st' rfl rfl (by decide) ⟨.int (lo + i), H, I1, ⟨t, ?_⟩, ⟨rfl, rfl⟩, st', fun b hb => (hf b hb).1⟩⟩
    rw [Int.mul_one]
  done := by
    intro X hP hw hK hc i pins s σ H E I hf st hg
    subst hP hw hK
    obtain ⟨f0, f1, f2, f3, f4, f5⟩ := hf it (by simp)
    exact wpAny_pyNext_range_end (I.ok.hd hc) st (by have : n ≤ i := hg; omega) fun h' eb => ⟨rfl, I.turned (t' := s.toks) (fun b o hb e => eb b o hb e) f0 f1 f3 f4 f5⟩
  self := fun _ _ _ _ _ st h => wpAny_pyIter_rangeiter st h
end L2
namespace L2
open PySem PySem.Spec PyProof.Rows
section
variable {X : Cx} {tg : Expr}
theorem range_it {pins : List (Addr × Obj)} {σ : St} {H : Hp} {s : Shared} {R : It → Hp → Prop} {E : Value → Shared → Prop} {lo hi : Int} {t u v : Tok} {tk : Nat} (I : Inv X pins σ H s) (h1 : -(2 ^ 62) ≤ lo) (h2 : lo < 2 ^ 62) (h3 : -(2 ^ 62) ≤ hi) (h4 : hi < 2 ^ 62)
    (q : R (Itr lo (hi - lo).toNat) H) : wpAny (model X.prog X.w) X.A (pyIter (.ref s.heap.objs.size)) (PIE X pins σ tg R) E { s with heap := s.heap.push { cls := .type "range", data := .fields #[.int lo t, .int hi u, .int 1 v] }, toks := tk } := by
  refine wpAny_pyIter_range (IsRange.new ..) (small_one h1 h2 h3 h4) ?_
  have I1 : Inv X pins σ H { s with heap := s.heap.push { cls := .type "range", data := .fields #[.int lo t, .int hi u, .int 1 v] }, toks := tk } := I.kept fun b o e => Heap.get?_push_of_some _ e
  refine ⟨(s.heap.push { cls := .type "range", data := .fields #[.int lo t, .int hi u, .int 1 v] }).objs.size, [(s.heap.push { cls := .type "range", data := .fields #[.int lo t, .int hi u, .int 1 v] }).objs.size], _, _, H, rfl,
    I1.kept (t' := tk) fun b o e => Heap.get?_push_of_some _ e, turn_range _ lo (hi - lo).toNat, ?_, fun b hb => ?_, q⟩
  · have e1 : lo + ((0 : Nat) : Int) * 1 = lo := by simp
    have e2 : (((hi - lo).toNat : Nat) : Int) - ((0 : Nat) : Int) = Builtin.Range.rangeSize lo hi 1 := by rw [rangeSize_one]; split <;> omega
    show IsRangeIter _ _ (lo + ((0 : Nat) : Int) * 1) ((((hi - lo).toNat : Nat) : Int) - ((0 : Nat) : Int)) 1
    rw [e1, e2]
    exact Heap.get?_push_size _ rfl
  · have e : b = (s.heap.push { cls := .type "range", data := .fields #[.int lo t, .int hi u, .int 1 v] }).objs.size := by simpa using hb
    subst e
    exact I1.fpOk (Nat.le_refl _) (I1.hok.fresh (Nat.le_refl _))
noncomputable def iRng1 (ta : TA) : TI := fun σ H R => ta σ H fun vs H1 => ∃ j : Int, vs = [.int j] ∧ -(2 ^ 62) ≤ j ∧ j < 2 ^ 62 ∧ R (Itr 0 j.toNat) H1
theorem pi_range1 {a : Expr} {ta : TA} {p pos : Pos} (hg : Gl X "range") (hm : X.mg "range" = none) (ha : PA X [a] ta) (hs : starEach [a] X.env = [(false, eval a X.env)] := by rfl) : PI X tg (.Call (.Name "range" p) [a] [] pos) (iRng1 ta) := by
  intro pins s σ H R I h
  refine Call_ (ld_blt I hg hm boot_range (PyProof.Rows.callWith_type1 (thn (ha pos pins s σ H _ I h) fun us s1 ⟨vs, H1, I1, r1, q1⟩ => ?_) hs rfl))
  obtain ⟨j, e, q1, q2, q⟩ := q1
  subst e
  cases r1 with
  | cons r rr =>
    cases rr
    obtain ⟨t, rfl⟩ := r
    exact call_range_1 (range_it I1 (by omega) (by omega) q1 q2 (by simpa using q))
noncomputable def tFor (wi : TI) (g : TG) (tb : TS) : TS := fun D σ H => wi σ H fun J H1 => ∃ W : Nat → Nat → St → Hp → Prop, (∃ m, W 0 m σ H1) ∧ ∀ i m σ H, W i m σ H →
  (J.stop i H ∧ D.nx σ H) ∨ (J.go i H ∧ ∃ N : St → Hp → Prop, (∀ σ' H', N σ' H' → ∃ m', m' < m ∧ W (i + 1) m' σ' H') ∧ ∀ x H', J.yld i H x H' → g x σ H' fun σ2 H2 => tb { D with nx := N, ct := N, bk := D.nx } σ2 H2)
noncomputable def pinsAt (fp : List Addr) (h : Heap) : List (Addr × Obj) := fp.filterMap fun b => (h.get? b).map fun o => (b, o)
theorem mem_pinsAt {fp : List Addr} {h : Heap} {b : Addr} {o : Obj} (hb : b ∈ fp) (e : h.get? b = some o) : (b, o) ∈ pinsAt fp h := List.mem_filterMap.mpr ⟨b, hb, by rw [e]; rfl⟩
theorem of_pinsAt {fp : List Addr} {h : Heap} {p : Addr × Obj} (hp : p ∈ pinsAt fp h) : p.1 ∈ fp ∧ h.get? p.1 = some p.2 := by
  obtain ⟨b, hb, e⟩ := List.mem_filterMap.mp hp
  cases q : h.get? b with
  | none => rw [q] at e; cases e
  | some o =>
    rw [q] at e
    have e' : (b, o) = p := Option.some.inj e
    subst e'
    exact ⟨hb, q⟩
theorem Inv.pinned {pins : List (Addr × Obj)} {σ : St} {H : Hp} {s : Shared} {fp : List Addr} (I : Inv X pins σ H s) (hf : ∀ b ∈ fp, FpOk X pins H b) (ho : ∀ b ∈ fp, ∃ o, s.heap.get? b = some o ∧ ∀ v, o.data ≠ .cell v) : Inv X (pins ++ pinsAt fp s.heap) σ H s :=
  I.pins_of fun p hp => (List.mem_append.mp hp).elim (fun z => I.pin p (List.mem_append_right _ z)) fun z => by
    obtain ⟨hb, e⟩ := of_pinsAt z
    obtain ⟨f0, f1, f2, _⟩ := hf p.1 hb
    obtain ⟨o, e', d⟩ := ho p.1 hb
    rw [e] at e'; cases e'
    exact ⟨e, f0, f1, f2, d⟩
theorem Inv.unpinned {pins pl : List (Addr × Obj)} {σ : St} {H : Hp} {s : Shared} (I : Inv X (pins ++ pl) σ H s) : Inv X pins σ H s := I.pins_of fun p hp => I.pin p (List.mem_append_right _ (List.mem_append_left _ hp))
theorem ps_for {iter : Expr} {body : List Stmt} {wi : TI} {g : TG} {tb : TS} {pos : Pos} (hp : PassesOwn (model X.prog X.w) X.A X.env X.xe) (hc : X.calm = true) (hi : PI X tg iter wi) (hg : PG X tg g) (hb : PSs X body tb)
    (hs : ∀ x, foldedSetIterable iter X.env x = pure x := by intro _; rfl) : PS X (.For tg iter body [] pos) (tFor wi g tb) := by
  intro pins s σ H D I h
  refine wpAny_For (thn (hi pins s σ H _ I h) fun v s1 h1 => thn h1 fun itv s2 h2 => ?_) hs
  obtain ⟨it, fp, tn, J, H2, e, I2, T, st2, f2, W, ⟨m0, w0⟩, turn⟩ := h2
  subst e
  have stat : ∀ {H' : Hp}, (∀ b ∈ fp, H' b = none) → ∀ b ∈ fp, FpOk X pins H' b := fun hn b hb => ⟨hn b hb, (f2 b hb).2⟩
  refine codeAny_forLoop_any (fun n s' => ∃ i σ' H', Inv X pins σ' H' s' ∧ tn i s'.heap ∧ (∀ b ∈ fp, H' b = none) ∧ W i n σ' H') ?_ m0 ⟨0, σ, H2, I2, st2, fun b hb => (f2 b hb).1, w0⟩
  rintro n s3 ⟨i, σ3, H3, I3, st3, fr3, w3⟩
  rcases turn i n σ3 H3 w3 with ⟨stop, qn⟩ | ⟨go, N, hN, step⟩
  · refine wpAny_passesOwn hp (thn (T.done X rfl rfl rfl hc i pins s3 σ3 H3 X.xe I3 (stat fr3) st3 stop) fun r s4 ⟨hr, I4⟩ => ?_)
    subst hr
    exact wpAny_execs_nil ⟨σ3, H3, I4, qn⟩
  · refine wpAny_passesOwn hp (thn (T.item X rfl rfl rfl hc i pins s3 σ3 H3 X.xe I3 (stat fr3) st3 go) fun r s4 ⟨u, hr, h4⟩ => ?_)
    subst hr
    refine wpAny_passesOwn hp (thn h4 fun _ s5 ⟨x, H5, I5, r5, y5, st5, fr5⟩ => ?_)
    have I5' := I5.pinned (stat fr5) (T.obj _ _ st5)
    refine wpAny_passesOwn hp (thn (hg _ s5 σ3 H5 x u _ I5' r5 (step x H5 y5)) fun _ s6 ⟨σ6, H6, I6, q6⟩ => ?_)
    refine wpAny_passesOwn hp (thn (hb _ s6 σ6 H6 _ I6 q6) fun f s7 q7 => ?_)
    have again : ∀ {σ7 : St} {H7 : Hp}, Inv X (pins ++ pinsAt fp s5.heap) σ7 H7 s7 → N σ7 H7 → ∃ m, m < n ∧ ∃ i σ' H', Inv X pins σ' H' s7 ∧ tn i s7.heap ∧ (∀ b ∈ fp, H' b = none) ∧ W i m σ' H' := fun {σ7 H7} I7 n7 => by
      obtain ⟨m', hm, w7⟩ := hN σ7 H7 n7
      refine ⟨m', hm, i + 1, σ7, H7, I7.unpinned, T.keep _ _ _ st5 fun b hb o e => (I7.pin (b, o) (List.mem_append_right _ (List.mem_append_right _ (mem_pinsAt hb e)))).1, fun b hb => ?_, w7⟩
      obtain ⟨o, e, d⟩ := T.obj _ _ st5 b hb
      exact (I7.pin (b, o) (List.mem_append_right _ (List.mem_append_right _ (mem_pinsAt hb e)))).2.1
    cases f with
    | next => obtain ⟨σ7, H7, I7, n7⟩ := q7; exact again I7 n7
    | cont => obtain ⟨σ7, H7, I7, n7⟩ := q7; exact again I7 n7
    | brk => obtain ⟨σ7, H7, I7, q7⟩ := q7; exact ⟨σ7, H7, I7.unpinned, q7⟩
    | ret v => obtain ⟨x7, σ7, H7, I7, r7, q7⟩ := q7; exact ⟨x7, σ7, H7, I7.unpinned, r7, q7⟩
end
end L2
namespace L2
open PySem PySem.Spec PyProof.Rows
noncomputable abbrev R2 := V → V → Hp → VK → Prop
noncomputable def OpR (X : Cx) (f : Value → Value → Sem Value) (r : R2) : Prop :=
  ∀ (pins : List (Addr × Obj)) (s : Shared) (σ : St) (H : Hp) (x y : V) (v u : Value) (Q : VK), Inv X pins σ H s → RelV x v → RelV y u → r x y H Q →
    wpAny (model X.prog X.w) X.A (f v u) (EP X pins σ Q) X.xe s
noncomputable def CallR (X : Cx) (f : Value) (r : List V → Hp → VK → Prop) : Prop :=
  ∀ (pins : List (Addr × Obj)) (s : Shared) (σ : St) (H : Hp) (xs : List V) (us : List Value) (Q : VK), Inv X pins σ H s → Vals xs us → r xs H Q →
    wpAny (model X.prog X.w) X.A (call f us) (EP X pins σ Q) X.xe s
noncomputable def TruR (X : Cx) (r : V → Hp → (Bool → Hp → Prop) → Prop) : Prop :=
  ∀ (pins : List (Addr × Obj)) (s : Shared) (σ : St) (H : Hp) (x : V) (v : Value) (Q : Bool → Hp → Prop), Inv X pins σ H s → RelV x v → r x H Q →
    wpAny (model X.prog X.w) X.A (truthy v) (TP X pins σ Q) X.xe s
noncomputable def tOp (r : R2) (ta tb : TE) : TE := fun σ H Q => ta σ H fun x H1 => tb σ H1 fun y H2 => r x y H2 Q
noncomputable def rI (C : Int → Int → Prop) (g : Int → Int → V) : R2 := fun x y H Q => ∃ i j, x = .int i ∧ y = .int j ∧ C i j ∧ Q (g i j) H
noncomputable def rI0 (g : Int → Int → V) : R2 := fun x y H Q => ∃ i j, x = .int i ∧ y = .int j ∧ Q (g i j) H
section
variable {X : Cx} {a b c : Expr} {ta tb tc : TE} {pos : Pos}
theorem binT (ha : PE X a ta) (hb : PE X b tb) {pins : List (Addr × Obj)} {s : Shared} {σ : St} {H : Hp} {R : V → V → Hp → Prop} (I : Inv X pins σ H s)
    (h : ta σ H fun x H1 => tb σ H1 fun y H2 => R x y H2) {Q : Value → Shared → Prop} {f : Value → Value → Sem Value}
    (hf : ∀ v u s2 x y H2, Inv X pins σ H2 s2 → RelV x v → RelV y u → R x y H2 → wpAny (model X.prog X.w) X.A (f v u) Q X.xe s2) :
    wpAny (model X.prog X.w) X.A (eval a X.env) (fun v s₁ => wpAny (model X.prog X.w) X.A (eval b X.env) (fun u s₂ => wpAny (model X.prog X.w) X.A (f v u) Q X.xe s₂) X.xe s₁) X.xe s := by
  refine thn (ha pins s σ H _ I h) fun v s1 ⟨x, H1, I1, r1, q1⟩ => ?_
  refine thn (hb pins s1 σ H1 _ I1 q1) fun u s2 ⟨y, H2, I2, r2, q2⟩ => ?_
  exact hf v u s2 x y H2 I2 r1 r2 q2
theorem pe_op {op : Operator} {r : R2} (ho : OpR X (binaryOp op) r) (ha : PE X a ta) (hb : PE X b tb) : PE X (.BinOp a op b pos) (tOp r ta tb) := by
  intro pins s σ H Q I h
  exact wpAny_BinOp (binT ha hb I h fun v u s2 x y H2 I2 rx ry q => ho pins s2 σ H2 x y v u Q I2 rx ry q)
theorem opI {f : Value → Value → Sem Value} {C : Int → Int → Prop} {g : Int → Int → Int}
    (rule : ∀ (i j : Int) (t u : Tok) (s : Shared) (Q : Value → Shared → Prop) (E : Value → Shared → Prop), C i j → Q (.int (g i j) s.toks) { s with toks := s.toks + 1 } → wpAny (model X.prog X.w) X.A (f (.int i t) (.int j u)) Q E s) :
    OpR X f (rI C fun i j => .int (g i j)) := by
  intro pins s σ H x y v u Q I rx ry h
  obtain ⟨i, j, rfl, rfl, hc, q⟩ := h
  obtain ⟨t, rfl⟩ := rx
  obtain ⟨t', rfl⟩ := ry
  exact rule i j t t' s _ _ hc ⟨.int (g i j), H, I.tok _, ⟨_, rfl⟩, q⟩
theorem opI0 {f : Value → Value → Sem Value} {g : Int → Int → Int}
    (rule : ∀ (i j : Int) (t u : Tok) (s : Shared) (Q : Value → Shared → Prop) (E : Value → Shared → Prop), Q (.int (g i j) s.toks) { s with toks := s.toks + 1 } → wpAny (model X.prog X.w) X.A (f (.int i t) (.int j u)) Q E s) :
    OpR X f (rI0 fun i j => .int (g i j)) := by
  intro pins s σ H x y v u Q I rx ry h
  obtain ⟨i, j, rfl, rfl, q⟩ := h
  obtain ⟨t, rfl⟩ := rx
  obtain ⟨t', rfl⟩ := ry
  exact rule i j t t' s _ _ ⟨.int (g i j), H, I.tok _, ⟨_, rfl⟩, q⟩
theorem opB0 {f : Value → Value → Sem Value} {g : Int → Int → Bool}
    (rule : ∀ (i j : Int) (t u : Tok) (s : Shared) (Q : Value → Shared → Prop) (E : Value → Shared → Prop), Q (.bool (g i j)) s → wpAny (model X.prog X.w) X.A (f (.int i t) (.int j u)) Q E s) :
    OpR X f (rI0 fun i j => .bl (g i j)) := by
  intro pins s σ H x y v u Q I rx ry h
  obtain ⟨i, j, rfl, rfl, q⟩ := h
  obtain ⟨t, rfl⟩ := rx
  obtain ⟨t', rfl⟩ := ry
  exact rule i j t t' s _ _ ⟨.bl (g i j), H, I, rfl, q⟩
noncomputable def CDiv (i j : Int) : Prop := 0 < j ∧ j < 1073741824
noncomputable def CPow (i j : Int) : Prop := 0 ≤ j ∧ j ≤ 1000000 ∧ i.natAbs < 2 ^ 64
noncomputable def CMul (i j : Int) : Prop := (-(2 ^ 64) < i ∧ i < 2 ^ 64) ∨ (-(2 ^ 64) < j ∧ j < 2 ^ 64)
theorem CMul.ok {i j : Int} (h : CMul i j) : IntMulOk i j := by
  rcases h with ⟨h1, h2⟩ | ⟨h1, h2⟩
  · exact .of_left (intBits_le_64 h1 h2)
  · exact .of_right (intBits_le_64 h1 h2)
theorem op_add : OpR X (binaryOp .Add) (rI0 fun i j => .int (i + j)) := opI0 fun _ _ _ _ _ _ _ q => add_int q
theorem op_sub : OpR X (binaryOp .Sub) (rI0 fun i j => .int (i - j)) := opI0 fun _ _ _ _ _ _ _ q => sub_int q
theorem op_fdiv : OpR X (binaryOp .FloorDiv) (rI CDiv fun i j => .int (i / j)) := opI fun i j _ _ _ _ _ hc q => by
  have h1 : (0 : Int) < j := hc.1
  have h2 : j < 1073741824 := hc.2
  exact floordiv_int (by omega) (by rw [Int.fdiv_eq_ediv_of_nonneg i (by omega)]; exact q) (.inl (PyProof.noPylong_small (by omega)))
theorem op_mod : OpR X (binaryOp .Mod) (rI (fun _ j => 0 < j) fun i j => .int (i % j)) := opI fun i j _ _ _ _ _ hc q => by
  have h1 : (0 : Int) < j := hc
  exact mod_int' (by omega) (by rw [Int.fmod_eq_emod_of_nonneg i (by omega)]; exact q)
theorem op_pow : OpR X (binaryOp .Pow) (rI CPow fun i j => .int (i ^ j.toNat)) := opI fun _ _ _ _ _ _ _ hc q => pow_int_small hc.1 hc.2.1 hc.2.2 q
end
noncomputable def scal : V → V → Bool
  | .non, .non => true | .non, .int _ => true | .int _, .non => true | .non, .bl _ => true | .bl _, .non => true | .non, .str _ => true | .str _, .non => true
  | .int _, .int _ => true | .bl _, .bl _ => true | .str _, .str _ => true | .byt _, .byt _ => true
  | .int _, .str _ => true | .str _, .int _ => true | .bl _, .str _ => true | .str _, .bl _ => true
  | _, _ => false
noncomputable def rEq : R2 := fun x y H Q => scal x y = true ∧ Q (.bl (decide (x = y))) H
noncomputable def rNe : R2 := fun x y H Q => scal x y = true ∧ Q (.bl (!decide (x = y))) H
theorem dec_int {i j : Int} : decide (V.int i = V.int j) = (i == j) := by
  rw [Bool.eq_iff_iff]
  simp
theorem dec_bl {i j : Bool} : decide (V.bl i = V.bl j) = (i == j) := by
  rw [Bool.eq_iff_iff]
  simp
theorem dec_str {i j : Str} : decide (V.str i = V.str j) = (i == j) := by
  rw [Bool.eq_iff_iff]
  simp
theorem dec_byt {i j : Array UInt8} : decide (V.byt i = V.byt j) = (i.toList == j.toList) := by
  rw [Bool.eq_iff_iff]
  cases i
  cases j
  simp
section
variable {X : Cx} {a b c : Expr} {ta tb tc : TE} {pos : Pos}
theorem fin_bl {pins : List (Addr × Obj)} {σ : St} {H : Hp} {s : Shared} {Q : VK} {k k' : Bool} (I : Inv X pins σ H s) (q : Q (.bl k) H) (e : k = k') : EP X pins σ Q (.bool k') s := by
  subst e
  exact ⟨.bl k, H, I, rfl, q⟩
theorem op_eq : OpR X (compareOp .Eq) rEq := by
  intro pins s σ H x y v u Q I rx ry h
  obtain ⟨hs, q⟩ := h
  cases x with
  | non =>
    cases rx
    cases y with
    | non => cases ry; exact PySem.EqNone.eq_none_none (fin_bl I q (by simp))
    | bl j => cases ry; exact PySem.EqNone.eq_none_bool (fin_bl I q (by simp))
    | int j => obtain ⟨t', rfl⟩ := ry; exact PySem.EqNone.eq_none_int (fin_bl I q (by simp))
    | str j => obtain ⟨t', rfl⟩ := ry; exact PySem.EqNone.eq_none_str (fin_bl I q (by simp))
    | _ => exact absurd (show false = true from hs) Bool.false_ne_true
  | bl i =>
    cases rx
    cases y with
    | non => cases ry; exact PySem.EqNone.eq_bool_none (fin_bl I q (by simp))
    | bl j => cases ry; exact eq_bool (fin_bl I q dec_bl)
    | str j => obtain ⟨t', rfl⟩ := ry; exact PySem.EqMixed.eq_bool_str (fin_bl I q (by simp))
    | _ => exact absurd (show false = true from hs) Bool.false_ne_true
  | int i =>
    obtain ⟨t, rfl⟩ := rx
    cases y with
    | non => cases ry; exact PySem.EqNone.eq_int_none (fin_bl I q (by simp))
    | int j => obtain ⟨t', rfl⟩ := ry; exact eq_int (fin_bl I q dec_int)
    | str j => obtain ⟨t', rfl⟩ := ry; exact PySem.EqMixed.eq_int_str (fin_bl I q (by simp))
    | _ => exact absurd (show false = true from hs) Bool.false_ne_true
  | str i =>
    obtain ⟨t, rfl⟩ := rx
    cases y with
    | non => cases ry; exact PySem.EqNone.eq_str_none (fin_bl I q (by simp))
    | bl j => cases ry; exact PySem.EqMixed.eq_str_bool (fin_bl I q (by simp))
    | int j => obtain ⟨t', rfl⟩ := ry; exact PySem.EqMixed.eq_str_int (fin_bl I q (by simp))
    | str j => obtain ⟨t', rfl⟩ := ry; exact eq_str (fin_bl I q dec_str)
    | _ => exact absurd (show false = true from hs) Bool.false_ne_true
  | byt i =>
    obtain ⟨t, rfl⟩ := rx
    cases y with
    | byt j => obtain ⟨t', rfl⟩ := ry; exact PySem.W.eq_bytes (fin_bl I q dec_byt)
    | _ => exact absurd (show false = true from hs) Bool.false_ne_true
  | _ => cases y <;> exact absurd (show false = true from hs) Bool.false_ne_true
theorem op_ne : OpR X (compareOp .NotEq) rNe := by
  intro pins s σ H x y v u Q I rx ry h
  obtain ⟨hs, q⟩ := h
  cases x with
  | non =>
    cases rx
    cases y with
    | non => cases ry; exact PySem.EqNone.ne_none_none (fin_bl I q (by simp))
    | bl j => cases ry; exact PySem.EqNone.ne_none_bool (fin_bl I q (by simp))
    | int j => obtain ⟨t', rfl⟩ := ry; exact PySem.EqNone.ne_none_int (fin_bl I q (by simp))
    | str j => obtain ⟨t', rfl⟩ := ry; exact PySem.EqNone.ne_none_str (fin_bl I q (by simp))
    | _ => exact absurd (show false = true from hs) Bool.false_ne_true
  | bl i =>
    cases rx
    cases y with
    | non => cases ry; exact PySem.EqNone.ne_bool_none (fin_bl I q (by simp))
    | bl j => cases ry; exact ne_bool (fin_bl I q (congrArg not dec_bl))
    | str j => obtain ⟨t', rfl⟩ := ry; exact PySem.EqMixed.ne_bool_str (fin_bl I q (by simp))
    | _ => exact absurd (show false = true from hs) Bool.false_ne_true
  | int i =>
    obtain ⟨t, rfl⟩ := rx
    cases y with
    | non => cases ry; exact PySem.EqNone.ne_int_none (fin_bl I q (by simp))
    | int j => obtain ⟨t', rfl⟩ := ry; exact ne_int (fin_bl I q (congrArg not dec_int))
    | str j => obtain ⟨t', rfl⟩ := ry; exact PySem.EqMixed.ne_int_str (fin_bl I q (by simp))
    | _ => exact absurd (show false = true from hs) Bool.false_ne_true
  | str i =>
    obtain ⟨t, rfl⟩ := rx
    cases y with
    | non => cases ry; exact PySem.EqNone.ne_str_none (fin_bl I q (by simp))
    | bl j => cases ry; exact PySem.EqMixed.ne_str_bool (fin_bl I q (by simp))
    | int j => obtain ⟨t', rfl⟩ := ry; exact PySem.EqMixed.ne_str_int (fin_bl I q (by simp))
    | str j => obtain ⟨t', rfl⟩ := ry; exact ne_str (fin_bl I q (congrArg not dec_str))
    | _ => exact absurd (show false = true from hs) Bool.false_ne_true
  | byt i =>
    obtain ⟨t, rfl⟩ := rx
    cases y with
    | byt j => obtain ⟨t', rfl⟩ := ry; exact PySem.W.ne_bytes (fin_bl I q (congrArg not dec_byt))
    | _ => exact absurd (show false = true from hs) Bool.false_ne_true
  | _ => cases y <;> exact absurd (show false = true from hs) Bool.false_ne_true
theorem op_lt : OpR X (compareOp .Lt) (rI0 fun i j => .bl (decide (i < j))) := opB0 fun _ _ _ _ _ _ _ q => lt_int q
theorem op_ge : OpR X (compareOp .GtE) (rI0 fun i j => .bl (decide (j ≤ i))) := opB0 fun _ _ _ _ _ _ _ q => ge_int q
theorem op_isN : OpR X (compareOp .Is) (fun x y H Q => y = .non ∧ Q (.bl (decide (x = .non))) H) := by
  intro pins s σ H x y v u Q I rx ry h
  obtain ⟨rfl, q⟩ := h
  cases ry
  refine is_none_gen (fin_bl I q ?_)
  cases x <;> first
    | (cases rx; rfl)
    | (obtain ⟨t, rfl⟩ := rx; rfl)
theorem OpR.or {f : Value → Value → Sem Value} {r r' : R2} (h : OpR X f r) (h' : OpR X f r') : OpR X f (fun x y H Q => r x y H Q ∨ r' x y H Q) := by
  intro pins s σ H x y v u Q I rx ry q
  rcases q with q | q
  · exact h pins s σ H x y v u Q I rx ry q
  · exact h' pins s σ H x y v u Q I rx ry q
theorem nomark (b : Expr) {op : CmpOp} (h : op ≠ .In := by decide) (h2 : op ≠ .NotIn := by decide) : behindInMarks op b = false := by
  have e1 : (op == CmpOp.In) = false := by cases op <;> first | rfl | exact absurd rfl h
  have e2 : (op == CmpOp.NotIn) = false := by cases op <;> first | rfl | exact absurd rfl h2
  cases b <;> simp [behindInMarks, e1, e2]
theorem pe_cmpR {op : CmpOp} {r : R2} (ho : OpR X (compareOp op) r) (ha : PE X a ta) (hb : PE X b tb) (hm : behindInMarks op b = false) : PE X (.Compare a [op] [b] pos) (tOp r ta tb) := by
  intro pins s σ H Q I h
  exact wpAny_Compare1 (binT ha hb I h fun v u s2 x y H2 I2 rx ry q => ho pins s2 σ H2 x y v u Q I2 rx ry q) hm
noncomputable def tTest (t : TE) : TT := fun σ H Q => t σ H fun x H' => ∃ k, x = .bl k ∧ Q k H'
theorem pt_cmpR {op : CmpOp} {r : R2} (ho : OpR X (compareOp op) r) (ha : PE X a ta) (hb : PE X b tb) (hm : behindInMarks op b = false) : PT X (.Compare a [op] [b] pos) (tTest (tOp r ta tb)) := by
  intro pins s σ H Q I h
  refine wpAny_isTrue_Compare1 (thn (ha pins s σ H _ I h) fun v s1 ⟨x, H1, I1, r1, q1⟩ => thn (hb pins s1 σ H1 _ I1 q1) fun u s2 ⟨y, H2, I2, r2, q2⟩ =>
    thn (ho pins s2 σ H2 x y v u _ I2 r1 r2 q2) fun c s3 ⟨z, H3, I3, r3, k, e, q3⟩ => ?_) hm
  subst e
  cases r3
  exact wpAny_truthy_bool ⟨H3, I3, q3⟩
noncomputable def TruV (K : PySem.W.Frag) (x : V) (H : Hp) (k : Bool) : Prop :=
  match x with
  | .non => k = false
  | .bl b => k = b
  | .int i => k = (i != 0)
  | .str y => y.length ≤ sizeLine ∧ k = ((y.length : Int) != 0)
  | .byt y => y.size ≤ sizeLine ∧ k = ((y.size : Int) != 0)
  | .ref p => (∃ xs, SqL K H p xs ∧ k = !xs.isEmpty) ∨ (∃ xs, SqT K H p xs ∧ k = !xs.isEmpty) ∨ ∃ kvs, H p = some (.dK kvs) ∧ k = !kvs.isEmpty
  | _ => False
theorem isEmpty_kv {κ : Type} {kvs : List (κ × V)} {vs : List (κ × Value)} (r : KV kvs vs) : (!vs.isEmpty) = !kvs.isEmpty := by
  cases r <;> rfl
theorem isEmpty_of {xs : List V} {its : List Value} (r : Vals xs its) : (!its.toArray.isEmpty) = !xs.isEmpty := by
  cases r <;> simp
theorem line63 : (sizeLine : Nat) < 2 ^ 63 := by rw [sizeLine_eq]; decide
theorem tru_ok : TruR X (fun x H Q => ∃ k, TruV X.K x H k ∧ Q k H) := by
  intro pins s σ H x v Q I rx h
  obtain ⟨k, e, q⟩ := h
  have hl := line63
  have hs : sizeLine = 16777216 := sizeLine_eq
  cases x with
  | non =>
    cases rx
    have e' : k = false := e
    subst e'
    exact truthy_none ⟨H, I, q⟩
  | bl b =>
    cases rx
    have e' : k = b := e
    subst e'
    exact wpAny_truthy_bool ⟨H, I, q⟩
  | int i =>
    obtain ⟨t, rfl⟩ := rx
    have e' : k = (i != 0) := e
    subst e'
    exact PySem.P.truthy_int ⟨H, I, q⟩
  | str y =>
    obtain ⟨t, rfl⟩ := rx
    obtain ⟨hy, e'⟩ : y.length ≤ sizeLine ∧ k = ((y.length : Int) != 0) := e
    subst e'
    exact PySem.P.truthy_str (by omega) ⟨H, I.tok _, q⟩
  | byt y =>
    obtain ⟨t, rfl⟩ := rx
    obtain ⟨hy, e'⟩ : y.size ≤ sizeLine ∧ k = ((y.size : Int) != 0) := e
    subst e'
    exact PySem.W.truthy_bytes (by omega) ⟨H, I.tok _, q⟩
  | ref p =>
    cases rx
    have e' : (∃ xs, SqL X.K H p xs ∧ k = !xs.isEmpty) ∨ (∃ xs, SqT X.K H p xs ∧ k = !xs.isEmpty) ∨ ∃ kvs, H p = some (.dK kvs) ∧ k = !kvs.isEmpty := e
    rcases e' with ⟨xs, hx, e'⟩ | ⟨xs, hx, e'⟩ | ⟨kvs, hx, e'⟩
    · subst e'
      obtain ⟨its, r, pl, hz⟩ := I.list hx
      have hlen := r.length
      exact wpAny_truthy_list pl.isList (by simp only [List.size_toArray]; omega) ⟨H, I.tok _, by rw [isEmpty_of r]; exact q⟩
    · subst e'
      obtain ⟨its, r, pl, hz⟩ := I.tuple hx
      have hlen := r.length
      exact truthy_tuple pl (by simp only [List.size_toArray]; omega) ⟨H, I.tok _, by rw [isEmpty_of r]; exact q⟩
    · subst e'
      obtain ⟨hz, hS, vs, r, m⟩ : kvs.length ≤ sizeLine ∧ (p == sysModules) = false ∧ ∃ vs, KV kvs vs ∧ s.heap.DictOf (mixKind X.prog X.w) p vs := I.hok p _ hx
      have hlen : kvs.length = vs.length := Paired.length r
      exact wpAny_truthy_dict hS m (by omega) ⟨H, I.tok _, by rw [isEmpty_kv r]; exact q⟩
  | _ => exact (show False from e).elim
theorem pt_truth (ha : PE X a ta) (he : ∀ whole, isTrue a X.env whole = (do let v ← whole; standAt a.pos; holding [v] (truthy v))) :
    PT X a (fun σ H Q => ta σ H fun x H' => ∃ k, TruV X.K x H' k ∧ Q k H') := by
  intro pins s σ H Q I h
  exact isTrue_plain (thn (ha pins s σ H _ I h) fun v s1 ⟨x, H1, I1, r1, q1⟩ => tru_ok pins s1 σ H1 x v Q I1 r1 q1) (he _)
theorem op_add_str : OpR X (binaryOp .Add) (fun x y H Q => ∃ i j, x = .str i ∧ y = .str j ∧ i.length + j.length ≤ sizeLine ∧ Q (.str (i ++ j)) H) := by
  intro pins s σ H x y v u Q I rx ry h
  obtain ⟨i, j, rfl, rfl, hz, q⟩ := h
  obtain ⟨t, rfl⟩ := rx
  obtain ⟨t', rfl⟩ := ry
  exact add_str (fun t' tk => ⟨.str (i ++ j), H, I.tok _, ⟨_, rfl⟩, q⟩) hz
theorem vals1 {x : V} {us : List Value} (r : Vals [x] us) : ∃ u, us = [u] ∧ RelV x u := by
  cases r with
  | cons r1 r2 => cases r2; exact ⟨_, rfl, r1⟩
theorem vals2 {x y : V} {us : List Value} (r : Vals [x, y] us) : ∃ u w', us = [u, w'] ∧ RelV x u ∧ RelV y w' := by
  cases r with
  | cons r1 r2 =>
    cases r2 with
    | cons r3 r4 => cases r4; exact ⟨_, _, rfl, r1, r3⟩
theorem call_min2 (hc : X.calm = true) : CallR X (.builtin "min") (fun xs H Q => ∃ i j, xs = [.int i, .int j] ∧ Q (.int (if j < i then j else i)) H) := by
  intro pins s σ H xs us Q I r h
  obtain ⟨i, j, rfl, q⟩ := h
  obtain ⟨u, w', rfl, ⟨t, rfl⟩, ⟨t', rfl⟩⟩ := vals2 r
  refine min_two_ints (I.ok.hd hc) fun h' tk k => ⟨_, H, I.kept k, ?_, q⟩
  by_cases hj : j < i
  · rw [if_pos hj, if_pos hj]; exact ⟨_, rfl⟩
  · rw [if_neg hj, if_neg hj]; exact ⟨_, rfl⟩
end
end L2
namespace L2
open PySem PySem.Spec PyProof.Rows
structure ObjM (h : Heap) (x dx C : Addr) (mA : Str → Option Value) : Prop where
  obj : h.get? x = some (PySem.W.instObj C dx)
  ns : h.Ns1 dx mA
  ne : dx ≠ x
theorem lookIn_ns {h : Heap} {dx : Addr} {mA : Str → Option Value} (n : h.Ns1 dx mA) : ∃ od, h.get? dx = some od ∧ ∀ name, PySem.W.lookIn name od = some (mA name) := by
  obtain ⟨o, es, ep, ho, hd, hk, _, hm⟩ := n
  refine ⟨o, ho, fun name => ?_⟩
  have e := hm name
  unfold nsFind findBy at e
  rw [← Array.find?_toList] at e
  unfold PySem.W.lookIn
  rw [hd]
  dsimp only
  split
  · rename_i y q
    rw [q] at e
    exact congrArg some e
  · rename_i q
    rw [q] at e
    have a : es.toList.any (·.refKey) = false := by
      rw [List.any_eq_false]
      intro y hy
      obtain ⟨z, t, hkey⟩ := hk y (Array.mem_toList_iff.mp hy)
      simp [DictEntry.refKey, hkey]
    have a' : ¬ es.toList.any (·.refKey) = true := by rw [a]; exact Bool.false_ne_true
    rw [if_neg a']
    exact congrArg some e
theorem ObjM.look {h : Heap} {x dx C : Addr} {mA : Str → Option Value} (I : ObjM h x dx C mA) : ∃ od, PySem.W.InstAt h x (PySem.W.instObj C dx) C (some od) ∧ ∀ name, PySem.W.lookIn name od = some (mA name) :=
  let ⟨od, ho, hl⟩ := lookIn_ns I.ns
  ⟨od, ⟨I.obj, rfl, rfl, ho⟩, hl⟩
section
variable {prog : Program} {w : World} {A : Around} {E : Value → Shared → Prop} {s : Shared} {K : PySem.W.Frag} {x dx C f : Addr} {mA : Str → Option Value} {name : Str} {v : Value}
theorem get_map {expr : Bool} {Q : Value → Shared → Prop} (X : K.In s.heap) (I : ObjM s.heap x dx C mA) (hg : PySem.W.plainGet K C name = true) (hh : PySem.W.hasDictIn K C = true)
    (ha : PySem.W.findIn K (.ref C) name = some none) (hv : mA name = some v) (hv' : PySem.W.handedIn v = true) (h : Q v { s with toks := s.toks + 1 }) :
    wpAny (model prog w) A (getAttr (.ref x) name expr) Q E s := by
  obtain ⟨od, J, hl⟩ := I.look
  exact PySem.W.get_value X J (PySem.W.plainGet_of hg).1 (PySem.W.findObj_own hh ha rfl (by rw [hl, hv])) hv' h
theorem get_meth {pl : Sem Bool} {Q : Value × List Value → Shared → Prop} (X : K.In s.heap) (I : ObjM s.heap x dx C mA) (hg : PySem.W.plainGet K C name = true)
    (hf : PySem.W.findIn K (.ref C) name = some (some (.ref f))) (ht : PySem.W.isFn K (.ref f) = true) (hv : mA name = none) (h : Q (.ref f, [.ref x]) s) :
    wpAny (model prog w) A (getMethod (.ref x) name pl) Q E s := by
  obtain ⟨od, J, hl⟩ := I.look
  exact PySem.W.method_fn X J (PySem.W.plainGet_of hg).1 (PySem.W.plainGet_of hg).2 hf (beq_iff_eq.mp ht) (by show (PySem.W.lookIn name od).map (·.isSome) = some false; rw [hl, hv]; rfl) h
theorem set_map {ns : List Str} {Q : Unit → Shared → Prop} (X : K.In s.heap) (I : ObjM s.heap x dx C mA)
    (hs : PySem.W.findIn K (.ref C) "__setattr__" = some (some (.builtin "object.__setattr__"))) (hp : PySem.W.plainOver K C = true) (ht : PySem.W.takerIn K C name = some none) (hh : PySem.W.hasDictIn K C = true)
    (hw : PySem.Within mA ns) (hsz : ns.length ≤ sizeLine)
    (h : ∀ h', ObjM h' x dx C (fun y => if y = name then some v else mA y) → Heap.SameBut dx s.heap h' → Q () { s with heap := h', toks := s.toks + 2 }) :
    wpAny (model prog w) A (setAttr (.ref x) name v) Q E s := by
  obtain ⟨od, J, hl⟩ := I.look
  refine PySem.W.set_plain X J hs (PySem.W.osa_open (s := { s with toks := s.toks + 1 }) (r := none) X J hp ht fun b => ?_)
  obtain ⟨cd, hc, hd'⟩ := PySem.W.any_some hh
  have hx : s.heap.get? x = some ⟨.ref C, some dx, .plain, #[]⟩ := I.obj
  refine wpAny_bind (wpAny_pure (wpAny_bind (wpAny_bind (wpAny_loadPart hx (wpAny_bind (PySem.W.Looks.here (s := { s with toks := s.toks + 1 }) (PySem.W.looks_clsIn X hc) ?_))))))
  rw [hd']
  refine wpAny_pure (a := some dx) (wpAny_bind (wpAny_pure (wpAny_bind ?_)))
  refine wpAny_nsSet1 (s := { s with toks := s.toks + 1 }) I.ns fun h' hn2 hs2 => ?_
  obtain ⟨oD, esD, epD, hoD, hdD, hcD⟩ := hn2.count (PySem.Within.cons name v hw)
  refine wpAny_bind (wpAny_lookBehind hoD (by rw [hdD]; exact pastItsLine_dict (Nat.le_trans hcD (by rw [List.length_cons]; omega))) ?_)
  exact wpAny_pure (h _ ⟨(hs2.2 _ (Ne.symm I.ne)).trans I.obj, hn2, I.ne⟩ hs2)
theorem make_map {R : Result → Shared → Prop} {vs : List Value} {kw : List (Str × Value)} (X : K.In s.heap) (hm : PySem.W.makesIn K C = true)
    (hi : PySem.W.findIn K (.ref C) "__init__" = some (some (.ref f))) (hf : PySem.W.typeIn K (.ref f) = some (.type "function"))
    (h : codeAny (model prog w) (A.under (.builtin "type.__call__" ⟨.ref C :: vs, kw⟩)) (.call (.ref f) ⟨.ref (s.heap.objs.size + 1) :: vs, kw⟩) (PySem.W.InitBack (s.heap.objs.size + 1) R)
      { s with heap := (s.heap.push PySem.W.emptyDict).push (PySem.W.instObj C s.heap.objs.size) }) :
    codeAny (model prog w) A (.call (.ref C) ⟨vs, kw⟩) R s := by
  obtain ⟨hh, g, d, t, os⟩ := s
  exact PySem.W.make_core (PySem.W.makes_of X hm) (PySem.W.looks_findIn X hi) (fun self => PySem.W.bind_fn X self hf) (.inl rfl) h
end
noncomputable def putF (f : Str) (v : V) : List (Str × V) → List (Str × V)
  | [] => [(f, v)]
  | (g, x) :: r => if g = f then (g, v) :: r else (g, x) :: putF f v r
theorem lookup_putF (f g : Str) (v : V) : ∀ fs : List (Str × V), (putF f v fs).lookup g = if g = f then some v else fs.lookup g
  | [] => by
    show List.lookup g [(f, v)] = _
    by_cases h : g = f
    · have hb : (g == f) = true := beq_iff_eq.mpr h
      simp only [List.lookup, hb, if_pos h]
    · have hb : (g == f) = false := beq_eq_false_iff_ne.mpr h
      simp only [List.lookup, hb, if_neg h]
  | (k, x) :: r => by
    have ih := lookup_putF f g v r
    rw [show putF f v ((k, x) :: r) = (if k = f then (k, v) :: r else (k, x) :: putF f v r) from rfl]
    by_cases hk : k = f
    · rw [if_pos hk]
      by_cases h : g = k
      · have hb : (g == k) = true := beq_iff_eq.mpr h
        simp only [List.lookup, hb, if_pos (h.trans hk)]
      · have hb : (g == k) = false := beq_eq_false_iff_ne.mpr h
        simp only [List.lookup, hb, if_neg (fun e : g = f => h (e.trans hk.symm))]
    · rw [if_neg hk]
      by_cases h : g = k
      · have hb : (g == k) = true := beq_iff_eq.mpr h
        simp only [List.lookup, hb, if_neg (fun e : g = f => hk (h.symm.trans e))]
      · have hb : (g == k) = false := beq_eq_false_iff_ne.mpr h
        simp only [List.lookup, hb]
        exact ih
theorem keys_putF (f : Str) (v : V) : ∀ fs : List (Str × V), f ∈ (putF f v fs).map (·.1) ∧ ∀ g, g ∈ fs.map (·.1) → g ∈ (putF f v fs).map (·.1)
  | [] => ⟨by simp [putF], fun g h => by simp at h⟩
  | (k, x) :: r => by
    obtain ⟨i1, i2⟩ := keys_putF f v r
    rw [show putF f v ((k, x) :: r) = (if k = f then (k, v) :: r else (k, x) :: putF f v r) from rfl]
    by_cases hk : k = f
    · rw [if_pos hk]
      subst hk
      exact ⟨by simp, fun g h => by simpa using h⟩
    · rw [if_neg hk]
      refine ⟨?_, fun g h => ?_⟩
      · rw [List.map_cons]
        exact List.mem_cons_of_mem _ i1
      · rw [List.map_cons] at h ⊢
        rcases List.mem_cons.mp h with e | e
        · exact List.mem_cons.mpr (.inl e)
        · exact List.mem_cons_of_mem _ (i2 g e)
theorem length_putF (f : Str) (v : V) : ∀ fs : List (Str × V), (putF f v fs).length ≤ fs.length + 1
  | [] => by simp [putF]
  | (k, x) :: r => by
    have ih := length_putF f v r
    rw [show putF f v ((k, x) :: r) = (if k = f then (k, v) :: r else (k, x) :: putF f v r) from rfl]
    by_cases hk : k = f
    · rw [if_pos hk, List.length_cons, List.length_cons]; omega
    · rw [if_neg hk, List.length_cons, List.length_cons]; omega
theorem RelO.some_of {v : V} {o : Option Value} (r : RelO (some v) o) : ∃ u, o = some u ∧ RelV v u := by
  cases o with
  | none => exact (show False from r).elim
  | some u => exact ⟨u, rfl, r⟩
theorem RelO.none_of {o : Option Value} (r : RelO none o) : o = none := by
  cases o with
  | none => rfl
  | some u => exact (show False from r).elim
theorem handed_of {v : V} {u : Value} (r : RelV v u) : PySem.W.handedIn u = true := by
  cases v with
  | non => cases (show u = Value.none from r); rfl
  | bl b => cases (show u = Value.bool b from r); rfl
  | int i => obtain ⟨t, e⟩ := (show ∃ t, u = Value.int i t from r); cases e; rfl
  | str x => obtain ⟨t, e⟩ := (show ∃ t, u = Value.str x t from r); cases e; rfl
  | byt b => obtain ⟨t, e⟩ := (show ∃ t, u = Value.bytes b t from r); cases e; rfl
  | flt b => obtain ⟨t, e⟩ := (show ∃ t, u = Value.float b t from r); cases e; rfl
  | ref a => cases (show u = Value.ref a from r); rfl
  | ty n => cases (show u = Value.type n from r); rfl
section
variable {P : Program} {w : World} {H H' : Hp} {h h' : Heap} {a C dx : Addr} {fs fs' : List (Str × V)}
theorem ins_get (hok : HOk P w H h) (e : H a = some (.ins C dx fs)) : ∃ mA, ObjM h a dx C mA ∧ (∀ f, RelO (fs.lookup f) (mA f)) ∧ PySem.Within mA (fs.map (·.1)) ∧ fs.length ≤ 1000 ∧ H dx = some (.own a) := by
  obtain ⟨d, z, ne, ob, mA, n, r, q⟩ := (show ObjOk P w H h a (.ins C dx fs) from hok a _ e)
  exact ⟨mA, ⟨ob, n, ne⟩, r, q, z, d⟩
end
structure Cls (K : PySem.W.Frag) (C : Addr) : Prop where
  pg : PySem.W.plainGet K C Str.empty = true
  hd : PySem.W.hasDictIn K C = true
  po : PySem.W.plainOver K C = true
  sa : PySem.W.findIn K (.ref C) "__setattr__" = some (some (.builtin "object.__setattr__"))
theorem Cls.get {K : PySem.W.Frag} {C : Addr} (c : Cls K C) (f : Str) : PySem.W.plainGet K C f = true := c.pg
noncomputable def NoAttr (K : PySem.W.Frag) (C : Addr) (f : Str) : Prop := PySem.W.findIn K (.ref C) f = some none
theorem NoAttr.taker {K : PySem.W.Frag} {C : Addr} {f : Str} (n : NoAttr K C f) : PySem.W.takerIn K C f = some none := by
  unfold PySem.W.takerIn
  rw [show PySem.W.findIn K (.ref C) f = some none from n]
  rfl
structure Meth (K : PySem.W.Frag) (C : Addr) (m : Str) (f : Addr) : Prop where
  at_ : PySem.W.findIn K (.ref C) m = some (some (.ref f))
  fn : PySem.W.isFn K (.ref f) = true
  kp : PySem.W.keepIn K (.ref f) = true
section
variable {X : Cx} {pins : List (Addr × Obj)} {σ : St} {H : Hp} {s : Shared} {a C dx : Addr} {fs : List (Str × V)} {f : Str} {v : V} {A : Around} {E : Value → Shared → Prop}
theorem getattr_ok {b : Bool} {Q : Value → Shared → Prop} (I : Inv X pins σ H s) (e : H a = some (.ins C dx fs)) (c : Cls X.K C) (n : NoAttr X.K C f) (l : fs.lookup f = some v)
    (h : ∀ u s', Inv X pins σ H s' → RelV v u → Q u s') : wpAny (model X.prog X.w) A (getAttr (.ref a) f b) Q E s := by
  obtain ⟨mA, O, r, _, _, _⟩ := ins_get I.hok e
  obtain ⟨u, hu, ru⟩ := RelO.some_of (v := v) (o := mA f) (by rw [← l]; exact r f)
  exact get_map I.kIn O (c.get f) c.hd n hu (handed_of ru) (h u _ (I.tok _) ru)
theorem getmeth_ok {m : Str} {g : Addr} {pl : Sem Bool} {Q : Value × List Value → Shared → Prop} (I : Inv X pins σ H s) (e : H a = some (.ins C dx fs)) (c : Cls X.K C) (k : Meth X.K C m g) (l : fs.lookup m = none)
    (h : Q (.ref g, [.ref a]) s) : wpAny (model X.prog X.w) A (getMethod (.ref a) m pl) Q E s := by
  obtain ⟨mA, O, r, _, _, _⟩ := ins_get I.hok e
  have hn : mA m = none := RelO.none_of (by rw [← l]; exact r m)
  exact get_meth I.kIn O (c.get m) k.at_ k.fn hn h
theorem setattr_ok {y : V} {u : Value} {Q : Unit → Shared → Prop} (I : Inv X pins σ H s) (e : H a = some (.ins C dx fs)) (c : Cls X.K C) (n : NoAttr X.K C f) (hl : fs.length < 1000) (ry : RelV y u)
    (h : ∀ s', Inv X pins σ (upd H a (.ins C dx (putF f y fs))) s' → Q () s') : wpAny (model X.prog X.w) A (setAttr (.ref a) f u) Q E s := by
  obtain ⟨mA, O, r, wi, _, ho⟩ := ins_get I.hok e
  have hz : (fs.map (·.1)).length ≤ sizeLine := by rw [List.length_map, sizeLine_eq]; omega
  refine set_map I.kIn O c.sa c.po n.taker c.hd wi hz fun h' O' sb => h _ ?_
  have hd : ∃ o, h'.get? dx = some o := let ⟨o, _, _, e', _⟩ := O'.ns; ⟨o, e'⟩
  refine I.write (x := a) (e := dx) (by rw [e]; exact True.intro) (.inr ho) (fun b q hb z => (sb.2 b hb).trans z) hd ?_
  refine ⟨by rw [upd_ne O.ne]; exact ho, ?_, O.ne, O'.obj, _, O'.ns, fun g => ?_, fun g hg => ?_⟩
  · have := length_putF f y fs; omega
  · show RelO ((putF f y fs).lookup g) (if g = f then some u else mA g)
    rw [lookup_putF]
    by_cases q : g = f
    · rw [if_pos q, if_pos q]; exact ry
    · rw [if_neg q, if_neg q]; exact r g
  · by_cases q : g = f
    · rw [q]; exact (keys_putF f y fs).1
    · refine (keys_putF f y fs).2 g (wi g fun z => hg ?_)
      show (if g = f then some u else mA g) = none
      rw [if_neg q]; exact z
theorem Inv.made (I : Inv X pins σ H s) : Inv X pins σ (upd (upd H s.heap.objs.size (.own (s.heap.objs.size + 1))) (s.heap.objs.size + 1) (.ins C s.heap.objs.size []))
    { s with heap := (s.heap.push PySem.W.emptyDict).push (PySem.W.instObj C s.heap.objs.size) } := by
  have e1 : (s.heap.push PySem.W.emptyDict).get? s.heap.objs.size = some PySem.W.emptyDict := Heap.get?_push_size s.heap rfl
  have e2 : ((s.heap.push PySem.W.emptyDict).push (PySem.W.instObj C s.heap.objs.size)).get? (s.heap.objs.size + 1) = some (PySem.W.instObj C s.heap.objs.size) := by
    have := Heap.get?_push_size (s.heap.push PySem.W.emptyDict) (o := PySem.W.instObj C s.heap.objs.size) rfl
    rwa [Heap.size_push] at this
  have e3 : (s.heap.push PySem.W.emptyDict).Ns s.heap.objs.size (fun _ => none) := ⟨PySem.W.emptyDict, #[], _, e1, rfl, (fun e he => absurd he (by simp)), fun _ => rfl⟩
  have I1 := I.laid (a := s.heap.objs.size) (o := .own (s.heap.objs.size + 1)) (h' := s.heap.push PySem.W.emptyDict) (t' := s.toks) (fun b u q => Heap.get?_push_of_some _ q) (Nat.le_refl _) ⟨_, e1⟩
  refine I1.laid (a := s.heap.objs.size + 1) (o := .ins C s.heap.objs.size []) (t' := s.toks) (fun b u q => Heap.get?_push_of_some _ q) (Nat.le_of_eq (Heap.size_push _ _)) ?_
  have ne : s.heap.objs.size ≠ s.heap.objs.size + 1 := Nat.ne_of_lt (Nat.lt_succ_self _)
  refine ⟨by rw [upd_ne ne, upd_same], Nat.zero_le _, ne, e2, fun _ => none, (Heap.Ns1.of_empty e3).at fun o q => Heap.get?_push_of_some _ q, fun _ => True.intro, fun y hy => absurd rfl hy⟩
theorem attr_of {prog : Program} {w : World} {env : Env} {e : Expr} {f : Str} {pos : Pos} {s : Shared} {Q : Value → Shared → Prop} (hb : attributeBase e f env (eval e env) = eval e env)
    (h : wpAny (model prog w) A (eval e env) (fun o s₁ => wpAny (model prog w) A (getAttr o f true) Q E s₁) E s) : wpAny (model prog w) A (eval (.Attribute e f pos) env) Q E s :=
  Attribute_any_ h (by rw [arm_eval_Attribute, hb])
end
noncomputable def tFld (K : PySem.W.Frag) (ta : TE) (f : Str) : TE := fun σ H Q => ta σ H fun x H1 => ∃ a C dx fs v, x = .ref a ∧ H1 a = some (.ins C dx fs) ∧ Cls K C ∧ NoAttr K C f ∧ fs.lookup f = some v ∧ Q v H1
noncomputable def sFld (K : PySem.W.Frag) (ta tv : TE) (f : Str) : TS := fun D σ H => tv σ H fun y H1 => ta σ H1 fun x H2 => ∃ a C dx fs, x = .ref a ∧ H2 a = some (.ins C dx fs) ∧ Cls K C ∧ NoAttr K C f ∧ fs.length < 1000 ∧
  D.nx σ (upd H2 a (.ins C dx (putF f y fs)))
section
variable {X : Cx} {o e value : Expr} {f : Str} {pos pos' tpos : Pos} {ta tv : TE}
theorem pe_fld (he : PE X e ta) (hb : attributeBase e f X.env (eval e X.env) = eval e X.env) : PE X (.Attribute e f pos) (tFld X.K ta f) := by
  intro pins s σ H Q I h
  refine attr_of hb (thn (he pins s σ H _ I h) fun u s1 hP => ?_)
  obtain ⟨x, H1, I1, rx, a, C, dx, fs, v, ex, ea, c, n, l, q⟩ := hP
  subst ex
  obtain rfl : u = Value.ref a := rx
  exact getattr_ok I1 ea c n l fun u' s2 I2 ru => ⟨v, H1, I2, ru, q⟩
theorem ps_fld (ha : PE X o ta) (hv : PE X value tv) (hs : swapsWith value (some (.Attribute o f pos')) pos.line X.env = pure false) : PS X (.Assign [.Attribute o f pos'] value pos) (sFld X.K ta tv f) := by
  intro pins s σ H D I h
  refine plainObj_wpAny_Assign_Attribute (thn (hv pins s σ H _ I h) fun u s1 ⟨y, H1, I1, ry, q⟩ => thn (ha pins s1 σ H1 _ I1 q) fun ov s2 hP => ?_) hs
  obtain ⟨x, H2, I2, rx, a, C, dx, fs, ex, ea, c, n, l, q2⟩ := hP
  subst ex
  obtain rfl : ov = Value.ref a := rx
  exact setattr_ok I2 ea c n l ry fun s3 I3 => ⟨σ, _, I3, q2⟩
end
section
variable {X : Cx} {pins : List (Addr × Obj)} {σ : St} {H : Hp} {s : Shared} {A : Around} {E : Value → Shared → Prop} {Q : Value → Shared → Prop} {c : Value} {b : Bool}
end
end L2
namespace L2
open PySem PySem.Spec PyProof.Rows
structure Room (k : Nat) (A : Around) : Prop where
  hd : A.handled = none
  dp : A.depth + 3 * k + 5 < recursionLimit
  un : A.units + 16 * k + 200 < cLine
theorem Room.mono {j k : Nat} {A : Around} (r : Room k A) (h : j ≤ k) : Room j A := ⟨r.hd, by have := r.dp; omega, by have := r.un; omega⟩
theorem Room.deeper {k : Nat} {A : Around} (r : Room (k + 1) A) (env : Env) : Room k (A.deeper env) :=
  ⟨r.hd, by have := r.dp; show A.depth + 1 + 3 * k + 5 < _; omega, by have := r.un; show A.units + 3 + 16 * k + 200 < _; omega⟩
theorem Room.in1 {k : Nat} {A : Around} (r : Room (k + 1) A) : Room k A.in1 :=
  ⟨r.hd, by have := r.dp; show A.depth + 3 * k + 5 < _; omega, by have := r.un; show A.units + 1 + 16 * k + 200 < _; omega⟩
theorem make_depth {A : Around} {C : Addr} {us : List Value} {kw : List (Str × Value)} : (A.under (.builtin "type.__call__" ⟨.ref C :: us, kw⟩)).depth = A.depth + 1 := by
  first | rfl | simp [Around.under, Code.weight, Code.isCreation, Code.isGuard, Code.isCaller, Code.frames, Code.isFrame, guardIds]
theorem make_units {A : Around} {C : Addr} {us : List Value} {kw : List (Str × Value)} : (A.under (.builtin "type.__call__" ⟨.ref C :: us, kw⟩)).units = A.units + 1 := by
  first | rfl | simp [Around.under, Code.cUnits, Code.frames, Code.isFrame]
theorem Room.make {k : Nat} {A : Around} (r : Room (k + 1) A) (C : Addr) (us : List Value) (kw : List (Str × Value)) : Room k (A.under (.builtin "type.__call__" ⟨.ref C :: us, kw⟩)) :=
  ⟨r.hd, by have := r.dp; rw [make_depth]; omega, by have := r.un; rw [make_units]; omega⟩
theorem Room.depth {k : Nat} {A : Around} (r : Room k A) : A.depth < recursionLimit := by have := r.dp; omega
theorem Room.units {k : Nat} {A : Around} (r : Room k A) : A.units + 64 < cLine := by have := r.un; omega
noncomputable def tNil : TA := fun _ H Q => Q [] H
noncomputable def tCons (ta : TE) (tr : TA) : TA := fun σ H Q => ta σ H fun x H1 => tr σ H1 fun xs H2 => Q (x :: xs) H2
section
variable {X : Cx} {e : Expr} {es : List Expr} {te : TE} {t : TA} {pos : Pos}
theorem pa_nil : PA X [] tNil := fun _ _ _ _ H Q I h => Calls.spliced_nil ⟨[], H, I, .nil, h⟩
theorem pa_cons (ha : PE X e te) (hr : PA X es t) (hs : starEach (e :: es) X.env = (false, eval e X.env) :: starEach es X.env := by rfl) : PA X (e :: es) (tCons te t) := by
  intro pos pins s σ H Q I h
  rw [hs]
  show wpAny _ _ (spliced ((false, eval e X.env) :: backTo pos (starEach es X.env))) _ _ s
  refine Calls.spliced_cons (thn (ha pins s σ H _ I h) fun u s1 ⟨x, H1, I1, r1, q1⟩ => ?_)
  exact thn (hr pos pins s1 σ H1 _ I1 q1) fun us s2 ⟨xs, H2, I2, r2, q2⟩ => ⟨x :: xs, H2, I2, .cons r1 r2, q2⟩
noncomputable def tTup (t : TA) : TE := fun σ H Q => t σ H fun xs H1 => xs.length ≤ sizeLine ∧ ∀ p, H1 p = none → Q (.ref p) (upd H1 p (.tup xs))
noncomputable def tLst (t : TA) : TE := fun σ H Q => t σ H fun xs H1 => xs.length ≤ sizeLine ∧ ∀ p, H1 p = none → Q (.ref p) (upd H1 p (.lst xs))
theorem pe_tup {x1} (h : PA X es t) : PE X (.Tuple es x1 pos) (tTup t) := by
  intro pins s σ H Q I hq
  refine wpAny_Tuple_spliced (thn (h pos pins s σ H _ I hq) fun us s1 ⟨xs, H1, I1, r, z, q⟩ => ⟨by rw [← r.length]; exact z, ?_⟩)
  have hf : H1 s1.heap.objs.size = none := I1.hok.fresh (Nat.le_refl _)
  refine ⟨.ref s1.heap.objs.size, upd H1 s1.heap.objs.size (.tup xs), I1.laid (t' := s1.toks) (fun b u e => Heap.get?_push_of_some _ e) (Nat.le_refl _) ?_, rfl, q _ hf⟩
  exact ⟨z, us, r, ⟨_, Heap.get?_push_size _ rfl, rfl, ⟨_, rfl⟩, rfl⟩⟩
theorem pe_lst (h : PA X es t) : PE X (.List es pos) (tLst t) := by
  intro pins s σ H Q I hq
  refine wpAny_List_spliced (thn (h pos pins s σ H _ I hq) fun us s1 ⟨xs, H1, I1, r, z, q⟩ => ⟨by rw [← r.length]; exact z, ?_⟩)
  have hf : H1 s1.heap.objs.size = none := I1.hok.fresh (Nat.le_refl _)
  refine ⟨.ref s1.heap.objs.size, upd H1 s1.heap.objs.size (.lst xs), I1.laid (t' := s1.toks) (fun b u e => Heap.get?_push_of_some _ e) (Nat.le_refl _) ?_, rfl, q _ hf⟩
  exact ⟨z, us, 0, r, Heap.get?_push_size _ rfl⟩
end
noncomputable abbrev Sp := List V → Hp → VK → XK → Prop
noncomputable abbrev CXT := List Env → Hp → Shared → XK → Value → Shared → Prop
structure Env0 (P : Program) (w : World) (K : PySem.W.Frag) (mg : Str → Option Value) (base : Heap) (A : Around) (outer : List Env) (s : Shared) (H : Hp) : Prop where
  frames : A.frames = some outer
  mod : Mod K mg base
  bs : ∀ b o, base.get? b = some o → s.heap.get? b = some o ∧ H b = none
  bsz : base.objs.size ≤ s.heap.objs.size
  funs : s.heap.FunFrames base outer
  frf : ∀ b ∈ frs outer, H b = none
  hok : HOk P w H s.heap
  bare : AllBare s.gens
noncomputable def CE (outer : List Env) (P : Program) (w : World) (H : Hp) (s : Shared) (Q : VK) (u : Value) (s' : Shared) : Prop :=
  ∃ v H', s'.os = s.os ∧ AllBare s'.gens ∧ Un (frs outer) [] H H' s.heap s'.heap ∧ HOk P w H' s'.heap ∧ RelV v u ∧ Q v H'
noncomputable def CR (CX : CXT) (outer : List Env) (P : Program) (w : World) (H : Hp) (s : Shared) (Q : VK) (E : XK) (r : Result) (s' : Shared) : Prop :=
  match r with
  | .ok (.ret u) => CE outer P w H s Q u s'
  | .ok _ => False
  | .error e => CX outer H s E e s'
structure FnOk (P : Program) (w : World) (K : PySem.W.Frag) (mg : Str → Option Value) (base : Heap) (CX : CXT) (k : Nat) (f : Addr) (fd : FuncData) (ps : List Str) (sp : Sp) : Prop where
  len : ∀ vs H Q E, sp vs H Q E → vs.length = ps.length
  run : ∀ (A : Around) (outer : List Env) (s : Shared) (H : Hp) (args : Args) (us : List Value) (vs : List V) (Q : VK) (E : XK), Room k A → Env0 P w K mg base A outer s H → BindsTo s fd args (ps.zip us) → Vals vs us → sp vs H Q E →
    codeAny (model P w) A (.call (.ref f) args) (CR CX outer P w H s Q E) s
theorem FnOk.mono {P : Program} {w : World} {K : PySem.W.Frag} {mg : Str → Option Value} {base : Heap} {CX : CXT} {j k : Nat} {f : Addr} {fd : FuncData} {ps : List Str} {sp : Sp} (F : FnOk P w K mg base CX j f fd ps sp) (h : j ≤ k) :
    FnOk P w K mg base CX k f fd ps sp := ⟨F.len, fun A outer s H args us vs Q E hr => F.run A outer s H args us vs Q E (hr.mono h)⟩
theorem FnOk.imp {P : Program} {w : World} {K : PySem.W.Frag} {mg : Str → Option Value} {base : Heap} {CX : CXT} {k : Nat} {f : Addr} {fd : FuncData} {ps : List Str} {sp sp' : Sp} (F : FnOk P w K mg base CX k f fd ps sp)
    (h : ∀ vs H Q E, sp' vs H Q E → sp vs H Q E) : FnOk P w K mg base CX k f fd ps sp' :=
  ⟨fun vs H Q E q => F.len vs H Q E (h _ _ _ _ q), fun A outer s H args us vs Q E hr he hb hv hs => F.run A outer s H args us vs Q E hr he hb hv (h _ _ _ _ hs)⟩
theorem Env0.make {P : Program} {w : World} {K : PySem.W.Frag} {mg : Str → Option Value} {base : Heap} {A : Around} {outer : List Env} {s : Shared} {H : Hp} (e : Env0 P w K mg base A outer s H) (C : Addr) (us : List Value) (kw : List (Str × Value)) :
    Env0 P w K mg base (A.under (.builtin "type.__call__" ⟨.ref C :: us, kw⟩)) outer s H := ⟨by first | exact e.frames | (simpa [Around.under, Code.envs, Code.isFrame, pushEnvs] using e.frames), e.mod, e.bs, e.bsz, e.funs, e.frf, e.hok, e.bare⟩
theorem Env0.in1 {P : Program} {w : World} {K : PySem.W.Frag} {mg : Str → Option Value} {base : Heap} {A : Around} {outer : List Env} {s : Shared} {H : Hp} (e : Env0 P w K mg base A outer s H) :
    Env0 P w K mg base A.in1 outer s H := ⟨e.frames, e.mod, e.bs, e.bsz, e.funs, e.frf, e.hok, e.bare⟩
section
variable {X : Cx} {pins : List (Addr × Obj)} {σ : St} {H : Hp} {s s' : Shared}
theorem Inv.env0 (I : Inv X pins σ H s) : Env0 X.prog X.w X.K X.mg X.base X.A X.stack s H :=
  ⟨I.ok.frames, I.ok.mod, I.bs, Nat.le_trans I.ok.bsz I.sz, I.stack, I.stkFree, I.hok, I.bare⟩
theorem Inv.after {Q : VK} {u : Value} (I : Inv X pins σ H s) (h : CE X.stack X.prog X.w H s Q u s') : EP X pins σ Q u s' := by
  obtain ⟨v, H', os, bare, un, hok, r, q⟩ := h
  obtain ⟨hh, g, d, t, os'⟩ := s'
  obtain rfl : os' = s.os := os
  exact ⟨v, H', I.call (h' := hh) (g' := g) (d' := d) (t' := t) (ch := []) un hok bare (fun b z => absurd z (by simp)), r, q⟩
end
noncomputable def Binds (K : PySem.W.Frag) (fd : FuncData) (ps : List Str) (ds : List Value) : Prop :=
  ∀ (s : Shared) (us : List Value), K.In s.heap → (us ++ ds).length = ps.length → BindsTo s fd ⟨us, []⟩ (ps.zip (us ++ ds))
theorem Binds.all {K : PySem.W.Frag} {fd : FuncData} {ps : List Str} (h : ∀ us : List Value, us.length = ps.length → bindArgs fd ⟨us, []⟩ = pure (ps.zip us)) : Binds K fd ps [] := fun s us _ hl => by
  rw [List.append_nil] at hl ⊢
  exact .of_eq (h us hl)
section
variable {X : Cx} {CX : CXT} {k : Nat} {f C : Addr} {fd : FuncData} {ps : List Str} {sp : Sp} {dvs : List V} {ds : List Value} {E : XK} {x m : Str} {p pos apos : Pos} {e o : Expr} {es : List Expr} {ta : TE} {t : TA}
structure Mk (K : PySem.W.Frag) (C f : Addr) : Prop where
  makes : PySem.W.makesIn K C = true
  init : PySem.W.findIn K (.ref C) "__init__" = some (some (.ref f))
  fn : PySem.W.isFn K (.ref f) = true
  kp : PySem.W.keepIn K (.ref C) = true
end
section
variable {X : Cx} {CX : CXT} {k : Nat} {f C : Addr} {fd : FuncData} {ps ks : List Str} {sp : Sp} {E : XK} {x m : Str} {p pos apos kpos : Pos} {e o : Expr} {es : List Expr} {kws : List Keyword} {te ta : TE} {t tk : TA} {nm : Option Str}
variable {g : List Value → List Value → List Value} {gV : List V → List V → List V}
end
structure FnScope (N P : List Str) (sc : Scope) : Prop where
  kind : sc.kind = .function
  co : sc.isCoroutine = false
  gen : sc.isGenerator = false
  nd : N.Nodup
  pre : N.take P.length = P
  par : ∀ x ∈ P, sc.names.lookup x = some .local ∨ sc.names.lookup x = some .cell
  nofree : ∀ y ∈ sc.names, y.2 ≠ .free
theorem bindL_out {kindOf : Str → Option NameKind} {x : Str} : ∀ {binds : List (Str × Value)} {m : Str → Option Value}, (∀ v, (x, v) ∉ binds) → bindL kindOf binds m x = m x
  | [], _, _ => rfl
  | (n, v) :: r, m, h => by
    unfold bindL
    rw [bindL_out fun w hw => h w (List.mem_cons_of_mem _ hw)]
    split
    · have : x ≠ n := by rintro rfl; exact h v List.mem_cons_self
      simp [this]
    · rfl
theorem bindC_out {kindOf : Str → Option NameKind} {x : Str} : ∀ {binds : List (Str × Value)} {m : Str → Option Value}, (∀ v, (x, v) ∉ binds) → bindC kindOf binds m x = m x
  | [], _, _ => rfl
  | (n, v) :: r, m, h => by
    unfold bindC
    rw [bindC_out fun w hw => h w (List.mem_cons_of_mem _ hw)]
    split
    · rfl
    · have : x ≠ n := by rintro rfl; exact h v List.mem_cons_self
      simp [this]
theorem bindL_get {kindOf : Str → Option NameKind} {x : Str} {v : Value} : ∀ {P : List Str} {vs : List Value} {i : Nat} {m : Str → Option Value}, P.Nodup → P[i]? = some x → vs[i]? = some v → kindOf x = some .local →
    bindL kindOf (P.zip vs) m x = some v
  | [], _, _, _, _, h, _, _ => by simp at h
  | _ :: _, [], _, _, _, _, h, _ => by simp at h
  | p :: P, w :: vs, 0, m, nd, h1, h2, hk => by
    simp at h1 h2; subst h1; subst h2
    show bindL kindOf ((p, w) :: P.zip vs) m p = _
    unfold bindL
    rw [bindL_out fun v hv => (List.nodup_cons.mp nd).1 (List.of_mem_zip hv).1, if_pos hk]
    simp
  | p :: P, w :: vs, i + 1, m, nd, h1, h2, hk => by
    show bindL kindOf ((p, w) :: P.zip vs) m x = _
    unfold bindL
    exact bindL_get (i := i) (List.nodup_cons.mp nd).2 (by simpa using h1) (by simpa using h2) hk
theorem bindC_get {kindOf : Str → Option NameKind} {x : Str} {v : Value} : ∀ {P : List Str} {vs : List Value} {i : Nat} {m : Str → Option Value}, P.Nodup → P[i]? = some x → vs[i]? = some v → kindOf x ≠ some .local →
    bindC kindOf (P.zip vs) m x = some v
  | [], _, _, _, _, h, _, _ => by simp at h
  | _ :: _, [], _, _, _, _, h, _ => by simp at h
  | p :: P, w :: vs, 0, m, nd, h1, h2, hk => by
    simp at h1 h2; subst h1; subst h2
    show bindC kindOf ((p, w) :: P.zip vs) m p = _
    unfold bindC
    rw [bindC_out fun v hv => (List.nodup_cons.mp nd).1 (List.of_mem_zip hv).1, if_neg hk]
    simp
  | p :: P, w :: vs, i + 1, m, nd, h1, h2, hk => by
    show bindC kindOf ((p, w) :: P.zip vs) m x = _
    unfold bindC
    exact bindC_get (i := i) (List.nodup_cons.mp nd).2 (by simpa using h1) (by simpa using h2) hk
noncomputable def start (N : List Str) (vs : List V) : St := vs.map some ++ List.replicate (N.length - vs.length) none
noncomputable def cxOf (CX : CXT) (P : Program) (w : World) (K : PySem.W.Frag) (mg : Str → Option Value) (base : Heap) (N : List Str) (qual : Str) (scope : Scope) (f : Addr) (cd : Value) (A : Around) (outer : List Env) (s : Shared) (H : Hp) (E : XK) : Cx where
  prog := P
  w := w
  K := K
  mg := mg
  base := base
  A := A.deeper (envOfC qual scope s.heap.objs.size f cd)
  N := N
  s₀ := s
  H₀ := H
  env := envOfC qual scope s.heap.objs.size f cd
  outer := outer
  stack := envOfC qual scope s.heap.objs.size f cd :: outer
  ex := []
  calm := true
  fn := fun _ => true
  pn := []
  xe := fun e s' => wpAny (model P w) (A.deeper (envOfC qual scope s.heap.objs.size f cd)) (leaving (envOfC qual scope s.heap.objs.size f cd) e) (fun _ s'' => CX outer H s E e s'') (fun e' s'' => CX outer H s E e' s'') s'
theorem cell_has {sc : Scope} {n : Nat} {x : Str} (h : sc.names.lookup x = some .cell) : ∃ c, (cellsFrom n sc.names []).lookup x = some c := by
  have q := PySem.W.cellsFrom_some sc.names n [] (.inl h)
  exact Option.isSome_iff_exists.mp q
theorem inv_start {CX : CXT} {P : Program} {w : World} {K : PySem.W.Frag} {mg : Str → Option Value} {base : Heap} {N ps : List Str} {qual : Str} {scope : Scope} {f : Addr} {cd : Value} {A : Around} {outer : List Env} {s s1 : Shared} {H : Hp} {E : XK} {us : List Value} {vs : List V}
    (S : FnScope N ps scope) (hd : A.handled = none) (e0 : Env0 P w K mg base A outer s H) (hl : vs.length = ps.length) (r : Vals vs us)
    (x : InCallC s s.heap.objs.size (bindL (envOfC qual scope s.heap.objs.size f cd).kindOf (ps.zip us) fun _ => none) (cellsFrom (s.heap.objs.size + 1) scope.names []) (bindC (envOfC qual scope s.heap.objs.size f cd).kindOf (ps.zip us) fun _ => none) s1) :
    Inv (cxOf CX P w K mg base N qual scope f cd A outer s H E) [] (start N vs) H s1 := by
  have hpl : ps.length ≤ N.length := by have := congrArg List.length S.pre; rw [List.length_take] at this; omega
  obtain ⟨h1, tk, rfl, hk⟩ := x.done
  have noA : ∀ b : Addr, b ∉ (cxOf CX P w K mg base N qual scope f cd A outer s H E).ex := fun b z => absurd (show b ∈ ([] : List Addr) from z) (by simp)
  refine ⟨⟨e0.mod, S.kind, rfl, rfl, Nat.le_refl _, fun y z c h1 h2 => ?_, fun y hy => ?_, fun y c _ h => ?_, fun _ => hd, Around.frames_deeper e0.frames, .inr ⟨rfl, rfl⟩, fun b z => absurd z (noA b), e0.bs, e0.bsz, fun b _ _ => noA b, fun b z => absurd z (noA b), e0.funs, e0.frf⟩,
    rfl, e0.bare, Un.kept hk, ⟨_, x.toInCall.ns, fun i y v h1 h2 h3 => ?_⟩, fun y c h => ⟨_, x.cell y c h⟩, e0.hok.fresh (Nat.le_refl _), fun y c h => ?_, fun p hp => absurd (show p ∈ ([] : List (Addr × Obj)) from hp) (by simp), e0.hok.kept hk, ?_⟩
  · exact name_of_addr x.apart (PySem.mem_of_lookup h1) (PySem.mem_of_lookup h2)
  · have hy : scope.names.lookup y = some .cell ∨ scope.names.lookup y = some .free := hy
    rcases hy with hy | hy
    · exact cell_has hy
    · exact absurd rfl (S.nofree _ (PySem.mem_of_lookup hy))
  · exact Nat.le_of_lt (x.above y c (PySem.mem_of_lookup h))
  · have hi : i < vs.length := by
      unfold start at h2
      by_cases hi : i < vs.length
      · exact hi
      · rw [List.getElem?_append_right (by simpa using hi)] at h2
        rw [List.getElem?_replicate] at h2
        split at h2 <;> cases h2
    have ha : vs[i]? = some v := by
      unfold start at h2
      rw [List.getElem?_append_left (by simpa using hi), List.getElem?_map] at h2
      cases e : vs[i]? with
      | none => rw [e] at h2; cases h2
      | some a => rw [e] at h2; cases h2; rfl
    obtain ⟨u, hu, rv⟩ := r.get ha
    have hp : ps[i]? = some y := by
      rw [← S.pre, List.getElem?_take_of_lt (by omega)]; exact h1
    have ndP : ps.Nodup := by rw [← S.pre]; exact S.nd.sublist (List.take_sublist _ _)
    refine ⟨u, rv, ?_⟩
    rcases S.par y (List.mem_of_getElem? hp) with k | k
    · exact .inl ⟨k, bindL_get ndP hp hu k⟩
    · obtain ⟨c, e⟩ := cell_has (n := s.heap.objs.size + 1) k
      refine .inr ⟨.inl k, c, e, ?_⟩
      have q := x.cell y c e
      rw [bindC_get ndP hp hu (by show scope.names.lookup y ≠ _; rw [k]; decide)] at q
      exact q
  · exact e0.hok.fresh (Nat.le_of_lt (x.above y c (PySem.mem_of_lookup h)))
  · unfold start
    show _ = N.length
    rw [List.length_append, List.length_map, List.length_replicate]
    omega
theorem fn_of {CX : CXT} {P : Program} {w : World} {K : PySem.W.Frag} {mg : Str → Option Value} {base : Heap} {k : Nat} {f : Addr} {name qual : Str} {params : Arguments} {body : List Stmt} {scope : Scope} {dV kV doc pm cdv ct oc : Value} {an od : Option Addr}
    {osl : Array (Option Value)} {N ps : List Str} {sp : Sp} (lk : K.lookup f = some ⟨oc, od, .func (PySem.W.fnOf name qual params body scope dV kV doc pm an cdv ct), osl⟩) (hcd : PySem.W.codeIn K cdv qual = true) (S : FnScope N ps scope)
    (len : ∀ vs H Q E, sp vs H Q E → vs.length = ps.length)
    (hbody : ∀ (A : Around) (outer : List Env) (s : Shared) (H : Hp) (vs : List V) (Q : VK) (E : XK), Room k (A.deeper (envOfC qual scope s.heap.objs.size f cdv)) → sp vs H Q E →
      ∃ t, PSs (cxOf CX P w K mg base N qual scope f cdv A outer s H E) body t ∧ t { nx := fun _ H' => Q .non H', rt := Q } (start N vs) H) :
    FnOk P w K mg base CX (k + 1) f (PySem.W.fnOf name qual params body scope dV kV doc pm an cdv ct) ps sp := by
  refine ⟨len, fun A outer s H args us vs Q E hr e0 hb r hsp => ?_⟩
  have hl := len _ _ _ _ hsp
  have KX : K.In s.heap := e0.mod.kin.keeps fun b o e => (e0.bs b o e).1
  have lim : s.heap.NoLimit := e0.mod.nolimit.keeps fun b o e => (e0.bs b o e).1
  have hkind : ∀ y ∈ ps.zip us, scope.names.lookup y.1 = some .local ∨ (scope.names.lookup y.1 = some .cell ∧ ((cellsFrom (s.heap.objs.size + 1) scope.names []).lookup y.1).isSome = true) := fun ⟨n, v⟩ hy => by
    rcases S.par n (List.of_mem_zip hy).1 with q | q
    · exact .inl q
    · exact .inr ⟨q, PySem.W.cellsFrom_some _ _ _ (.inl q)⟩
  refine codeAny_call_function hr.depth (KX _ _ lk) rfl S.co S.gen rfl (PySem.W.codeRec_of KX hcd) (hb _ _ _ _ ?_)
  refine wpAny_newFunctionEnv_cells S.kind hkind fun env he s1 x => ?_
  subst he
  refine ⟨lim.keeps x.toInCall.keep, codeAny_func ?_⟩
  obtain ⟨t, ht, hq⟩ := hbody A outer s H vs Q E (hr.deeper _) hsp
  have I : Inv (cxOf CX P w K mg base N qual scope f cdv A outer s H E) [] (start N vs) H s1 := inv_start S hr.hd e0 hl r x
  refine wpAny_mono (ht [] s1 (start N vs) H _ I hq) (fun fl s' hs => ?_) fun e s' hs => hs
  have fin : ∀ {σ' : St} {H' : Hp} {v : V} {u : Value}, Inv (cxOf CX P w K mg base N qual scope f cdv A outer s H E) [] σ' H' s' → RelV v u → Q v H' → CE outer P w H s Q u s' :=
    fun {σ' H' v u} J rv q => ⟨v, H', J.os, J.bare, J.base, J.hok, rv, q⟩
  cases fl with
  | ret u =>
    obtain ⟨v, σ', H', J, rv, q⟩ := hs
    exact fin J rv q
  | next =>
    obtain ⟨σ', H', J, q⟩ := hs
    exact fin (v := V.non) (u := Value.none) J rfl q
  | brk =>
    obtain ⟨_, _, _, q⟩ := hs
    exact False.elim q
  | cont =>
    obtain ⟨_, _, _, q⟩ := hs
    exact False.elim q
end L2
namespace L2
open PySem PySem.Spec PyProof.Rows
section
variable {X : Cx} {x : Str} {p pos : Pos} {e : Expr} {es : List Expr} {t : TA} {id T : String} {r : List V → Hp → VK → Prop}
noncomputable def tCB (r : List V → Hp → VK → Prop) (t : TA) : TE := fun σ H Q => t σ H fun vs H1 => r vs H1 Q
theorem pe_callB (hc : CallR X (.builtin id) r) (hg : Gl X x) (hm : X.mg x = none) (hv : bootBuiltins x = some (.builtin id)) (ha : PA X (e :: es) t) (hn : x ≠ "__name__" := by decide) (hdb : (x == ("__debug__" : Str)) = false := by decide)
    (he : starEach (e :: es) X.env = (false, eval e X.env) :: starEach es X.env := by rfl) (hpl : (backTo pos (starEach es X.env)).any (·.1) = false := by rfl) : PE X (.Call (.Name x p) (e :: es) [] pos) (tCB r t) := by
  intro pins s σ H Q I h
  refine wpAny_Call_Name_kw (ld_blt I hg hm hv ?_ hn hdb)
  exact PyProof.Rows.callWith_builtin1 (thn (ha pos pins s σ H _ I h) fun us s1 ⟨vs, H1, I1, r1, q1⟩ => hc pins s1 σ H1 vs us Q I1 r1 q1) he hpl
theorem pe_callTy (hc : CallR X (.type T) r) (hg : Gl X x) (hm : X.mg x = none) (hv : bootBuiltins x = some (.type T)) (ha : PA X (e :: es) t) (hn : x ≠ "__name__" := by decide) (hdb : (x == ("__debug__" : Str)) = false := by decide)
    (he : starEach (e :: es) X.env = (false, eval e X.env) :: starEach es X.env := by rfl) (hpl : (backTo pos (starEach es X.env)).any (·.1) = false := by rfl) : PE X (.Call (.Name x p) (e :: es) [] pos) (tCB r t) := by
  intro pins s σ H Q I h
  refine wpAny_Call_Name_kw (ld_blt I hg hm hv ?_ hn hdb)
  exact PyProof.Rows.callWith_type1 (thn (ha pos pins s σ H _ I h) fun us s1 ⟨vs, H1, I1, r1, q1⟩ => hc pins s1 σ H1 vs us Q I1 r1 q1) he hpl
end
end L2
namespace HT
open PySem PyProof.Rows
section
open PySem.SeqAt
open PySem.AutoSeq1 (wpAny_loadPart')
open PySem.MeetsSeq PySem.MeetsSeq2 PySem.MeetsSeq3
end
section
variable {prog : Program} {w : World} {A : Around} {E : Value → Shared → Prop} {s : Shared}
theorem cat_tup {t b : Addr} {vs ws : List Value} {Q : Value → Shared → Prop} (ht : IsTup s.heap t vs.toArray) (hb : IsTup s.heap b ws.toArray) (hv : vs ≠ [])
    (h1 : ws = [] → Q (.ref t) s) (h2 : ws ≠ [] → Q (.ref s.heap.objs.size) { s with heap := s.heap.push { cls := .type "tuple", data := .seq (vs ++ ws).toArray } })
    (hsz : vs.length + ws.length ≤ sizeLine) : wpAny (model prog w) A (binaryOp .Add (.ref t) (.ref b)) Q E s := by
  obtain ⟨⟨cls, dd, data, sl⟩, ho, hc, n, hd⟩ := id ht
  obtain ⟨⟨cls2, dd2, data2, sl2⟩, ho2, hc2, n2, hd2⟩ := id hb
  simp only at hc hd hc2 hd2
  subst hc hd hc2 hd2
  have e : vs.toArray ++ ws.toArray = (vs ++ ws).toArray := by simp
  by_cases hw : ws = []
  · exact concat_meets ⟨_, ho, rfl⟩ ⟨_, ho2, rfl⟩ noFill_tuple_add seq_tuple_add PySem.F.slot_tuple_add PySem.F.entry_tuple_add (PySem.F.args_tuple_add_2 _ _)
      (tuple_addW1 t b vs.toArray ws.toArray n n2 dd dd2 sl sl2 (by simpa using hv) (by simp [hw])) ⟨ho, ho2, h1 hw⟩
  · refine concat_meets ⟨_, ho, rfl⟩ ⟨_, ho2, rfl⟩ noFill_tuple_add seq_tuple_add PySem.F.slot_tuple_add PySem.F.entry_tuple_add (PySem.F.args_tuple_add_2 _ _)
      (tuple_addW2 t b vs.toArray ws.toArray n n2 dd dd2 sl sl2 (by simpa using hv) (by simpa using hw) (by rw [List.size_toArray, List.size_toArray]; exact hsz)) ⟨ho, ho2, ?_⟩
    rw [e]
    exact h2 hw
noncomputable def sIx (n d : Nat) : Option Int → Nat
  | none => d
  | some v => if v < 0 then (v + (n : Int)).toNat else min v.toNat n
theorem sIx_none (n d : Nat) : sIx n d none = d := rfl
theorem sIx_nat (n d k : Nat) : sIx n d (some (k : Int)) = min k n := by
  show (if (k : Int) < 0 then ((k : Int) + (n : Int)).toNat else min (k : Int).toNat n) = min k n
  rw [if_neg (by omega), Int.toNat_natCast]
theorem sIx_le (n d : Nat) (hd : d ≤ n) (o : Option Int) : sIx n d o ≤ n := by
  cases o with
  | none => exact hd
  | some v =>
    show (if v < 0 then (v + (n : Int)).toNat else min v.toNat n) ≤ n
    by_cases hv : v < 0
    · rw [if_pos hv]; omega
    · rw [if_neg hv]; exact Nat.min_le_right _ _
theorem clip_eq (v : Int) (n d : Nat) : (if v < 0 then max (v + (n : Int)) 0 else min v (n : Int)) = ((sIx n d (some v) : Nat) : Int) := by
  show (if v < 0 then max (v + (n : Int)) 0 else min v (n : Int)) = (((if v < 0 then (v + (n : Int)).toNat else min v.toNat n) : Nat) : Int)
  by_cases hv : v < 0
  · simp only [if_pos hv]; omega
  · simp only [if_neg hv]; omega
theorem adjust_gen (lo hi : Option Int) (n : Nat) : Builtin.Slice.sliceAdjust lo hi 1 (n : Int) = (((sIx n 0 lo : Nat) : Int), ((sIx n n hi : Nat) : Int)) := by
  have h1 : ¬ ((1 : Int) < 0) := by omega
  unfold Builtin.Slice.sliceAdjust
  simp only [h1, if_false]
  refine Prod.ext ?_ ?_
  · cases lo with
    | none => rfl
    | some v => exact clip_eq v n 0
  · cases hi with
    | none => rfl
    | some v => exact clip_eq v n n
theorem places_gen (i j : Nat) : Builtin.Slice.slicePlaces (i : Int) (j : Int) 1 = j - i := by
  unfold Builtin.Slice.slicePlaces
  have h1 : (1 : Int) > 0 := by omega
  simp only [h1, if_true, Int.ediv_one]
  split <;> omega
theorem slicePart_ {v : Value} {o : Option Int} {Q : Option Int → Shared → Prop} (p : IsPart v o) (h : Q o s) : wpAny (model prog w) A (Builtin.Slice.slicePartIndex v) Q E s := by
  cases p with
  | none => exact slicePart_none h
  | int i t => exact slicePart_int h
theorem sliceApplied_gen {sl : Addr} {vl vu : Value} {lo hi : Option Int} {n : Nat} {Q : Int × Int × Nat → Shared → Prop} (hs : s.heap.IsSliceOf sl vl vu .none) (pl : IsPart vl lo) (pu : IsPart vu hi)
    (h : Q (((sIx n 0 lo : Nat) : Int), 1, sIx n n hi - sIx n 0 lo) s) : wpAny (model prog w) A (Builtin.Slice.sliceApplied (.ref sl) (pure (n : Int))) Q E s := by
  obtain ⟨os, hos, hcs, hds⟩ := id hs
  unfold Builtin.Slice.sliceApplied Builtin.Slice.sliceFields
  refine wpAny_bind (wpAny_bind (wpAny_field hos hds (x := vl) rfl (wpAny_bind (wpAny_field hos hds (x := vu) rfl (wpAny_bind (wpAny_field hos hds (x := .none) rfl (wpAny_pure ?_)))))))
  refine wpAny_bind (slicePart_none ?_)
  show wpAny _ _ (if ((1 : Int) == 0) = true then _ else _) _ _ s
  rw [if_neg (by decide)]
  refine wpAny_bind (slicePart_ pl (wpAny_bind (slicePart_ pu (wpAny_bind (wpAny_pure ?_)))))
  show wpAny _ _ (match Builtin.Slice.sliceAdjust lo hi 1 (n : Int) with | (lo, hi) => pure (lo, (1 : Int), Builtin.Slice.slicePlaces lo hi 1)) _ _ s
  rw [adjust_gen lo hi n]
  show wpAny _ _ (pure (((sIx n 0 lo : Nat) : Int), (1 : Int), Builtin.Slice.slicePlaces ((sIx n 0 lo : Nat) : Int) ((sIx n n hi : Nat) : Int) 1)) _ _ s
  rw [places_gen]
  exact wpAny_pure h
theorem pick_gen (xs : Array Value) (i k : Nat) : ((List.range k).filterMap fun (m : Nat) => xs[((i : Int) + (m : Int) * 1).toNat]?).toArray = ((xs.toList.drop i).take k).toArray := by
  have e : (fun (m : Nat) => xs[((i : Int) + (m : Int) * 1).toNat]?) = fun m => xs[i + m]? := by
    funext m
    have : ((i : Int) + (m : Int) * 1).toNat = i + m := by omega
    rw [this]
  rw [e]
  have := pick_run xs i k
  rw [List.filterMap_map] at this
  have e2 : ((fun x => xs[x]?) ∘ fun x => i + x) = fun m => xs[i + m]? := rfl
  rw [e2] at this
  rw [this]
theorem getItem_tuple_cut {t sl : Addr} {items : Array Value} {vl vu : Value} {lo hi : Option Int} {Q : Value → Shared → Prop} (ht : IsTup s.heap t items) (hs : s.heap.IsSliceOf sl vl vu .none) (pl : IsPart vl lo) (pu : IsPart vu hi)
    (hw : ¬ (sIx items.size 0 lo = 0 ∧ sIx items.size items.size hi = items.size))
    (h : Q (.ref s.heap.objs.size) { s with heap := s.heap.push { cls := .type "tuple", data := .seq ((items.toList.drop (sIx items.size 0 lo)).take (sIx items.size items.size hi - sIx items.size 0 lo)).toArray } })
    (hsz : items.size ≤ sizeLine) : wpAny (model prog w) A (getItem (.ref t) (.ref sl)) Q E s := by
  have htake : sizeOk (.seq ((items.toList.drop (sIx items.size 0 lo)).take (sIx items.size items.size hi - sIx items.size 0 lo)).toArray) := by
    show ((items.toList.drop (sIx items.size 0 lo)).take (sIx items.size items.size hi - sIx items.size 0 lo)).toArray.size ≤ sizeLine
    rw [List.size_toArray, List.length_take, List.length_drop, Array.length_toList]
    omega
  have hj : sIx items.size items.size hi ≤ items.size := sIx_le _ _ (Nat.le_refl _) hi
  obtain ⟨os, hos, hcs, hds⟩ := id hs
  have hTs : s.TypeIs (.ref sl) "slice" := ⟨os, hos, hcs⟩
  unfold getItem
  try with_reducible refine wpAny_holding ?_
  first | refine wpAny_bind (wpAny_pure ?_) | skip
  refine wpAny_bind (wpAny_sequenceKey ht.typeIs (by decide) ?_)
  refine wpAny_bind (wpAny_callSpecial?_slot (name := Str.ofString "__getitem__") ht.typeIs PyProof.Rows.slot_tuple_getitem
    (wpAny_call_entry PyProof.Rows.slot_tuple_getitem ht.typeIs entry_tuple_getitem ?_ (args_tuple_getitem _ _)))
  show wpAny _ _ (Builtin.Tuple.tupleItemsOf (.ref t) >>= _) _ _ s
  refine wpAny_bind (tupleItemsOf_ ht ?_)
  refine wpAny_bind (wpAny_typeOf hTs ?_)
  rw [if_pos (by decide)]
  refine wpAny_bind (sliceApplied_gen hs pl pu ?_)
  have hno : ¬ ((((sIx items.size 0 lo : Nat) : Int) == 0 && (1 : Int) == 1 && (sIx items.size items.size hi - sIx items.size 0 lo) == items.size) = true) := by
    intro q
    rw [Bool.and_eq_true, Bool.and_eq_true] at q
    have q1 : ((sIx items.size 0 lo : Nat) : Int) = 0 := eq_of_beq q.1.1
    have q2 : sIx items.size items.size hi - sIx items.size 0 lo = items.size := eq_of_beq q.2
    exact hw ⟨by omega, by omega⟩
  show wpAny _ _ (if (((sIx items.size 0 lo : Nat) : Int) == 0 && (1 : Int) == 1 && (sIx items.size items.size hi - sIx items.size 0 lo) == items.size) = true then _ else _) _ _ s
  rw [if_neg hno, pick_gen]
  first
    | exact wpAny_bind (m := Builtin.Tuple.tupleExact _) (wpAny_newObj_type (wpAny_pure ⟨_, rfl, wpAny_pure h⟩) htake)
    | exact wpAny_bind (m := Builtin.Tuple.tupleExact _) (wpAny_newObj_type (wpAny_bind (wpAny_pure (wpAny_pure ⟨_, rfl, wpAny_pure h⟩))) htake)
    | exact wpAny_bind (wpAny_bind (m := Builtin.Tuple.tupleExact _) (wpAny_newObj_type (wpAny_pure (wpAny_pure ⟨_, rfl, wpAny_pure h⟩)) htake))
    | exact wpAny_bind (wpAny_bind (m := Builtin.Tuple.tupleExact _) (wpAny_newObj_type (wpAny_pure ⟨_, rfl, wpAny_pure h⟩) htake))
end
end HT
namespace L2
open PySem PySem.Spec PyProof.Rows
noncomputable abbrev TO := St → Hp → (Option Int → Hp → Prop) → Prop
noncomputable def PO (X : Cx) (e : Option Expr) (t : TO) : Prop :=
  ∀ (pins : List (Addr × Obj)) (s : Shared) (σ : St) (H : Hp) (Q : Option Int → Hp → Prop), Inv X pins σ H s → t σ H Q →
    wpAny (model X.prog X.w) X.A (evalPart e X.env) (fun u s' => ∃ o H', Inv X pins σ H' s' ∧ IsPart u o ∧ Q o H') X.xe s
noncomputable def tNoPart : TO := fun _ H Q => Q none H
noncomputable def tPart (t : TE) : TO := fun σ H Q => t σ H fun x H1 => ∃ i, x = .int i ∧ Q (some i) H1
section
variable {X : Cx} {e : Expr} {te : TE} {lo hi : Option Expr} {tl th : TO} {pos p2 : Pos}
theorem po_none : PO X none tNoPart := by
  intro pins s σ H Q I h
  rw [evalPart_none]
  exact wpAny_pure ⟨none, H, I, .none, h⟩
theorem po_some (h : PE X e te) : PO X (some e) (tPart te) := by
  intro pins s σ H Q I hw
  rw [evalPart_some]
  refine thn (h pins s σ H _ I hw) fun u s1 ⟨x, H1, I1, r1, q1⟩ => ?_
  obtain ⟨i, rfl, q⟩ := q1
  obtain ⟨t, rfl⟩ := r1
  exact ⟨some i, H1, I1, .int i t, q⟩
noncomputable def SlR (X : Cx) (r : V → Option Int → Option Int → Hp → VK → Prop) : Prop :=
  ∀ (pins : List (Addr × Obj)) (s : Shared) (σ : St) (H : Hp) (x : V) (v vl vu : Value) (lo hi : Option Int) (sl : Addr) (Q : VK), Inv X pins σ H s → RelV x v → s.heap.IsSliceOf sl vl vu .none → IsPart vl lo → IsPart vu hi → r x lo hi H Q →
    ∃ T id, typeLookup (.type T) "__getitem__" = pure (some (.builtin id)) ∧ s.TypeIs v T ∧ wpAny (model X.prog X.w) X.A (getItem v (.ref sl)) (EP X pins σ Q) X.xe s
theorem SlR.or {r r' : V → Option Int → Option Int → Hp → VK → Prop} (h : SlR X r) (h' : SlR X r') : SlR X (fun x lo hi H Q => r x lo hi H Q ∨ r' x lo hi H Q) := by
  intro pins s σ H x v vl vu lo hi sl Q I rx hs pl pu q
  rcases q with q | q
  · exact h pins s σ H x v vl vu lo hi sl Q I rx hs pl pu q
  · exact h' pins s σ H x v vl vu lo hi sl Q I rx hs pl pu q
noncomputable def tSl (r : V → Option Int → Option Int → Hp → VK → Prop) (te : TE) (tl th : TO) : TE := fun σ H Q => te σ H fun x H1 => tl σ H1 fun l H2 => th σ H2 fun u H3 => r x l u H3 Q
theorem pe_slice {r : V → Option Int → Option Int → Hp → VK → Prop} (hr : SlR X r) (he : PE X e te) (hl : PO X lo tl) (hu : PO X hi th) : PE X (.Subscript e (.Slice lo hi none p2) pos) (tSl r te tl th) := by
  intro pins s σ H Q I h
  refine Subscript_ (thn (he pins s σ H _ I h) fun v s1 ⟨x, H1, I1, r1, q1⟩ => ?_)
  refine wpAny_Slice (thn (hl pins s1 σ H1 _ I1 q1) fun vl s2 ⟨l, H2, I2, pl, q2⟩ => thn (hu pins s2 σ H2 _ I2 q2) fun vu s3 ⟨u, H3, I3, pu, q3⟩ => ?_)
  rw [evalPart_none]
  refine wpAny_pure ?_
  have I4 : Inv X pins σ H3 { s3 with heap := s3.heap.push { cls := .type "slice", data := .fields #[vl, vu, .none] } } := I3.kept (t' := s3.toks) fun b ob q => Heap.get?_push_of_some _ q
  obtain ⟨T, id, hT, ht, hg⟩ := hr pins { s3 with heap := s3.heap.push { cls := .type "slice", data := .fields #[vl, vu, .none] } } σ H3 x v vl vu l u s3.heap.objs.size Q I4 r1 (Heap.IsSliceOf.new ..) pl pu q3
  show wpAny (model X.prog X.w) X.A (subscriptTail e (.Slice lo hi none p2) v (.ref s3.heap.objs.size)) (EP X pins σ Q) X.xe { s3 with heap := s3.heap.push { cls := .type "slice", data := .fields #[vl, vu, .none] } }
  exact tail_any (ops := [.ref s3.heap.objs.size, v]) ht hT hg (by with_unfolding_all rfl)
noncomputable def cutV (xs : List V) (lo hi : Option Int) : List V := (xs.drop (HT.sIx xs.length 0 lo)).take (HT.sIx xs.length xs.length hi - HT.sIx xs.length 0 lo)
theorem cutV_length (xs : List V) (lo hi : Option Int) : (cutV xs lo hi).length ≤ xs.length := by
  unfold cutV
  rw [List.length_take, List.length_drop]
  omega
noncomputable def rSlT (K : PySem.W.Frag) : V → Option Int → Option Int → Hp → VK → Prop := fun x lo hi H Q => ∃ a xs, x = .ref a ∧ SqT K H a xs ∧
  ¬ (HT.sIx xs.length 0 lo = 0 ∧ HT.sIx xs.length xs.length hi = xs.length) ∧ ∀ p, H p = none → Q (.ref p) (upd H p (.tup (cutV xs lo hi)))
theorem sl_tup : SlR X (rSlT X.K) := by
  intro pins s σ H x v vl vu lo hi sl Q I rx hs pl pu h
  obtain ⟨a, xs, rfl, hx, hw, q⟩ := h
  cases rx
  obtain ⟨its, r, ht, hz⟩ := I.tuple hx
  have hlen : its.toArray.size = xs.length := by rw [List.size_toArray]; exact r.length.symm
  refine ⟨"tuple", _, PyProof.Rows.slot_tuple_getitem.lookup, ht.typeIs, ?_⟩
  refine HT.getItem_tuple_cut ht hs pl pu (by rw [hlen]; exact hw) ?_ (by rw [hlen]; exact hz)
  rw [hlen]
  refine ⟨.ref s.heap.objs.size, _, I.laid (t' := s.toks) (o := .tup (cutV xs lo hi)) (fun b ob q => Heap.get?_push_of_some _ q) (Nat.le_refl _) ?_, rfl, q _ (I.hok.fresh (Nat.le_refl _))⟩
  exact ⟨Nat.le_trans (cutV_length xs lo hi) hz, _, (r.drop (HT.sIx xs.length 0 lo)).take (HT.sIx xs.length xs.length hi - HT.sIx xs.length 0 lo), TupD.new _ _⟩
noncomputable def rCatT (K : PySem.W.Frag) : R2 := fun x y H Q => ∃ a b xs ys, x = .ref a ∧ y = .ref b ∧ SqT K H a xs ∧ SqT K H b ys ∧ xs ≠ [] ∧ xs.length + ys.length ≤ sizeLine ∧
  (ys = [] → Q (.ref a) H) ∧ (ys ≠ [] → ∀ p, H p = none → Q (.ref p) (upd H p (.tup (xs ++ ys))))
theorem Vals.nil_iff {xs : List V} {us : List Value} (r : Vals xs us) : us = [] ↔ xs = [] := by
  cases r with
  | nil => simp
  | cons _ _ => simp
theorem op_catT : OpR X (binaryOp .Add) (rCatT X.K) := by
  intro pins s σ H x y v u Q I rx ry h
  obtain ⟨a, b, xs, ys, rfl, rfl, ha, hb, hx, hz, q1, q2⟩ := h
  cases rx
  cases ry
  obtain ⟨its, r1, p1, _⟩ := I.tuple ha
  obtain ⟨its2, r2, p2, _⟩ := I.tuple hb
  refine HT.cat_tup p1 p2 (fun z => hx (r1.nil_iff.mp z)) (fun z => ⟨.ref a, H, I, rfl, q1 (r2.nil_iff.mp z)⟩) (fun z => ?_) (by rw [← r1.length, ← r2.length]; exact hz)
  refine ⟨.ref s.heap.objs.size, _, I.laid (t' := s.toks) (o := .tup (xs ++ ys)) (fun b ob q => Heap.get?_push_of_some _ q) (Nat.le_refl _) ?_, rfl, q2 (fun w => z (r2.nil_iff.mpr w)) _ (I.hok.fresh (Nat.le_refl _))⟩
  exact ⟨by rw [List.length_append]; exact hz, _, r1.append r2, TupD.new _ _⟩
end
end L2
namespace L2
open PySem PySem.Spec PyProof.Rows
noncomputable def ixN (n : Nat) (i : Int) : Option Nat := if 0 ≤ i then (if i < n then some i.toNat else none) else if -(n : Int) ≤ i then some (i + n).toNat else none
noncomputable def atI {α : Type} (xs : List α) (i : Int) : Option α := (ixN xs.length i).bind fun j => xs[j]?
theorem ixN_seq {n : Nat} {i : Int} {j : Nat} (h : ixN n i = some j) : seqIndex? i n = some j ∧ j < n ∧ -(n : Int) ≤ i ∧ i < n := by
  unfold ixN at h
  by_cases h0 : 0 ≤ i
  · rw [if_pos h0] at h
    by_cases h1 : i < n
    · rw [if_pos h1] at h
      have e : i.toNat = j := Option.some.inj h
      exact ⟨by rw [seqIndex_of h0 h1, e], by omega, by omega, h1⟩
    · rw [if_neg h1] at h; cases h
  · rw [if_neg h0] at h
    by_cases h1 : -(n : Int) ≤ i
    · rw [if_pos h1] at h
      have e : (i + n).toNat = j := Option.some.inj h
      exact ⟨by rw [seqIndex_neg (by omega) h1, e], by omega, h1, by omega⟩
    · rw [if_neg h1] at h; cases h
theorem atI_get {α : Type} {xs : List α} {i : Int} {v : α} (h : atI xs i = some v) : ∃ j, seqIndex? i xs.length = some j ∧ xs[j]? = some v ∧ j < xs.length ∧ -(xs.length : Int) ≤ i ∧ i < xs.length := by
  unfold atI at h
  cases e : ixN xs.length i with
  | none => rw [e] at h; cases h
  | some j =>
    rw [e] at h
    obtain ⟨h1, h2, h3, h4⟩ := ixN_seq e
    exact ⟨j, h1, h, h2, h3, h4⟩
theorem atI_nat {α : Type} {xs : List α} {j : Nat} {v : α} (h : xs[j]? = some v) : atI xs (j : Int) = some v := by
  have hj : j < xs.length := (List.getElem?_eq_some_iff.mp h).1
  have e : ixN xs.length (j : Int) = some j := by
    unfold ixN
    rw [if_pos (by omega), if_pos (by omega)]; simp
  unfold atI; rw [e]; exact h
noncomputable def PlainIx (b : Expr) : Prop := ∀ o i, subscripted b false o i = operate [o, i] (getItem o i)
noncomputable def IxR (X : Cx) (r : R2) : Prop :=
  ∀ (value slice : Expr) (pins : List (Addr × Obj)) (s : Shared) (σ : St) (H : Hp) (x y : V) (v u : Value) (Q : VK), Inv X pins σ H s → RelV x v → RelV y u → r x y H Q →
    subscripted slice false v u = operate [v, u] (getItem v u) → wpAny (model X.prog X.w) X.A (subscriptTail value slice v u) (EP X pins σ Q) X.xe s
noncomputable def MtR (X : Cx) (id : String) (r : V → List V → Hp → VK → Prop) : Prop :=
  ∀ (pins : List (Addr × Obj)) (s : Shared) (σ : St) (H : Hp) (x : V) (xs : List V) (v : Value) (us : List Value) (Q : VK), Inv X pins σ H s → RelV x v → Vals xs us → r x xs H Q →
    wpAny (model X.prog X.w) X.A (call (.builtin id) (v :: us)) (EP X pins σ Q) X.xe s
section
variable {X : Cx} {a b : Expr} {ta tb : TE} {pos : Pos}
theorem IxR.or {r r' : R2} (h : IxR X r) (h' : IxR X r') : IxR X (fun x y H Q => r x y H Q ∨ r' x y H Q) := by
  intro value slice pins s σ H x y v u Q I rx ry q hs
  rcases q with q | q
  · exact h value slice pins s σ H x y v u Q I rx ry q hs
  · exact h' value slice pins s σ H x y v u Q I rx ry q hs
theorem MtR.or {id : String} {r r' : V → List V → Hp → VK → Prop} (h : MtR X id r) (h' : MtR X id r') : MtR X id (fun x xs H Q => r x xs H Q ∨ r' x xs H Q) := by
  intro pins s σ H x xs v us Q I rx rs q
  rcases q with q | q
  · exact h pins s σ H x xs v us Q I rx rs q
  · exact h' pins s σ H x xs v us Q I rx rs q
theorem pe_ix {r : R2} (hr : IxR X r) (ha : PE X a ta) (hb : PE X b tb) (hs : PlainIx b) : PE X (.Subscript a b pos) (tOp r ta tb) := by
  intro pins s σ H Q I h
  exact Subscript_ (binT ha hb I h fun v u s2 x y H2 I2 rx ry q => hr a b pins s2 σ H2 x y v u Q I2 rx ry q (hs _ _))
noncomputable def rIxL (K : PySem.W.Frag) : R2 := fun x y H Q => ∃ p xs i v, x = .ref p ∧ y = .int i ∧ SqL K H p xs ∧ atI xs i = some v ∧ Q v H
noncomputable def rIxT (K : PySem.W.Frag) : R2 := fun x y H Q => ∃ p xs i v, x = .ref p ∧ y = .int i ∧ SqT K H p xs ∧ atI xs i = some v ∧ Q v H
noncomputable def rIxS : R2 := fun x y H Q => ∃ z i c, x = .str z ∧ y = .int i ∧ z.length ≤ sizeLine ∧ atI z.cps.toList i = some c ∧ Q (.str ⟨#[c]⟩) H
theorem ix_list : IxR X (rIxL X.K) := by
  intro value slice pins s σ H x y v u Q I rx ry h hs
  obtain ⟨p, xs, i, z, rfl, rfl, hq, he, q⟩ := h
  cases rx
  obtain ⟨t, rfl⟩ := ry
  obtain ⟨its, r, pl, hz⟩ := I.list hq
  obtain ⟨j, h1, h2, h3, h4, h5⟩ := atI_get he
  obtain ⟨w, ew, rw'⟩ := r.get h2
  have hl := r.length
  have hn := line63
  have fin : EP X pins σ Q w s := ⟨z, H, I, rw', q⟩
  by_cases h0 : 0 ≤ i
  · have hj : i.toNat = j := by
      rw [seqIndex_of h0 h5] at h1
      exact Option.some.inj h1
    exact item_listR pl.isList h0 (by omega) (by rw [hj]; simpa using ew) fin hs
  · have hj : (i + (its.toArray.size : Int)).toNat = j := by
      rw [seqIndex_neg (by omega) h4] at h1
      rw [List.size_toArray, ← hl]
      exact Option.some.inj h1
    exact subscriptTail_builtinR (x := w) pl.isList.typeIs slot_list_getitem.lookup
      (wpAny_getItem_list_neg (Q := fun r s' => r = w ∧ EP X pins σ Q r s') pl.isList (by omega) (by rw [List.size_toArray] <;> omega) (by omega) (by rw [hj]; simpa using ew) ⟨rfl, fin⟩) hs
theorem ix_tup : IxR X (rIxT X.K) := by
  intro value slice pins s σ H x y v u Q I rx ry h hs
  obtain ⟨p, xs, i, z, rfl, rfl, hq, he, q⟩ := h
  cases rx
  obtain ⟨t, rfl⟩ := ry
  obtain ⟨its, r, pl, hz⟩ := I.tuple hq
  obtain ⟨j, h1, h2, h3, h4, h5⟩ := atI_get he
  obtain ⟨w, ew, rw'⟩ := r.get h2
  have hl := r.length
  have hn := line63
  have fin : EP X pins σ Q w s := ⟨z, H, I, rw', q⟩
  exact subscriptTail_builtinR (x := w) pl.typeIs slot_tuple_getitem.lookup
    (getItem_tuple (j := j) (Q := fun r s' => r = w ∧ EP X pins σ Q r s') pl (by omega) (by omega) (by rw [List.size_toArray, ← hl]; exact h1) (by simpa using ew) ⟨rfl, fin⟩) hs
theorem ix_str : IxR X rIxS := by
  intro value slice pins s σ H x y v u Q I rx ry h hs
  obtain ⟨z, i, c, rfl, rfl, hz, he, q⟩ := h
  obtain ⟨t, rfl⟩ := rx
  obtain ⟨t', rfl⟩ := ry
  obtain ⟨j, h1, h2, h3, h4, h5⟩ := atI_get he
  have hl : z.cps.toList.length = z.length := by simp [Str.length]
  rw [hl] at h1 h4 h5
  have hn := line63
  exact tail_any (typeIs_str s z t) slot_str_getitem.lookup (getItem_str (c := c) (by
    have e1 : decide (i < -(2 ^ 63 : Int)) = false := decide_eq_false (by omega)
    have e2 : decide (i ≥ 2 ^ 63) = false := decide_eq_false (by omega)
    rw [e1, e2, Bool.or_false]) (by rw [h1]; simpa using h2) ⟨.str ⟨#[c]⟩, H, I.tok _, ⟨_, rfl⟩, q⟩) hs
noncomputable def rIx (K : PySem.W.Frag) : R2 := fun x y H Q => rIxL K x y H Q ∨ rIxT K x y H Q ∨ rIxS x y H Q
theorem ix_seq : IxR X (rIx X.K) := ix_list.or (ix_tup.or ix_str)
theorem Inv.lst {pins : List (Addr × Obj)} {σ : St} {H : Hp} {s : Shared} {p : Addr} {xs : List V} (I : Inv X pins σ H s) (h : H p = some (.lst xs)) :
    ∃ (its : List Value) (n : Nat), Vals xs its ∧ s.heap.get? p = some { cls := .type "list", data := .seq its.toArray n } ∧ xs.length ≤ sizeLine := by
  obtain ⟨z, its, n, r, e⟩ := I.hok p _ h
  exact ⟨its, n, r, e, z⟩
theorem slice_bounds (lo hi : Option Int) (n : Nat) : (sliceBounds lo hi none n).1 = ((HT.sIx n 0 lo : Nat) : Int) ∧ (sliceBounds lo hi none n).2.1 = ((HT.sIx n n hi : Nat) : Int) ∧ (sliceBounds lo hi none n).2.2 = 1 := by
  refine ⟨?_, ?_, rfl⟩
  · cases lo with
    | none => simp [sliceBounds, HT.sIx]
    | some i =>
      simp only [sliceBounds, HT.sIx, Option.getD_none, show (1 : Int) > 0 by decide, if_true]
      by_cases h : i < 0
      · simp only [h, if_true] <;> omega
      · simp only [h, if_false] <;> omega
  · cases hi with
    | none => simp [sliceBounds, HT.sIx]
    | some i =>
      simp only [sliceBounds, HT.sIx, Option.getD_none, show (1 : Int) > 0 by decide, if_true]
      by_cases h : i < 0
      · simp only [h, if_true] <;> omega
      · simp only [h, if_false] <;> omega
theorem slicePick_cut (its : List Value) (lo hi : Option Int) : slicePick its.toArray lo hi none = ((its.drop (HT.sIx its.length 0 lo)).take (HT.sIx its.length its.length hi - HT.sIx its.length 0 lo)).toArray := by
  obtain ⟨h1, h2, h3⟩ := slice_bounds lo hi its.toArray.size
  unfold slicePick
  rw [h1, h2, h3]
  simp only [sliceRange_one, pick_run, List.size_toArray] <;> rfl
noncomputable def rSlL (K : PySem.W.Frag) : V → Option Int → Option Int → Hp → VK → Prop := fun x lo hi H Q => ∃ a xs, x = .ref a ∧ SqL K H a xs ∧ ∀ p, H p = none → Q (.ref p) (upd H p (.lst (cutV xs lo hi)))
theorem sl_list : SlR X (rSlL X.K) := by
  intro pins s σ H x v vl vu lo hi sl Q I rx hs pl pu h
  obtain ⟨a, xs, rfl, hx, q⟩ := h
  cases rx
  obtain ⟨its, r, ht, hz⟩ := I.list hx
  have hlen := r.length
  refine ⟨"list", _, slot_list_getitem.lookup, ht.isList.typeIs, ?_⟩
  refine wpAny_getItem_list_slice ht.isList hs pl pu .none (by simp) ?_ (by rw [List.size_toArray] <;> omega)
  rw [slicePick_cut, ← hlen]
  refine ⟨.ref s.heap.objs.size, _, I.laid (t' := s.toks) (o := .lst (cutV xs lo hi)) (fun b ob q => Heap.get?_push_of_some _ q) (Nat.le_refl _) ?_, rfl, q _ (I.hok.fresh (Nat.le_refl _))⟩
  exact ⟨Nat.le_trans (cutV_length xs lo hi) hz, _, 0, (r.drop (HT.sIx xs.length 0 lo)).take (HT.sIx xs.length xs.length hi - HT.sIx xs.length 0 lo), Heap.get?_push_size _ rfl⟩
theorem call_len_seq : CallR X (.builtin "len") (fun xs H Q => ∃ p ys, xs = [.ref p] ∧ (SqL X.K H p ys ∨ SqT X.K H p ys) ∧ Q (.int ys.length) H) := by
  intro pins s σ H xs us Q I r h
  obtain ⟨p, ys, rfl, hq, q⟩ := h
  obtain ⟨u, rfl, rx⟩ := vals1 r
  cases rx
  have hn := line63
  rcases hq with hq | hq
  · obtain ⟨its, r', pl, hz⟩ := I.list hq
    have hlen := r'.length
    exact Calls.call_len_list pl.isList (by simp only [List.size_toArray] <;> omega) ⟨.int ys.length, H, I.tok _, ⟨s.toks + 1, by rw [List.size_toArray, hlen]⟩, q⟩
  · obtain ⟨its, r', pl, hz⟩ := I.tuple hq
    have hlen := r'.length
    exact len_tuple pl (by simp only [List.size_toArray] <;> omega) ⟨.int ys.length, H, I.tok _, ⟨s.toks + 1, by rw [List.size_toArray, hlen]⟩, q⟩
theorem CallR.or {f : Value} {r r' : List V → Hp → VK → Prop} (h : CallR X f r) (h' : CallR X f r') : CallR X f (fun xs H Q => r xs H Q ∨ r' xs H Q) := by
  intro pins s σ H xs us Q I rs q
  rcases q with q | q
  · exact h pins s σ H xs us Q I rs q
  · exact h' pins s σ H xs us Q I rs q
theorem call_tuple_of : CallR X (.type "tuple") (fun xs H Q => ∃ p ys, xs = [.ref p] ∧ ((SqL X.K H p ys ∧ ∀ l, H l = none → Q (.ref l) (upd H l (.tup ys))) ∨ (SqT X.K H p ys ∧ Q (.ref p) H))) := by
  intro pins s σ H xs us Q I r h
  obtain ⟨p, ys, rfl, h⟩ := h
  obtain ⟨u, rfl, rx⟩ := vals1 r
  cases rx
  rcases h with ⟨hq, q⟩ | ⟨hq, q⟩
  · obtain ⟨its, r', pl, hz⟩ := I.list hq
    have hlen := r'.length
    refine call_tuple_list pl.isList (fun h' kp => ?_) (by simp only [List.size_toArray] <;> omega)
    have I1 : Inv X pins σ H { s with heap := h' } := I.kept (t' := s.toks) kp
    have I2 : Inv X pins σ (upd H h'.objs.size (.tup ys)) { s with heap := h'.push { cls := .type "tuple", data := .seq its.toArray } } :=
      I1.laid (t' := s.toks) (fun b o e => Heap.get?_push_of_some _ e) (Nat.le_refl _) (show ObjOk X.prog X.w _ _ _ (.tup ys) from ⟨hz, its, r', TupD.new _ _⟩)
    exact ⟨.ref h'.objs.size, _, I2, rfl, q _ (I1.hok.fresh (Nat.le_refl _))⟩
  · obtain ⟨its, r', pl, hz⟩ := I.tuple hq
    exact call_tuple_same pl ⟨.ref p, H, I, rfl, q⟩
noncomputable def tyV (K : PySem.W.Frag) (T : String) (x : V) (H : Hp) : Prop := match x with
  | .str _ => T = "str"
  | .int _ => T = "int"
  | .ref p => (T = "list" ∧ ∃ xs, SqL K H p xs) ∨ (T = "tuple" ∧ ∃ o, K.lookup p = some o ∧ o.cls = .type "tuple" ∧ o.dict = none) ∨
      (T = "dict" ∧ ((∃ kvs, H p = some (.dK kvs)) ∨ ∃ kvs, H p = some (.dT kvs))) ∨ (T = "set" ∧ ∃ S n, H p = some (.set S n))
  | _ => False
theorem tyV_is {pins : List (Addr × Obj)} {σ : St} {H : Hp} {s : Shared} {T : String} {x : V} {v : Value} (I : Inv X pins σ H s) (r : RelV x v) (ty : tyV X.K T x H) :
    s.TypeIs v T ∧ ∀ a, v = .ref a → ∃ ob, s.heap.get? a = some ob ∧ ob.dict = none := by
  cases x with
  | str z =>
    obtain ⟨t, rfl⟩ := r
    cases (show T = "str" from ty)
    exact ⟨typeIs_str s z t, fun _ e => nomatch e⟩
  | int i =>
    obtain ⟨t, rfl⟩ := r
    cases (show T = "int" from ty)
    exact ⟨typeIs_int s i t, fun _ e => nomatch e⟩
  | ref p =>
    cases r
    rcases ty with ⟨rfl, xs, hq⟩ | ⟨rfl, o, hk, hc, hd⟩ | ⟨rfl, hk⟩ | ⟨rfl, S, n, hk⟩
    · obtain ⟨its, _, pl, _⟩ := I.list hq
      refine ⟨pl.isList.typeIs, fun a e => ?_⟩
      cases e
      obtain ⟨o, n, e, c, hd, _⟩ := pl
      exact ⟨o, e, hd⟩
    · refine ⟨⟨o, I.kIn p o hk, hc⟩, fun a e => ?_⟩
      cases e
      exact ⟨o, I.kIn _ o hk, hd⟩
    · have z : ∃ o, s.heap.get? p = some o ∧ o.ExactDict := by
        rcases hk with ⟨kvs, hk⟩ | ⟨kvs, hk⟩
        · obtain ⟨_, _, _, _, o, _, _, e, ex, _⟩ := I.hok p _ hk
          exact ⟨o, e, ex⟩
        · obtain ⟨_, _, _, _, o, _, _, e, ex, _⟩ := I.hok p _ hk
          exact ⟨o, e, ex⟩
      obtain ⟨o, e, ex⟩ := z
      refine ⟨⟨o, e, ex.1⟩, fun a e2 => ?_⟩
      cases e2
      exact ⟨o, e, ex.2.1⟩
    · obtain ⟨⟨o, _, _, _, e, ex, _⟩, _⟩ := I.hok p _ hk
      refine ⟨⟨o, e, ex.1⟩, fun a e2 => ?_⟩
      cases e2
      exact ⟨o, e, ex.2.1⟩
  | _ => exact False.elim ty
noncomputable def tBM (K : PySem.W.Frag) (T : String) (r : V → List V → Hp → VK → Prop) (to : TE) (t : TA) : TE := fun σ H Q => to σ H fun x H1 => tyV K T x H1 ∧ t σ H1 fun xs H2 => r x xs H2 Q
variable {o e : Expr} {es : List Expr} {to : TE} {t : TA} {name : Str} {apos cpos : Pos} {T id : String} {r : V → List V → Hp → VK → Prop}
theorem pe_bm (pa : PlainAttrs T) (slot : Slot T name id) (hty : typeOf (.builtin id) = pure (.type "method_descriptor")) (hm : MtR X id r) (ho : PE X o to) (ha : PA X (e :: es) t)
    (hbase : attributeBase o name X.env (eval o X.env) = eval o X.env := by rfl)
    (hfew : ((backTo cpos (starEach (e :: es) X.env)).all (fun x => !x.1) && (backToKw cpos (keywordEach [] X.env)).all (fun x => x.1.isSome)
      && decide ((e :: es).length + ([] : List Keyword).length + (if ([] : List Keyword).isEmpty then 0 else 1) < 30)) = true := by rfl)
    (hline : (apos.endLine == cpos.line) = true := by rfl) (hs : starEach (e :: es) X.env = (false, eval e X.env) :: starEach es X.env := by rfl) (hplain : (backTo cpos (starEach es X.env)).any (·.1) = false := by rfl) :
    PE X (.Call (.Attribute o name apos) (e :: es) [] cpos) (tBM X.K T r to t) := by
  intro pins s σ H Q I h
  refine wpAny_Call_method_late hbase hfew hline rfl (thn (ho pins s σ H _ I h) fun v s1 ⟨x, H1, I1, r1, ty, q1⟩ => ?_)
  obtain ⟨h1, h2⟩ := tyV_is I1 r1 ty
  refine ⟨T, id, pa, slot, hty, h1, h2, ?_⟩
  have hA := ha cpos pins s1 σ H1 _ I1 q1
  rw [hs] at hA ⊢
  refine Calls.callWith_builtin (by show (false || (backTo cpos (starEach es X.env)).any (·.1)) = false; rw [hplain] <;> rfl) (Calls.evalArgs_plain ?_)
  exact thn hA fun us s2 ⟨vs, H2, I2, r2, q2⟩ => hm pins s2 σ H2 x vs v us Q I2 r1 r2 q2
end
end L2
namespace L2
open PySem PySem.Spec PyProof.Rows
noncomputable def MtM (X : Cx) (id : String) (r : V → List V → Hp → VK → Prop) : Prop :=
  ∀ (pins : List (Addr × Obj)) (s : Shared) (σ : St) (H : Hp) (x : V) (xs : List V) (v : Value) (us : List Value) (Q : VK), Inv X pins σ H s → RelV x v → Vals xs us → r x xs H Q →
    wpAny (model X.prog X.w) X.A (call (.builtin id) (v :: us)) (EP X pins σ Q) X.xe s
theorem Vals.one {x : V} {us : List Value} (h : Vals [x] us) : ∃ u, us = [u] ∧ RelV x u := by
  cases h with | cons r t => cases t; exact ⟨_, rfl, r⟩
theorem Vals.two : ∀ {x y : V} {us : List Value}, Vals [x, y] us → ∃ u v, us = [u, v] ∧ RelV x u ∧ RelV y v
  | _, _, _, .cons r (.cons q .nil) => ⟨_, _, rfl, r, q⟩
theorem Vals.zero : ∀ {us : List Value}, Vals [] us → us = []
  | _, .nil => rfl
theorem Vals.reverse {xs : List V} {us : List Value} (h : Vals xs us) : Vals xs.reverse us.reverse := by
  induction h with
  | nil => exact .nil
  | cons r t ih => rw [List.reverse_cons, List.reverse_cons]; exact Vals.append ih (.cons r .nil)
section
variable {X : Cx} {pins : List (Addr × Obj)} {σ : St} {H : Hp} {s : Shared} {l b : Addr} {xs ys zs : List V}
theorem Inv.lset {its its' : List Value} {n : Nat} {f : Array Value → Array Value} {t' : Nat} (I : Inv X pins σ H s) (hH : H l = some (.lst xs))
    (e : s.heap.get? l = some { cls := .type "list", data := .seq its.toArray n }) (hf : f its.toArray = its'.toArray) (hv : Vals ys its') (hz : ys.length ≤ sizeLine) :
    Inv X pins σ (upd H l (.lst ys)) { s with heap := s.heap.update l (Obj.mapSeq f), toks := t' } := by
  have q := PySem.IsL.update e f
  rw [hf] at q
  refine I.write (x := l) (e := l) (by rw [hH]; exact trivial) (.inl rfl) (fun b' u hb hu => (Heap.get?_update_other s.heap (Obj.mapSeq f) (Ne.symm hb)).trans hu) ⟨_, q⟩ ?_
  exact ⟨hz, its', _, hv, q⟩
theorem Inv.lnew {its : List Value} {t' : Nat} (I : Inv X pins σ H s) (hv : Vals ys its) (hz : ys.length ≤ sizeLine) :
    Inv X pins σ (upd H s.heap.objs.size (.lst ys)) { s with heap := s.heap.push { cls := .type "list", data := .seq its.toArray }, toks := t' } :=
  I.laid (fun _ _ q => Heap.get?_push_of_some _ q) (Nat.le_refl _) ⟨hz, its, 0, hv, Heap.get?_push_size _ rfl⟩
theorem Inv.fresh (I : Inv X pins σ H s) : H s.heap.objs.size = none := I.hok.fresh (Nat.le_refl _)
theorem Inv.lstM (I : Inv X pins σ H s) (hH : H l = some (.lst xs)) : xs.length ≤ sizeLine ∧ ∃ (its : List Value) (n : Nat), Vals xs its ∧ xs.length = its.length ∧ s.heap.get? l = some { cls := .type "list", data := .seq its.toArray n } := by
  obtain ⟨z, its, n, r, e⟩ := I.hok l _ hH
  exact ⟨z, its, n, r, r.length, e⟩
theorem notLongL {n : Nat} (h : n ≤ sizeLine) : Builtin.List.listTooLong n = false := by
  unfold Builtin.List.listTooLong
  exact decide_eq_false (by omega)
end
section
variable {X : Cx}
noncomputable def rAppend : V → List V → Hp → VK → Prop := fun x vs H Q => ∃ l xs y, x = .ref l ∧ vs = [y] ∧ H l = some (.lst xs) ∧ xs.length < sizeLine ∧ Q .non (upd H l (.lst (xs ++ [y])))
theorem mt_append : MtM X "list.append" rAppend := by
  intro pins s σ H x vs v us Q I rx rv h
  obtain ⟨l, xs, y, rfl, rfl, hH, hz, q⟩ := h
  cases rx
  obtain ⟨u, rfl, ru⟩ := rv.one
  obtain ⟨z, its, n, r, hl, e⟩ := I.lstM hH
  refine call_meets F.slot_list_append ⟨_, e, rfl⟩ F.entry_list_append (F.args_list_append_2 _ _) (PySem.list_append l its.toArray n u (by rw [List.size_toArray]; omega)) ⟨e, ?_⟩
  refine ⟨.non, _, I.lset (its' := its ++ [u]) hH e (by simp) (r.append (.cons ru .nil)) ?_, rfl, q⟩
  rw [List.length_append, List.length_singleton]
  omega
end
section
variable {prog : Program} {w : World} {A : Around} {E : Value → Shared → Prop} {s : Shared}
set_option maxRecDepth 100000 in
end
section
variable {X : Cx}
end
end L2
namespace L2
open PySem PySem.Spec PyProof.Rows
section
variable {κ : Type} [DecidableEq κ]
noncomputable def valV (kvs : List (κ × V)) (k : κ) : Option V := (kvs.find? fun kv => decide (kv.1 = k)).map (·.2)
noncomputable def putK (kvs : List (κ × V)) (k : κ) (v : V) : List (κ × V) :=
  if (kvs.any fun kv => decide (kv.1 = k)) = true then kvs.map (fun kv => if kv.1 = k then (kv.1, v) else kv) else kvs ++ [(k, v)]
noncomputable def dropK (kvs : List (κ × V)) (k : κ) : List (κ × V) := kvs.filter fun kv => decide (kv.1 ≠ k)
theorem valV_pos {p : κ × V} {r : List (κ × V)} {k : κ} (e : p.1 = k) : valV (p :: r) k = some p.2 := by simp [valV, List.find?_cons, e]
theorem valV_neg {p : κ × V} {r : List (κ × V)} {k : κ} (e : ¬ p.1 = k) : valV (p :: r) k = valV r k := by simp [valV, List.find?_cons, e]
theorem valV_any (k : κ) : ∀ kvs : List (κ × V), (kvs.any fun kv => decide (kv.1 = k)) = (valV kvs k).isSome
  | [] => rfl
  | p :: r => by
    rw [List.any_cons]
    by_cases e : p.1 = k
    · simp only [valV_pos e, decide_eq_true e, Bool.true_or, Option.isSome_some]
    · rw [valV_neg e, decide_eq_false e, Bool.false_or]; exact valV_any k r
theorem RelO.isSome_eq {o : Option V} {u : Option Value} (r : RelO o u) : o.isSome = u.isSome := by
  cases o with
  | none => cases u with
    | none => rfl
    | some _ => exact (show False from r).elim
  | some _ => cases u with
    | none => exact (show False from r).elim
    | some _ => rfl
theorem RelO.getD {o : Option V} {u : Option Value} {d : V} {d' : Value} (r : RelO o u) (rd : RelV d d') : RelV (o.getD d) (u.getD d') := by
  cases o with
  | none => cases u with
    | none => exact rd
    | some _ => exact (show False from r).elim
  | some _ => cases u with
    | none => exact (show False from r).elim
    | some _ => exact r
theorem KV.val {kvs : List (κ × V)} {vs : List (κ × Value)} (r : KV kvs vs) (k : κ) : RelO (valV kvs k) (valueAt vs k) := by
  unfold KV at r
  induction r with
  | nil => exact True.intro
  | @cons p q ps qs h t ih =>
    obtain ⟨h1, h2⟩ := h
    by_cases e : p.1 = k
    · have e' : q.1 = k := h1.symm.trans e
      have b : valueAt (q :: qs) k = some q.2 := by simp [valueAt, List.find?_cons, e']
      rw [valV_pos e, b]; exact h2
    · have e' : ¬ q.1 = k := fun z => e (h1.trans z)
      have b : valueAt (q :: qs) k = valueAt qs k := by simp [valueAt, List.find?_cons, e']
      rw [valV_neg e, b]; exact ih
theorem KV.any {kvs : List (κ × V)} {vs : List (κ × Value)} (r : KV kvs vs) (k : κ) : (kvs.any fun kv => decide (kv.1 = k)) = vs.any fun kv => decide (kv.1 = k) := by
  unfold KV at r
  induction r with
  | nil => rfl
  | cons h t ih => rw [List.any_cons, List.any_cons, ih, h.1]
theorem KV.repl {kvs : List (κ × V)} {vs : List (κ × Value)} (r : KV kvs vs) (k : κ) {y : V} {u : Value} (ry : RelV y u) :
    KV (kvs.map fun kv => if kv.1 = k then (kv.1, y) else kv) (vs.map fun kv => if kv.1 = k then (kv.1, u) else kv) := by
  unfold KV at r ⊢
  induction r with
  | nil => exact .nil
  | @cons p q ps qs h t ih =>
    rw [List.map_cons, List.map_cons]
    refine .cons ?_ ih
    obtain ⟨h1, h2⟩ := h
    by_cases e : p.1 = k
    · rw [if_pos e, if_pos (h1.symm.trans e)]; exact ⟨h1, ry⟩
    · rw [if_neg e, if_neg (fun z => e (h1.trans z))]; exact ⟨h1, h2⟩
theorem KV.put {kvs : List (κ × V)} {vs : List (κ × Value)} (r : KV kvs vs) (k : κ) {y : V} {u : Value} (ry : RelV y u) : KV (putK kvs k y) (stored vs k u) := by
  unfold putK stored
  rw [r.any k]
  by_cases e : (vs.any fun kv => decide (kv.1 = k)) = true
  · rw [if_pos e, if_pos e]; exact r.repl k ry
  · rw [if_neg e, if_neg e]; exact Paired.snoc r ⟨rfl, ry⟩
theorem KV.drop {kvs : List (κ × V)} {vs : List (κ × Value)} (r : KV kvs vs) (k : κ) : KV (dropK kvs k) (without vs k) := by
  unfold KV at r ⊢
  unfold dropK without
  induction r with
  | nil => exact .nil
  | @cons p q ps qs h t ih =>
    obtain ⟨h1, h2⟩ := h
    rw [List.filter_cons, List.filter_cons]
    by_cases e : p.1 = k
    · have a : ¬ decide (p.1 ≠ k) = true := by simp [e]
      have b : ¬ decide (q.1 ≠ k) = true := by simp [h1.symm.trans e]
      rw [if_neg a, if_neg b]; exact ih
    · have e' : ¬ q.1 = k := fun z => e (h1.trans z)
      have a : decide (p.1 ≠ k) = true := by simp [e]
      have b : decide (q.1 ≠ k) = true := by simp [e']
      rw [if_pos a, if_pos b]; exact .cons ⟨h1, h2⟩ ih
theorem KV.keys {kvs : List (κ × V)} {vs : List (κ × Value)} (r : KV kvs vs) : kvs.map (·.1) = vs.map (·.1) := by
  unfold KV at r
  induction r with
  | nil => rfl
  | cons h t ih => rw [List.map_cons, List.map_cons, ih, h.1]
theorem KV.length {kvs : List (κ × V)} {vs : List (κ × Value)} (r : KV kvs vs) : kvs.length = vs.length := Paired.length r
end
noncomputable abbrev KT (H : Hp) : List (List Key × V) → List (List Key × Addr × Value) → Prop := Paired fun p q => p.1 = q.1 ∧ H q.2.1 = some (.tup (p.1.map kV)) ∧ RelV p.2 q.2.2
theorem KT.val {H : Hp} {kvs : List (List Key × V)} {xs : List (List Key × Addr × Value)} (r : KT H kvs xs) (k : List Key) : RelO (valV kvs k) ((atKey xs k).map (·.2)) := by
  induction r with
  | nil => exact True.intro
  | @cons p q ps qs h t ih =>
    obtain ⟨h1, _, h2⟩ := h
    by_cases e : p.1 = k
    · have e' : q.1 = k := h1.symm.trans e
      have b : atKey (q :: qs) k = some q.2 := by simp [atKey, List.find?_cons, e']
      rw [valV_pos e, b]; exact h2
    · have e' : ¬ q.1 = k := fun z => e (h1.trans z)
      have b : atKey (q :: qs) k = atKey qs k := by simp [atKey, List.find?_cons, e']
      rw [valV_neg e, b]; exact ih
theorem KT.repl {H : Hp} {kvs : List (List Key × V)} {xs : List (List Key × Addr × Value)} (r : KT H kvs xs) (k : List Key) {y : V} {u : Value} (ry : RelV y u) :
    KT H (kvs.map fun kv => if kv.1 = k then (kv.1, y) else kv) (xs.map (putAt k u)) := by
  induction r with
  | nil => exact .nil
  | @cons p q ps qs h t ih =>
    rw [List.map_cons, List.map_cons]
    refine .cons ?_ ih
    obtain ⟨h1, h2, h3⟩ := h
    unfold putAt
    by_cases e : p.1 = k
    · rw [if_pos e, if_pos (h1.symm.trans e)]; exact ⟨h1, h2, ry⟩
    · rw [if_neg e, if_neg (fun z => e (h1.trans z))]; exact ⟨h1, h2, h3⟩
theorem KT.put {H : Hp} {kvs : List (List Key × V)} {xs : List (List Key × Addr × Value)} (r : KT H kvs xs) (k : List Key) {b : Addr} {y : V} {u : Value} (hb : H b = some (.tup (k.map kV))) (ry : RelV y u) :
    KT H (putK kvs k y) (storedH xs k b u) := by
  have e : (kvs.any fun kv => decide (kv.1 = k)) = (atKey xs k).isSome := by
    rw [valV_any, (r.val k).isSome_eq, Option.isSome_map]
  unfold putK storedH
  rw [e]
  by_cases q : (atKey xs k).isSome = true
  · rw [if_pos q, if_pos q]; exact r.repl k ry
  · rw [if_neg q, if_neg q]; exact Paired.snoc r ⟨rfl, hb, ry⟩
theorem KT.keeps {H H' : Hp} {kvs : List (List Key × V)} {xs : List (List Key × Addr × Value)} (r : KT H kvs xs) (ht : ∀ b ys, H b = some (.tup ys) → H' b = some (.tup ys)) : KT H' kvs xs :=
  Paired.mapP r fun _ _ z => ⟨z.1, ht _ _ z.2.1, z.2.2⟩
section
variable {P : Program} {w : World} {H : Hp} {h : Heap} {a : Addr}
end
noncomputable def DGet (H : Hp) (a : Addr) (y : V) (r : Option V) : Prop :=
  (∃ kvs k, Rd H a (.dK kvs) ∧ y = kV k ∧ r = valV kvs k) ∨ ∃ kvs k b, Rd H a (.dT kvs) ∧ y = .ref b ∧ H b = some (.tup (k.map kV)) ∧ r = valV kvs k
noncomputable def DPut (H : Hp) (a : Addr) (y v : V) (H' : Hp) : Prop :=
  (∃ kvs k, H a = some (.dK kvs) ∧ y = kV k ∧ kvs.length < sizeLine ∧ H' = upd H a (.dK (putK kvs k v))) ∨
  ∃ kvs k b, H a = some (.dT kvs) ∧ y = .ref b ∧ H b = some (.tup (k.map kV)) ∧ kvs.length < sizeLine ∧ H' = upd H a (.dT (putK kvs k v))
theorem DGet.k {H : Hp} {a : Addr} {kvs : List (Key × V)} {k : Key} (e : H a = some (.dK kvs)) : DGet H a (kV k) (valV kvs k) := .inl ⟨kvs, k, .inl e, rfl, rfl⟩
theorem DGet.t {H : Hp} {a b : Addr} {kvs : List (List Key × V)} {k : List Key} (e : H a = some (.dT kvs)) (eb : H b = some (.tup (k.map kV))) : DGet H a (.ref b) (valV kvs k) := .inr ⟨kvs, k, b, .inl e, rfl, eb, rfl⟩
theorem DPut.k {H : Hp} {a : Addr} {kvs : List (Key × V)} {k : Key} {v : V} (e : H a = some (.dK kvs)) (hl : kvs.length < sizeLine) : DPut H a (kV k) v (upd H a (.dK (putK kvs k v))) := .inl ⟨kvs, k, e, rfl, hl, rfl⟩
theorem DPut.t {H : Hp} {a b : Addr} {kvs : List (List Key × V)} {k : List Key} {v : V} (e : H a = some (.dT kvs)) (eb : H b = some (.tup (k.map kV))) (hl : kvs.length < sizeLine) :
    DPut H a (.ref b) v (upd H a (.dT (putK kvs k v))) := .inr ⟨kvs, k, b, e, rfl, eb, hl, rfl⟩
section
variable {X : Cx} {pins : List (Addr × Obj)} {σ : St} {H : Hp} {s : Shared} {a : Addr} {y v : V} {u r : Value} {o : Option V} {A : Around} {E : Value → Shared → Prop}
end
section
variable {X : Cx} {pins : List (Addr × Obj)} {σ : St} {H : Hp} {s : Shared} {a : Addr} {kvs : List (Key × V)} {k : Key} {u : Value} {A : Around} {E : Value → Shared → Prop}
end
section
variable {X : Cx} {o i e value : Expr} {pos pos' tpos : Pos} {td ty tv : TE}
end
section
variable {X : Cx} {pos : Pos}
end
noncomputable def mergeK (kvs more : List (Key × V)) : List (Key × V) := more.foldl (fun acc kv => putK acc kv.1 kv.2) kvs
theorem KV.merge : ∀ {more : List (Key × V)} {rs : List (Key × Value)} {kvs : List (Key × V)} {vs : List (Key × Value)}, KV more rs → KV kvs vs → KV (mergeK kvs more) (merged vs rs) := by
  intro more rs kvs vs r
  unfold KV at r
  induction r generalizing kvs vs with
  | nil => intro q; exact q
  | @cons p q ps qs h t ih =>
    intro r0
    have e : KV (putK kvs p.1 p.2) (stored vs q.1 q.2) := by
      have := r0.put p.1 h.2
      rw [← h.1]; exact this
    exact ih e
section
variable {X : Cx} {pins : List (Addr × Obj)} {σ : St} {H : Hp} {s : Shared} {a : Addr} {y d : V} {u r : Value} {o : Option V} {A : Around} {E : Value → Shared → Prop}
end
section
variable {X : Cx} {o e f : Expr} {apos cpos : Pos} {td ty tx : TE}
end
section
variable {X : Cx} {pins : List (Addr × Obj)} {σ : St} {H : Hp} {s : Shared} {a : Addr} {kvs : List (Key × V)} {A : Around} {E : Value → Shared → Prop}
end
section
variable {X : Cx} {pins : List (Addr × Obj)} {σ : St} {H : Hp} {s : Shared} {a : Addr} {y : V} {u : Value} {A : Around} {E : Value → Shared → Prop}
end
end L2
namespace Att
open PySem PySem.W PySem.Calls PyProof.Rows
theorem ints_of_wellAll {P : Params} {h : Heap} : ∀ (ns : List Int) (vs : List Value), WellAll P h vs (ns.map WData.int) → IntsAre vs ns := by
  intro ns
  induction ns with
  | nil =>
    intro vs w
    rw [List.map_nil] at w
    cases w
    exact .nil
  | cons n ns ih =>
    intro vs w
    rw [List.map_cons] at w
    cases w with
    | cons a b =>
      cases a
      exact .cons _ _ (ih _ b)
theorem script_of {l : OpenLaw} {n : Nat} (hn : l.most = some n) {P : Params} {h : Heap} {args : List WData} {vals : List Value}
    (hpre : l.row.toRowW.claim.pre args = true) (hwl : WellAll P h vals args) :
    ∃ a vs ns, vals = [Value.ref a] ∧ args = [WData.list (ns.map WData.int)] ∧ h.get? a = some { cls := .type "list", data := .seq vs.toArray } ∧ IntsAre vs ns ∧ ns.length ≤ n := by
  have hsh : WShape.hasAll [] args [.list .int] = true := (pre_splitW hpre).1
  have hc : l.pre.holds [] { args := args } = true := (pre_splitW hpre).2
  obtain ⟨d, r, rfl, h1, h2⟩ := hasAllW_cons hsh
  obtain rfl := hasAllW_nil h2
  obtain ⟨xs, rfl, h3⟩ := hasW_list h1
  obtain ⟨ns, rfl⟩ := items_int h3
  have hlen : ns.length ≤ n := by
    unfold OpenLaw.pre at hc
    have h4 : (WTm.not (.lt (.lit (.int (n : Int))) (.len (.arg 0)))).holds [] { args := [.list (ns.map .int)] } = true := by
      have h4 := (holds_andW hc).1
      rw [hn] at h4
      exact h4
    have h5 := condW_of h4 (w_not (w_lt w_lit (w_len_list (w_arg rfl))))
    rw [List.length_map] at h5
    refine Nat.le_of_not_lt fun q => ?_
    have q' : (n : Int) < ((ns.length : Nat) : Int) := by omega
    first
      | (rw [decide_eq_true q'] at h5; exact absurd h5 (by decide))
      | (simp at h5; omega)
  cases hwl with
  | cons w1 w2 =>
    cases w2
    cases w1 with
    | list ho hall => exact ⟨_, _, ns, rfl, rfl, ho, ints_of_wellAll ns _ hall, hlen⟩
theorem post_true (l : OpenLaw) (args : List WData) : l.row.toRowW.claim.post args (.bool true) args = true :=
  postW_of (r := l.row.toRowW) (X := (true == true))
    (show WShape.has [] (.bool true) .bool = true by first | rfl | decide | simp [WShape.has, WShape.arms, WShape.armsAll])
    (show (WTm.eq .res (.lit (.bool true))).value [] { args := args, res := some (.bool true), after := args } = some (.bool (true == true)) from w_eq_bool (w_res rfl) w_lit) rfl
theorem attach_call {l : OpenLaw} {n : Nat} {q : Program} {loose : List Str} {XP : (Str → Option Value) → Heap → Prop} {YP : World → Heap → Prop} {d : DefRec}
    (hn : l.most = some n) (hdf : d.params.defaults = [])
    (call : ∀ (w : World) (s₀ s₁ : Shared) (mg mb : Str → Option Value) (fa : Addr) (o : Obj) (pm cd doc : Value) (a : Addr) (vs : List Value) (ns : List Int),
      Ground q loose [] XP w s₀ mg mb s₁.heap → YP w s₁.heap →
      s₁.heap.get? fa = some o → o.data = .func (docDef d.name d.params d.body d.scope pm cd doc) → s₁.heap.CodeRec cd d.name → mg d.name = some (.ref fa) →
      s₁.heap.get? a = some { cls := .type "list", data := .seq vs.toArray } → IntsAre vs ns → ns.length ≤ n → s₁.gens = #[] →
      codeAny (model l.prog w) callerA (.call (.ref fa) ⟨[.ref a], []⟩) (fun r s' => r = .ok (.ret (.bool true)) ∧ OldK s₁.heap s'.heap ∧ s'.os = s₁.os ∧ AllBare s'.gens) s₁) :
    WalkO q loose XP YP l.row.toRowW d [] (fun f vs => PySem.call f vs) := by
  intro w s₀ s₁ mg mb G Y fa o pm cd doc dV kV ho hd hcd hD hmg hg args vals as hpre hlay hrd hwl hlo
  obtain rfl : dV = .none := Dflts.none hD hdf
  obtain rfl : kV = .none := Dflts.noKw hD
  obtain ⟨a, vs, ns, rfl, rfl, hobj, hints, hlen⟩ := script_of hn hpre hwl
  refine enter_call (codeAny_mono (call w s₀ s₁ mg mb fa o pm cd doc a vs ns G Y ho (fd_plain hd) hcd hmg hobj hints hlen hg) fun r s' hq => ?_)
  obtain ⟨rfl, h2, h3, h4⟩ := hq
  exact ⟨.inl ⟨.bool true, .bool true, [], rfl, fun _ => rfl, .bool true, post_true l _, fun _ => ⟨List.Pairwise.nil, fun _ hm => (nomatch hm)⟩⟩, h2, h3, h4⟩
section
variable {prog : Program} {w : World} {A : Around} {E : Value → Shared → Prop} {s : Shared} {K : Frag}
noncomputable def ledger (h : Heap) (L d : Addr) : List (Addr × Obj) := (List.range h.objs.size).filterMap fun a => if a = L ∨ a = d then none else (h.get? a).map fun o => (a, o)
end
end Att
namespace L2
open PySem PySem.Spec PyProof.Rows
theorem vals_ints : ∀ {vs : List Value} {ns : List Int}, IntsAre vs ns → Vals (ns.map V.int) vs
  | _, _, .nil => .nil
  | _, _, .cons n t h => .cons ⟨t, rfl⟩ (vals_ints h)
noncomputable def Only (H : Hp) : Prop := ∀ b, H b = none ∨ ∃ o xs, H b = some (.frz o (.lst xs))
theorem law_call {P : Program} {w : World} {K : PySem.W.Frag} {mg mb : Str → Option Value} {CX : CXT} {k : Nat} {fa a : Addr} {fd : FuncData} {x : Str} {sp : Sp} {s₁ : Shared} {vs : List Value} {ns : List Int}
    (KX : K.In s₁.heap) (hns : s₁.heap.Ns mainGlobals mg) (hb : s₁.heap.Ns builtinsNs mb) (hbb : ∀ x : Str, x ≠ "__name__" → mb x = bootBuiltins x) (hlim : s₁.heap.NoLimit) (hg : s₁.gens = #[])
    (ha : s₁.heap.get? a = some { cls := .type "list", data := .seq vs.toArray }) (hi : IntsAre vs ns) (hl : ns.length ≤ sizeLine) (hr : Room k callerA)
    (F : ∀ base : Heap, K.In base → base.Ns mainGlobals mg → FnOk P w K mg base CX k fa fd [x] sp) (hbind : ∀ (s : Shared) (u : Value), BindsTo s fd ⟨[u], []⟩ [(x, u)])
    (hsp : ∀ H : Hp, Only H → SqL K H a (ns.map V.int) → sp [.ref a] H (fun v _ => v = .bl true) fun _ _ _ => False)
    (hCX : ∀ H e s', CX [] H s₁ (fun _ _ _ => False) e s' → False) :
    codeAny (model P w) callerA (.call (.ref fa) ⟨[.ref a], []⟩) (fun r s' => r = .ok (.ret (.bool true)) ∧ OldK s₁.heap s'.heap ∧ s'.os = s₁.os ∧ AllBare s'.gens) s₁ := by
  have rv := vals_ints hi
  have lenV := hi.length
  have core : ∀ H : Hp, Only H → SqL K H a (ns.map V.int) → HOk P w H s₁.heap → (∀ b, H b ≠ none → b = a) → (H a ≠ none → K.lookup a = none) →
      codeAny (model P w) callerA (.call (.ref fa) ⟨[.ref a], []⟩) (fun r s' => r = .ok (.ret (.bool true)) ∧ OldK s₁.heap s'.heap ∧ s'.os = s₁.os ∧ AllBare s'.gens) s₁ := by
    intro H hO hS hok hA hK
    have base_of : ∀ {b : Addr} {o : Obj}, s₁.heap.get? b = some o → H b = none → (hidT s₁.heap H).get? b = some o := fun e n => hidT_get e n
    have noA : ∀ {b : Addr} {o : Obj} {es : Array DictEntry} {ep : Nat}, s₁.heap.get? b = some o → o.data = .dict es ep → H b = none := fun {b o es ep} e d => by
      cases q : H b with
      | none => rfl
      | some u =>
        have e' : b = a := hA b (by rw [q]; simp)
        subst e'
        rw [ha] at e; cases e
        have d' : Data.seq vs.toArray _ = Data.dict es ep := d
        cases d'
    have nsK : ∀ {b : Addr} {m : Str → Option Value}, s₁.heap.Ns b m → (hidT s₁.heap H).Ns b m := fun {b m} ⟨o, es, ep, e, d, r⟩ => ⟨o, es, ep, base_of e (noA e d), d, r⟩
    have hKb : K.In (hidT s₁.heap H) := fun b o e => base_of (KX b o e) (by
      cases q : H b with
      | none => rfl
      | some u =>
        have e' : b = a := hA b (by rw [q]; simp)
        subst e'
        rw [hK (by rw [q]; simp)] at e; cases e)
    have hM : Mod K mg (hidT s₁.heap H) := ⟨hKb, nsK hns, ⟨mb, nsK hb, hbb⟩, let ⟨mc, h1, h2⟩ := hlim; ⟨mc, nsK h1, h2⟩⟩
    have e0 : Env0 P w K mg (hidT s₁.heap H) callerA [] s₁ H := ⟨rfl, hM, fun b o e => of_hidT e, Nat.le_of_eq (hidT_size _ _), trivial, fun b hb => absurd (show b ∈ ([] : List Addr) from hb) (by simp), hok, .of_eq hg⟩
    refine codeAny_mono ((F _ hKb (nsK hns)).run callerA [] s₁ H ⟨[.ref a], []⟩ [.ref a] [.ref a] _ _ hr e0 (hbind s₁ (.ref a)) (.cons rfl .nil) (hsp H hO hS)) fun r s' h => ?_
    cases r with
    | error e => exact (hCX H e s' h).elim
    | ok fl =>
      cases fl with
      | next => exact False.elim h
      | brk => exact False.elim h
      | cont => exact False.elim h
      | ret u =>
        obtain ⟨v, H', os, bare, un, hok', r', q⟩ := h
        have q' : v = .bl true := q
        subst q'
        obtain rfl : u = Value.bool true := r'
        refine ⟨rfl, OldK.of_keep fun b o e => ?_, os, bare⟩
        cases q : H b with
        | none => exact un.keep b o e q (by intro z; exact absurd (show b ∈ ([] : List Addr) from z) (by simp)) (by simp)
        | some u =>
          rcases hO b with z | ⟨ob, xs, z⟩
          · rw [q] at z; cases z
          · have z2 := un.frzs b ob _ z
            obtain ⟨e1, _⟩ := hok b _ z
            obtain ⟨e2, _⟩ := hok' b _ z2
            rw [e] at e1; cases e1
            exact e2
  cases hk : K.lookup a with
  | some o =>
    have e := KX a o hk
    rw [ha] at e
    cases e
    refine core (fun _ => none) (fun _ => .inl rfl) (.inr ⟨_, vs.toArray, _, hk, rfl, rfl, rfl, by rw [List.size_toArray, lenV]; exact hl, by simpa using rv⟩) (fun b u z => by have z' : (none : Option HO) = some u := z; cases z') (fun b z => absurd rfl z) fun z => absurd rfl z
  | none =>
    refine core (fun b => if b = a then some (.frz { cls := .type "list", data := .seq vs.toArray } (.lst (ns.map V.int))) else none) (fun b => ?_) (.inl (.inr ⟨{ cls := .type "list", data := .seq vs.toArray }, if_pos rfl⟩)) (fun b u z => ?_) (fun b z => ?_) fun _ => hk
    · by_cases hb : b = a
      · exact .inr ⟨_, _, if_pos hb⟩
      · exact .inl (if_neg hb)
    · by_cases hb : b = a
      · have z' := (if_pos hb).symm.trans z
        cases z'
        subst hb
        exact ⟨ha, by rw [List.length_map]; exact hl, vs, _, rv, ha⟩
      · have z' := (if_neg hb).symm.trans z
        cases z'
    · by_cases hb : b = a
      · exact hb
      · exact absurd (if_neg hb) z
end L2
namespace L2
open PySem PySem.Spec PyProof.Rows
noncomputable abbrev KOf {K : PySem.W.Frag} {h : Heap} (_ : K.In h) : PySem.W.Frag := K
theorem walk_of {l : PySem.W.OpenLaw} {n k : Nat} {q : Program} {loose : List Str} {XP : (Str → Option Value) → Heap → Prop} {YP : World → Heap → Prop} {d : DefRec} {K : Params → PySem.W.Frag} {CX : World → CXT} {sp : World → Sp} {x : Str}
    (hn : l.most = some n) (hn2 : n ≤ sizeLine) (hdf : d.params.defaults = []) (hr : Room k callerA)
    (hY : ∀ (w : World) (h : Heap), YP w h → (K w.params).In h)
    (F : ∀ (w : World) (mg : Str → Option Value) (fa : Addr) (h : Heap), (K w.params).In h → h.Ns mainGlobals mg → mg d.name = some (.ref fa) →
      ∃ fd : FuncData, (∀ (s : Shared) (u : Value), BindsTo s fd ⟨[u], []⟩ [(x, u)]) ∧
        ∀ base : Heap, (K w.params).In base → base.Ns mainGlobals mg → FnOk l.prog w (K w.params) mg base (CX w) k fa fd [x] (sp w))
    (hsp : ∀ (w : World) (H : Hp) (a : Addr) (ns : List Int), ns.length ≤ n → Only H → SqL (K w.params) H a (ns.map V.int) → sp w [.ref a] H (fun v _ => v = .bl true) fun _ _ _ => False)
    (hCX : ∀ (w : World) (H : Hp) (s : Shared) (e : Value) (s' : Shared), CX w [] H s (fun _ _ _ => False) e s' → False) :
    PySem.W.WalkO q loose XP YP l.row.toRowW d [] (fun f vs => PySem.call f vs) := by
  refine Att.attach_call hn hdf fun w s₀ s₁ mg mb fa o pm cd doc a vs ns G Y ho hd hcd hmg hobj hints hlen hg => ?_
  have KX := hY w _ Y
  obtain ⟨fd, hb, hF⟩ := F w mg fa _ KX G.T.g hmg
  exact law_call KX G.T.g G.T.b G.T.builtins G.T.nolimit hg hobj hints (Nat.le_trans hlen hn2) hr hF hb (fun H hO hS => hsp w H a ns hlen hO hS) fun H e s' => hCX w H s₁ e s'
end L2
namespace L2
open PySem PySem.Spec PyProof.Rows
noncomputable def inClass (s : Stmt) (j : Nat) : Stmt := match s with
  | .ClassDef _ _ _ body _ _ _ _ _ _ _ => body.getD j (.Pass ⟨0, 0, 0, 0⟩)
  | _ => .Pass ⟨0, 0, 0, 0⟩
noncomputable def defArgs (s : Stmt) : Arguments := match s with
  | .FunctionDef _ a _ _ _ _ _ _ _ _ => a
  | _ => { posonlyargs := [], args := [], vararg := none, kwonlyargs := [], kw_defaults := [], kwarg := none, defaults := [] }
noncomputable def defBody (s : Stmt) : List Stmt := match s with
  | .FunctionDef _ _ b _ _ _ _ _ _ _ => b
  | _ => []
noncomputable def defScope (s : Stmt) : Scope := match s with
  | .FunctionDef _ _ _ _ _ _ sc _ _ _ => sc
  | _ => { kind := .function, names := [], isGenerator := false, isCoroutine := false }
noncomputable abbrev CX0 : CXT := fun _ _ _ _ _ _ => False
structure Fun (K : PySem.W.Frag) (x qual : Str) (st : Stmt) (f : Addr) (fd : FuncData) : Prop where
  ex : ∃ (oc : Value) (od : Option Addr) (kV doc pm : Value) (an : Option Addr) (cdv ct : Value) (osl : Array (Option Value)),
    fd = PySem.W.fnOf x qual (defArgs st) (defBody st) (defScope st) .none kV doc pm an cdv ct ∧ K.lookup f = some ⟨oc, od, .func fd, osl⟩ ∧ PySem.W.codeIn K cdv qual = true
  kp : PySem.W.keepIn K (.ref f) = true
section
variable {P : Program} {w : World} {K : PySem.W.Frag} {mg : Str → Option Value} {base : Heap}
theorem Fun.ok {x qual : Str} {st : Stmt} {f : Addr} {fd : FuncData} {N ps : List Str} {k : Nat} {sp : Sp} (F : Fun K x qual st f fd) (S : FnScope N ps (defScope st)) (len : ∀ vs H Q E, sp vs H Q E → vs.length = ps.length)
    (hbody : ∀ (cdv : Value) (A : Around) (outer : List Env) (s : Shared) (H : Hp) (vs : List V) (Q : VK) (E : XK), Room k (A.deeper (envOfC qual (defScope st) s.heap.objs.size f cdv)) → sp vs H Q E →
      ∃ t, PSs (cxOf CX0 P w K mg base N qual (defScope st) f cdv A outer s H E).nox (defBody st) t ∧ t { nx := fun _ H' => Q .non H', rt := Q } (start N vs) H) : FnOk P w K mg base CX0 (k + 1) f fd ps sp := by
  obtain ⟨oc, od, kV, doc, pm, an, cdv, ct, osl, rfl, lk, hcd⟩ := F.ex
  refine fn_of lk hcd S len fun A outer s H vs Q E hr hsp => ?_
  obtain ⟨t, h, q⟩ := hbody cdv A outer s H vs Q E hr hsp
  exact ⟨t, h.nox, q⟩
theorem Fun.binds {x qual : Str} {st : Stmt} {f : Addr} {fd : FuncData} {ps : List Str} (F : Fun K x qual st f fd)
    (h : ∀ (kV doc pm : Value) (an : Option Addr) (cdv ct : Value) (us : List Value), us.length = ps.length → bindArgs (PySem.W.fnOf x qual (defArgs st) (defBody st) (defScope st) .none kV doc pm an cdv ct) ⟨us, []⟩ = pure (ps.zip us)) : Binds K fd ps [] := by
  obtain ⟨oc, od, kV, doc, pm, an, cdv, ct, osl, rfl, lk, hcd⟩ := F.ex
  exact .all (h kV doc pm an cdv ct)
theorem fun_mk {x qual : Str} {st : Stmt} {f : Addr} {oc : Value} {od an : Option Addr} {osl : Array (Option Value)} {kV doc pm cdv ct : Value} (l : K.lookup f = some ⟨oc, od, .func (PySem.W.fnOf x qual (defArgs st) (defBody st) (defScope st) .none kV doc pm an cdv ct), osl⟩)
    (c : PySem.W.codeIn K cdv qual = true) (k : PySem.W.keepIn K (.ref f) = true) : Fun K x qual st f (PySem.W.fnOf x qual (defArgs st) (defBody st) (defScope st) .none kV doc pm an cdv ct) := ⟨⟨oc, od, kV, doc, pm, an, cdv, ct, osl, rfl, l, c⟩, k⟩
end
theorem small1000 {n : Nat} (h : n ≤ 1000) : n < sizeLine := Nat.lt_of_le_of_lt h (by decide)
section
variable {X : Cx}
theorem pv (i : Nat) {x : Str} {pos : Pos} (hN : X.N[i]? = some x := by rfl) (hv : Vis X.env.scope x := by first | exact Or.inl rfl | exact Or.inr (Or.inl rfl) | exact Or.inr (Or.inr rfl)) (hd : (x == ("__debug__" : Str)) = false := by decide)
    (hcd : (x == ("__classdict__" : Str)) = false := by decide) : PE X (.Name x pos) (tVar i) := pe_var hN hv hd hcd
end
noncomputable def Same (H H' : Hp) : Prop := ∀ b o, H b = some o → H' b = some o
theorem Same.refl (H : Hp) : Same H H := fun _ _ h => h
theorem Same.trans {H H1 H2 : Hp} (a : Same H H1) (b : Same H1 H2) : Same H H2 := fun c o h => b c o (a c o h)
theorem Same.free {H H' : Hp} (e : Same H H') {l : Addr} (h : H' l = Option.none) : H l = Option.none := by
  cases q : H l with
  | none => rfl
  | some o =>
    rw [e l o q] at h
    cases h
theorem Same.seq {K : PySem.W.Frag} {H H' : Hp} {a : Addr} {xs : List V} (e : Same H H') (h : SqL K H a xs) : SqL K H' a xs := by
  rcases h with (h | ⟨o, h⟩) | h
  · exact .inl (.inl (e _ _ h))
  · exact .inl (.inr ⟨o, e _ _ h⟩)
  · exact .inr h
section
variable {κ : Type} [DecidableEq κ]
end
end L2
set_option maxHeartbeats 4000000
namespace L2.HD
open PySem PySem.W
noncomputable def goU (thr okS : Thread → Bool) (f : SharedT → Thread → Option (SharedT × Thread)) : Nat → SharedT → Thread → Option SharedT
  | 0, _, _ => none
  | n + 1, s, t => match thr t with
    | true => some s
    | false => match okS t with
      | false => none
      | true => match f s t with
        | some (s', t') => goU thr okS f n s' t'
        | none => none
theorem goU_top {tb : String → Option Builtin} {p : Program} {w : World} {n₀ : Nat} {ann : Option Value} : ∀ {n : Nat} {s s' : SharedT} {t : Thread},
    goU through (stepOk n₀ ann) (stepT (denote tb) p w) n s t = some s' → topRun tb p w n₀ ann n s.abs t = some s'.abs
  | 0, _, _, _, h => by cases h
  | n + 1, s, s', t, h => by
    unfold goU at h
    unfold topRun
    cases ht : through t with
    | true => rw [ht] at h; cases h; rfl
    | false =>
      rw [ht] at h
      cases hk : stepOk n₀ ann t with
      | false => rw [hk] at h; cases h
      | true =>
        rw [hk] at h
        cases hs : stepT (denote tb) p w s t with
        | none => rw [hs] at h; cases h
        | some r => obtain ⟨s₂, t₂⟩ := r; rw [hs] at h; rw [stepT_spec hs]; exact goU_top h
noncomputable def T0 (P : Params) : BT := (((((((((((BT.nil.ins 0 (boot_o_0 P)).ins 1 (boot_o_1 P)).ins 2 (boot_o_2 P)).ins 3 (boot_o_3 P)).ins 4 (boot_o_4 P)).ins 5 (boot_o_5 P)).ins 6 (boot_o_6 P)).ins 7 (boot_o_7 P)).ins 8 (boot_o_8 P)).ins 9 (boot_o_9 P)).ins 10 (boot_o_10 P))
noncomputable def S0 (w : World) (os : OsState) : SharedT := ⟨T0 w.params, 11, (boot_heap w.params).life, #[], boot_drawn, boot_toks, os⟩
theorem S0_abs (w : World) (os : OsState) : (S0 w os).abs = ⟨boot_heap w.params, #[], boot_drawn, boot_toks, os⟩ := by kernel_rfl
theorem size0 (w : World) : ((boot_heap w.params).isNs mainGlobals && (#[] : Array GenState).size == 0, (boot_heap w.params).objs.size, (boot_heap w.params).nsMap mainGlobals "__annotations__") = (true, 11, some (.ref 6)) := by kernel_rfl
theorem left_of {p q : Program} {loose : List Str} {Xt : Shared → Bool} {α : Type} {Yf : Shared → α} {Ya : World → α} {N : Nat} {g0 : Bool}
    (open_ : ∀ w : World, (fencedOpening treeTable p w N).map (fun s => (s.heap, s.gens, s.drawn, s.toks)) = some (boot_heap w.params, #[], boot_drawn, boot_toks))
    (run : ∀ w : World, (fun os => (goU through (stepOk 11 (some (.ref 6))) (stepT (denote treeTable) p w) N (S0 w os) (topStub p)).map (fun s =>
      ((staticsOk (importedModules p.main.body) (boot_heap w.params) s.abs.heap && namesBound p s.abs.heap && gensDone s.abs && laidKept (boot_heap w.params) s.abs.heap),
        openSeen q loose (importedModules p.main.body) Xt g0 s.abs, Yf s.abs))) = fun _ => some (true, openGood q loose, Ya w)) : LeftO p q loose Xt Yf Ya N g0 := fun w => by
  obtain ⟨⟨h, gs, d, k, os⟩, e, e'⟩ := Option.map_eq_some_iff.mp (open_ w)
  obtain ⟨rfl, rfl, rfl, rfl⟩ : h = boot_heap w.params ∧ gs = #[] ∧ d = boot_drawn ∧ k = boot_toks := by simpa using e'
  obtain ⟨s, r, z⟩ := Option.map_eq_some_iff.mp (congrFun (run w) os)
  have r := goU_top r
  rw [S0_abs] at r
  obtain ⟨z1, z2, z3⟩ : _ ∧ _ ∧ _ := by simpa only [Prod.mk.injEq] using size0 w
  obtain ⟨l1, l2, l3⟩ : _ ∧ _ ∧ _ := by simpa only [Prod.mk.injEq] using z
  have t : topFrom treeTable p w N ⟨boot_heap w.params, #[], boot_drawn, boot_toks, os⟩ = some s.abs := by
    unfold topFrom
    dsimp only
    rw [z1, z2, z3, r]
    show (match staticsOk (importedModules p.main.body) (boot_heap w.params) s.abs.heap && namesBound p s.abs.heap && gensDone s.abs && laidKept (boot_heap w.params) s.abs.heap with | true => _ | false => _) = _
    rw [l1]
  unfold openEnds
  rw [e]
  show (topFrom treeTable p w N _).map _ = _
  rw [t]
  exact congrArg some (Prod.ext l2 l3)
end L2.HD
namespace L2.HD
open PySem PySem.W
noncomputable def vs (x : Str) (t : Nat) : Value := .str x t
noncomputable def vi (i : Int) : Value := .int i 0
noncomputable def de (P : Params) (x : Str) (t : Nat) (v : Value) : DictEntry := ⟨PyData.keyHash P x, .str x t, v⟩
noncomputable def ob (c : String) (d : Data) : Obj := { cls := .type c, data := d }
noncomputable def od (n : Nat) (es : List DictEntry) : Obj := { cls := .type "dict", data := .dict es.toArray n }
noncomputable def ofd (c : String) (xs : List Value) : Obj := { cls := .type c, data := .fields xs.toArray }
noncomputable def oc (x : Str) (xt : Nat) (q : Str) (a b c d e : Nat) (xs : List Value) (f g h : Nat) : Obj :=
  ofd "code" ([.str x xt, .str q a, .str "/claim/cut.py" b, vi c, vi d, vi 0, vi 0, vi e] ++ xs ++ [vi f, vi g, .str "/claim/cut.py" h])
noncomputable def of (x q : Str) (st : Stmt) (m : Str) (mt c : Nat) : Obj := { cls := .type "function", data := .func (fnOf x q (defArgs st) (defBody st) (defScope st) .none .none .none (.str m mt) none (.ref c) .none) }
theorem holds_of {l : OpenLaw} {q : Program} {d : DefRec} {K : Params → Frag} {as : List Addr} {e : ∀ P, as = (K P).map (·.1)} {N : Nat}
    (left : LeftO l.prog q [] (fun s => xlAt q [] s && recOk (RowW.records l.row.toRowW) s) (Hook.obs (kHook K as e)) (Hook.val (kHook K as e)) N)
    (said : l.row.wellSaid = true) (hdef : defOf q l.row.name = some (d, [])) (hp : l.row.prog.theDef l.row.name = some (d.params, d.body, d.scope)) (hk : kwWritten? d.params.kwonlyargs d.params.kw_defaults = some [])
    (hwr : (!l.row.writes || l.row.records.isEmpty) = true) (ok : (chainsOk q && opensWell l.row.prog && (frees l.row.toRowW && l.row.within.isEmpty)) = true) (hb : l.row.prog.bare) (hw : l.row.toRowW.promised)
    (call : WalkO q [] (XL q []) (Hook.says (kHook K as e)) l.row.toRowW d [] fun f vs => PySem.call f vs) : l.row.Holds :=
  holds_open (r := l.row) (q := q) (loose := []) (Xt := fun s => xlAt q [] s && recOk (RowW.records l.row.toRowW) s) (XP := XL q []) (Yf := Hook.obs (kHook K as e)) (Ya := Hook.val (kHook K as e)) (YP := Hook.says (kHook K as e)) (N := N)
    left (Hook.of (kHook K as e)) (Hook.keeps (kHook K as e)) (fun s e => xl_of s (Bool.and_eq_true_iff.mp e).1) XL.keeps hdef hp hk (fun s e => recFacts_of (Bool.and_eq_true_iff.mp e).2) hwr said ok hb hw call
theorem fo {K : Frag} {x q : Str} {st : Stmt} {f : Addr} {m : Str} {mt c : Nat} (ps : List Str) (l : K.lookup f = some (of x q st m mt c)) (hc : codeIn K (.ref c) q = true) (hk : keepIn K (.ref f) = true)
    (b : ∀ (kV doc pm : Value) (an : Option Addr) (cdv ct : Value) (us : List Value), us.length = ps.length → bindArgs (fnOf x q (defArgs st) (defBody st) (defScope st) .none kV doc pm an cdv ct) ⟨us, []⟩ = pure (ps.zip us)) : ∃ fd, Fun K x q st f fd ∧ Binds K fd ps [] :=
  ⟨_, fun_mk (show K.lookup f = some ⟨_, _, .func (fnOf x q (defArgs st) (defBody st) (defScope st) .none .none .none (.str m mt) none (.ref c) .none), _⟩ from l) hc hk, (fun_mk (show K.lookup f = some ⟨_, _, .func (fnOf x q (defArgs st) (defBody st) (defScope st) .none .none .none (.str m mt) none (.ref c) .none), _⟩ from l) hc hk).binds b⟩
end L2.HD
namespace L2.PU
open PySem PySem.Spec PyProof.Rows
section
variable {prog : Program} {w : World} {A : Around} {E : Value → Shared → Prop} {s : Shared}
end
end L2.PU
namespace L2.PU
open PySem PySem.Spec PyProof.Rows
section
variable {prog : Program} {w : World} {A : Around} {R : Result → Shared → Prop} {I : Addr} {fp wr : List Addr} {G : Array GenState → Array GenState → Prop} {n : Nat} {P : Nat → Value → Prop} {St : Nat → Shared → Prop}
end
section
variable {prog : Program} {w : World} {A : Around} {E : Value → Shared → Prop} {s : Shared}
end
section
variable {prog : Program} {w : World} {A : Around} {E : Value → Shared → Prop} {s : Shared}
end
end L2.PU
namespace L2.PU
open PySem PySem.Spec PyProof.Rows
section
variable {prog : Program} {w : World} {A : Around} {E : Value → Shared → Prop} {s : Shared}
end
end L2.PU
namespace L2.PU
open PySem PySem.Spec PyProof.Rows
section
variable {prog : Program} {w : World} {A : Around} {E : Value → Shared → Prop} {s : Shared}
end
end L2.PU
namespace L2.PU
open PySem PySem.Spec PyProof.Rows
section
variable {prog : Program} {w : World} {A : Around} {E : Value → Shared → Prop} {s : Shared}
end
end L2.PU
namespace L2.PU
open PySem PySem.Spec PyProof.Rows
section
variable {prog : Program} {w : World} {A : Around} {E : Value → Shared → Prop} {s : Shared}
end
end L2.PU
namespace L2.PU
open PySem PySem.Spec PyProof.Rows
section
variable {prog : Program} {w : World} {A : Around} {E : Value → Shared → Prop} {s : Shared}
end
end L2.PU
namespace L2.PU
open PySem PySem.Spec PyProof.Rows
section
variable {prog : Program} {w : World} {A : Around} {E : Value → Shared → Prop} {s : Shared}
end
end L2.PU
namespace L2.PU
open PySem PySem.Spec PyProof.Rows
noncomputable def leS (a b : Str) : Bool := !ltCps b.cps.toList a.cps.toList
noncomputable def srtS (xs : List Str) : List Str := xs.mergeSort leS
section
variable {prog : Program} {w : World} {A : Around} {E : Value → Shared → Prop} {s : Shared}
end
end L2.PU
namespace L2.PU
open PySem PySem.Spec PyProof.Rows
inductive D where
  | non | bl (b : Bool) | int (i : Int) | str (x : Str) | tup (ds : List D) | lst (ds : List D) | obj (C : Addr) (fs : List (Str × D))
  | dk (kvs : List (Key × D)) | dt (kvs : List (List Key × D)) | exc (C : Addr) | set (ss : List Str)
noncomputable def excAt (a C : Addr) (h : Heap) : Prop := ∃ o, h.get? a = some o ∧ o.cls = .ref C
noncomputable def TQ (K : PySem.W.Frag) (H : Hp) (a : Addr) (vs : List V) : Prop := H a = some (.tup vs)
theorem TQ.of {K : PySem.W.Frag} {H : Hp} {a : Addr} {vs : List V} (h : H a = some (.tup vs)) : TQ K H a vs := h
theorem TQ.sq {K : PySem.W.Frag} {H : Hp} {a : Addr} {vs : List V} (h : TQ K H a vs) : SqT K H a vs := SqT.of h
instance {K : PySem.W.Frag} {H : Hp} {a : Addr} {vs : List V} : Coe (TQ K H a vs) (SqT K H a vs) := ⟨TQ.sq⟩
mutual
inductive Is (K : PySem.W.Frag) (H : Hp) : D → V → Prop where
  | non : Is K H .non .non
  | bl (b : Bool) : Is K H (.bl b) (.bl b)
  | int (i : Int) : Is K H (.int i) (.int i)
  | str (x : Str) : Is K H (.str x) (.str x)
  | tup {a : Addr} {ds : List D} {vs : List V} (h : TQ K H a vs) (r : IsL K H ds vs) : Is K H (.tup ds) (.ref a)
  | lst {a : Addr} {ds : List D} {vs : List V} (h : SqL K H a vs) (r : IsL K H ds vs) : Is K H (.lst ds) (.ref a)
  | obj {a C dx : Addr} {fs : List (Str × D)} {vs : List (Str × V)} (h : H a = some (.ins C dx vs)) (r : IsF K H fs vs) : Is K H (.obj C fs) (.ref a)
  | dk {a : Addr} {kvs : List (Key × D)} {vs : List (Key × V)} (h : H a = some (.dK vs)) (r : IsK K H kvs vs) : Is K H (.dk kvs) (.ref a)
  | dt {a : Addr} {kvs : List (List Key × D)} {vs : List (List Key × V)} (h : H a = some (.dT vs)) (r : IsT K H kvs vs) : Is K H (.dt kvs) (.ref a)
  | exc {a C : Addr} (h : H a = some (.ext (excAt a C))) : Is K H (.exc C) (.ref a)
  | set {a : Addr} {ss : List Str} (h : H a = some (.set (fun k => ss.contains k) ss.length)) : Is K H (.set ss) (.ref a)
inductive IsK (K : PySem.W.Frag) (H : Hp) : List (Key × D) → List (Key × V) → Prop where
  | nil : IsK K H [] []
  | cons {x : Key} {d : D} {v : V} {ds : List (Key × D)} {vs : List (Key × V)} (h : Is K H d v) (r : IsK K H ds vs) : IsK K H ((x, d) :: ds) ((x, v) :: vs)
inductive IsT (K : PySem.W.Frag) (H : Hp) : List (List Key × D) → List (List Key × V) → Prop where
  | nil : IsT K H [] []
  | cons {x : List Key} {d : D} {v : V} {ds : List (List Key × D)} {vs : List (List Key × V)} (h : Is K H d v) (r : IsT K H ds vs) : IsT K H ((x, d) :: ds) ((x, v) :: vs)
inductive IsL (K : PySem.W.Frag) (H : Hp) : List D → List V → Prop where
  | nil : IsL K H [] []
  | cons {d : D} {v : V} {ds : List D} {vs : List V} (h : Is K H d v) (r : IsL K H ds vs) : IsL K H (d :: ds) (v :: vs)
inductive IsF (K : PySem.W.Frag) (H : Hp) : List (Str × D) → List (Str × V) → Prop where
  | nil : IsF K H [] []
  | cons {x : Str} {d : D} {v : V} {ds : List (Str × D)} {vs : List (Str × V)} (h : Is K H d v) (r : IsF K H ds vs) : IsF K H ((x, d) :: ds) ((x, v) :: vs)
end
section
variable {K : PySem.W.Frag} {H H' : Hp}
theorem SqT.mono {a : Addr} {xs : List V} (e : Same H H') (h : SqT K H a xs) : SqT K H' a xs := by
  rcases h with (h | ⟨o, h⟩) | h
  · exact .inl (.inl (e _ _ h))
  · exact .inl (.inr ⟨o, e _ _ h⟩)
  · exact .inr h
theorem Is.mono (e : Same H H') {d : D} {v : V} (h : Is K H d v) : Is K H' d v :=
  Is.rec (motive_1 := fun d v _ => Is K H' d v) (motive_2 := fun ds vs _ => IsK K H' ds vs) (motive_3 := fun ds vs _ => IsT K H' ds vs) (motive_4 := fun ds vs _ => IsL K H' ds vs) (motive_5 := fun ds vs _ => IsF K H' ds vs)
    .non .bl .int .str (fun h _ r => .tup (e _ _ h) r) (fun h _ r => .lst (e.seq h) r) (fun h _ r => .obj (e _ _ h) r) (fun h _ r => .dk (e _ _ h) r) (fun h _ r => .dt (e _ _ h) r) (fun h => .exc (e _ _ h)) (fun h => .set (e _ _ h))
    .nil (fun _ _ i r => .cons i r) .nil (fun _ _ i r => .cons i r) .nil (fun _ _ i r => .cons i r) .nil (fun _ _ i r => .cons i r) h
theorem IsK.mono (e : Same H H') : ∀ {ds : List (Key × D)} {vs : List (Key × V)}, IsK K H ds vs → IsK K H' ds vs := by
  intro ds
  induction ds with
  | nil => intro vs h; cases h; exact .nil
  | cons d ds ih => intro vs h; cases h with | cons i r => exact .cons (i.mono e) (ih r)
theorem IsT.mono (e : Same H H') : ∀ {ds : List (List Key × D)} {vs : List (List Key × V)}, IsT K H ds vs → IsT K H' ds vs := by
  intro ds
  induction ds with
  | nil => intro vs h; cases h; exact .nil
  | cons d ds ih => intro vs h; cases h with | cons i r => exact .cons (i.mono e) (ih r)
theorem IsL.mono (e : Same H H') : ∀ {ds : List (D)} {vs : List (V)}, IsL K H ds vs → IsL K H' ds vs := by
  intro ds
  induction ds with
  | nil => intro vs h; cases h; exact .nil
  | cons d ds ih => intro vs h; cases h with | cons i r => exact .cons (i.mono e) (ih r)
theorem IsF.mono (e : Same H H') : ∀ {ds : List (Str × D)} {vs : List (Str × V)}, IsF K H ds vs → IsF K H' ds vs := by
  intro ds
  induction ds with
  | nil => intro vs h; cases h; exact .nil
  | cons d ds ih => intro vs h; cases h with | cons i r => exact .cons (i.mono e) (ih r)
theorem IsL.length : ∀ {ds : List D} {vs : List V}, IsL K H ds vs → ds.length = vs.length := by
  intro ds
  induction ds with
  | nil => intro vs h; cases h; rfl
  | cons d ds ih => intro vs h; cases h with | cons _ r => exact congrArg (· + 1) (ih r)
theorem IsL.get : ∀ {ds : List D} {vs : List V} {i : Nat} {d : D}, IsL K H ds vs → ds[i]? = some d → ∃ v, vs[i]? = some v ∧ Is K H d v
  | _, _, _, _, .nil, e => by simp at e
  | _, _, 0, _, .cons h _, e => by simp at e; subst e; exact ⟨_, rfl, h⟩
  | _, _, i + 1, d, .cons _ r, e => by
    obtain ⟨v, h1, h2⟩ := IsL.get (i := i) (d := d) r (by simpa using e)
    exact ⟨v, by simpa using h1, h2⟩
theorem IsL.getV : ∀ {ds : List D} {vs : List V} {i : Nat} {v : V}, IsL K H ds vs → vs[i]? = some v → ∃ d, ds[i]? = some d ∧ Is K H d v
  | _, _, _, _, .nil, e => by simp at e
  | _, _, 0, _, .cons h _, e => by simp at e; subst e; exact ⟨_, rfl, h⟩
  | _, _, i + 1, v, .cons _ r, e => by
    obtain ⟨d, h1, h2⟩ := IsL.getV (i := i) (v := v) r (by simpa using e)
    exact ⟨d, by simpa using h1, h2⟩
theorem IsL.append : ∀ {ds es : List D} {vs ws : List V}, IsL K H ds vs → IsL K H es ws → IsL K H (ds ++ es) (vs ++ ws) := by
  intro ds
  induction ds with
  | nil => intro es vs ws h s; cases h; exact s
  | cons d ds ih => intro es vs ws h s; cases h with | cons i r => exact .cons i (ih r s)
theorem IsL.take : ∀ {ds : List D} {vs : List V} (n : Nat), IsL K H ds vs → IsL K H (ds.take n) (vs.take n)
  | _, _, 0, _ => .nil
  | _, _, _ + 1, .nil => .nil
  | _, _, n + 1, .cons h r => .cons h (IsL.take n r)
theorem IsL.drop : ∀ {ds : List D} {vs : List V} (n : Nat), IsL K H ds vs → IsL K H (ds.drop n) (vs.drop n)
  | _, _, 0, r => r
  | _, _, _ + 1, .nil => .nil
  | _, _, n + 1, .cons _ r => IsL.drop n r
theorem IsF.lookup : ∀ {fs : List (Str × D)} {vs : List (Str × V)} {x : Str} {d : D}, IsF K H fs vs → fs.lookup x = some d → ∃ v, vs.lookup x = some v ∧ Is K H d v
  | _, _, _, _, .nil, e => by simp at e
  | _, _, x, d, .cons (x := y) (d := d') (v := v') (ds := fs) (vs := vs) h r, e => by
    rw [List.lookup_cons] at e ⊢
    cases q : (x == y) with
    | true => rw [q] at e; simp at e; subst e; exact ⟨_, rfl, h⟩
    | false => rw [q] at e; exact IsF.lookup r e
theorem IsF.lookupNone : ∀ {fs : List (Str × D)} {vs : List (Str × V)} {x : Str}, IsF K H fs vs → fs.lookup x = none → vs.lookup x = none := by
  intro fs
  induction fs with
  | nil => intro vs x h e; cases h; rfl
  | cons f fs ih =>
    intro vs x h e
    cases h with
    | cons i r =>
      rename_i y d' v' vs
      rw [List.lookup_cons] at e ⊢
      cases q : (x == y) with
      | true => rw [q] at e; simp at e
      | false => rw [q] at e; exact ih r e
theorem IsF.length : ∀ {ds : List (Str × D)} {vs : List (Str × V)}, IsF K H ds vs → ds.length = vs.length := by
  intro ds
  induction ds with
  | nil => intro vs h; cases h; rfl
  | cons d ds ih => intro vs h; cases h with | cons _ r => exact congrArg (· + 1) (ih r)
theorem isL_ints : ∀ (ns : List Int), IsL K H (ns.map D.int) (ns.map V.int)
  | [] => .nil
  | n :: r => .cons (.int n) (isL_ints r)
end
inductive DO where
  | k (kvs : List (Key × D)) | t (kvs : List (List Key × D))
noncomputable def DO.d : DO → D
  | .k kvs => .dk kvs
  | .t kvs => .dt kvs
noncomputable def kD : Key → D
  | .inl i => .int i
  | .inr x => .str x
inductive SV where
  | sh (d : D) | own (ds : List D) | oin (a C dx : Addr) (fs : List (Str × D)) | ow (o : DO) | tk (ks : List Key)
noncomputable abbrev Rho := List (Option SV)
noncomputable def SV.cur : SV → D
  | .sh d => d
  | .own ds => .lst ds
  | .oin _ C _ fs => .obj C fs
  | .ow o => o.d
  | .tk ks => .tup (ks.map kD)
open Classical in
noncomputable def Off (H : Hp) (O : Nat → Option Addr) : Hp := fun b => if ∃ i, O i = some b then none else H b
theorem Off.same (H : Hp) (O : Nat → Option Addr) : Same (Off H O) H := fun b o h => by
  unfold Off at h
  split at h
  · cases h
  · exact h
theorem Off.of {H : Hp} {O : Nat → Option Addr} {b : Addr} {o : HO} (h : H b = some o) (n : ∀ i, O i ≠ some b) : Off H O b = some o := by
  unfold Off
  rw [if_neg (fun ⟨i, e⟩ => n i e)]
  exact h
theorem Off.not {H : Hp} {O : Nat → Option Addr} {b : Addr} {o : HO} (h : Off H O b = some o) : ∀ i, O i ≠ some b := fun i e => by
  unfold Off at h
  rw [if_pos ⟨i, e⟩] at h
  cases h
theorem Off.mono {H H' : Hp} {O : Nat → Option Addr} (e : Same H H') : Same (Off H O) (Off H' O) := fun b o h => Off.of (e _ _ (Off.same H O b o h)) (Off.not h)
theorem Off.less {H : Hp} {O O' : Nat → Option Addr} (e : ∀ i a, O' i = some a → ∃ j, O j = some a) : Same (Off H O) (Off H O') := fun b o h => Off.of (Off.same H O b o h) fun i q => by
  obtain ⟨j, z⟩ := e i b q
  exact Off.not h j z
theorem Off.upd {H : Hp} {O : Nat → Option Addr} {a : Addr} {o : HO} {i : Nat} (h : O i = some a) : Off (upd H a o) O = Off H O := by
  funext b
  unfold Off
  by_cases q : ∃ j, O j = some b
  · rw [if_pos q, if_pos q]
  · rw [if_neg q, if_neg q, upd_ne]
    intro z; subst z; exact q ⟨i, h⟩
noncomputable def mutO : HO → Bool
  | .lst _ => true
  | .ins _ _ _ => true
  | .dK _ => true
  | .dT _ => true
  | _ => false
noncomputable def OwnK (H : Hp) (O : Nat → Option Addr) : Prop := ∀ i a, O i = some a → ∃ w, H a = some w ∧ mutO w = true
noncomputable def IsO (K : PySem.W.Frag) (H : Hp) : DO → HO → Prop
  | .k kvs, .dK vs => IsK K H kvs vs
  | .t kvs, .dT vs => IsT K H kvs vs
  | _, _ => False
theorem IsO.mono {K : PySem.W.Frag} {H H' : Hp} (e : Same H H') {o : DO} {w : HO} (h : IsO K H o w) : IsO K H' o w := by
  cases o <;> cases w <;> first | exact False.elim h | skip
  · exact IsK.mono e h
  · exact IsT.mono e h
theorem IsO.mut {K : PySem.W.Frag} {H : Hp} {o : DO} {w : HO} (h : IsO K H o w) : mutO w = true := by
  cases o <;> cases w <;> first | exact False.elim h | rfl
theorem IsO.is {K : PySem.W.Frag} {H : Hp} {o : DO} {w : HO} {a : Addr} (ha : H a = some w) (h : IsO K H o w) : Is K H o.d (.ref a) := by
  cases o <;> cases w <;> first | exact False.elim h | skip
  · exact .dk ha h
  · exact .dt ha h
theorem is_kD {K : PySem.W.Frag} {H : Hp} (k : Key) : Is K H (kD k) (kV k) := by
  cases k
  · exact .int _
  · exact .str _
theorem isL_kD {K : PySem.W.Frag} {H : Hp} : ∀ (ks : List Key), IsL K H (ks.map kD) (ks.map kV)
  | [] => .nil
  | k :: ks => .cons (is_kD k) (isL_kD ks)
theorem OwnK.mono {H H' : Hp} {O : Nat → Option Addr} (e : Same H H') (h : OwnK H O) : OwnK H' O := fun i a q => by
  obtain ⟨w, h1, h2⟩ := h i a q
  exact ⟨w, e _ _ h1, h2⟩
noncomputable def Slot (K : PySem.W.Frag) (H : Hp) (O : Nat → Option Addr) (σ : St) (i : Nat) : SV → Prop
  | .sh d => ∃ v, σ[i]? = some (some v) ∧ Is K (Off H O) d v
  | .own ds => ∃ a vs, O i = some a ∧ σ[i]? = some (some (.ref a)) ∧ H a = some (.lst vs) ∧ IsL K (Off H O) ds vs
  | .oin a C dx fs => O i = some a ∧ σ[i]? = some (some (.ref a)) ∧ dx ≠ a ∧ (∃ vs, H a = some (.ins C dx vs) ∧ IsF K (Off H O) fs vs)
  | .ow o => ∃ a w, O i = some a ∧ σ[i]? = some (some (.ref a)) ∧ H a = some w ∧ IsO K (Off H O) o w
  | .tk ks => ∃ a, σ[i]? = some (some (.ref a)) ∧ Off H O a = some (.tup (ks.map kV))
noncomputable def Rel (K : PySem.W.Frag) (H₀ : Hp) (ρ : Rho) (σ : St) (H : Hp) : Prop :=
  ∃ O : Nat → Option Addr, (∀ i j a, O i = some a → O j = some a → i = j) ∧ OwnK H O ∧ Same H₀ (Off H O) ∧ ρ.length = σ.length ∧ ∀ i sv, ρ[i]? = some (some sv) → Slot K H O σ i sv
section
variable {K : PySem.W.Frag} {H₀ H H' : Hp} {ρ : Rho} {σ : St}
theorem Slot.mono {O : Nat → Option Addr} {i : Nat} {sv : SV} (e : Same H H') (h : Slot K H O σ i sv) : Slot K H' O σ i sv := by
  cases sv with
  | sh d => obtain ⟨v, h1, h2⟩ := h; exact ⟨v, h1, h2.mono (Off.mono e)⟩
  | own ds => obtain ⟨a, vs, h1, h2, h3, h4⟩ := h; exact ⟨a, vs, h1, h2, e _ _ h3, h4.mono (Off.mono e)⟩
  | oin a C dx fs => obtain ⟨h1, h2, h3, vs, h4, h5⟩ := h; exact ⟨h1, h2, h3, vs, e _ _ h4, h5.mono (Off.mono e)⟩
  | ow o => obtain ⟨a, w, h1, h2, h3, h4⟩ := h; exact ⟨a, w, h1, h2, e _ _ h3, h4.mono (Off.mono e)⟩
  | tk ks => obtain ⟨a, h1, h2⟩ := h; exact ⟨a, h1, Off.mono e _ _ h2⟩
theorem Rel.mono (e : Same H H') (r : Rel K H₀ ρ σ H) : Rel K H₀ ρ σ H' := by
  obtain ⟨O, h1, ho, h2, hl, h3⟩ := r
  exact ⟨O, h1, ho.mono e, h2.trans (Off.mono e), hl, fun i sv q => (h3 i sv q).mono e⟩
theorem Rel.get (r : Rel K H₀ ρ σ H) {i : Nat} {sv : SV} (q : ρ[i]? = some (some sv)) : ∃ v, σ[i]? = some (some v) ∧ Is K H sv.cur v := by
  obtain ⟨O, h1, ho, h2, hl, h3⟩ := r
  have z := h3 i sv q
  cases sv with
  | sh d => obtain ⟨v, e1, e2⟩ := z; exact ⟨v, e1, e2.mono (Off.same _ _)⟩
  | own ds => obtain ⟨a, vs, e1, e2, e3, e4⟩ := z; exact ⟨.ref a, e2, .lst (SqL.of e3) (e4.mono (Off.same _ _))⟩
  | oin a C dx fs => obtain ⟨e1, e2, e3, vs, e4, e5⟩ := z; exact ⟨.ref a, e2, .obj e4 (e5.mono (Off.same _ _))⟩
  | ow o => obtain ⟨a, w, e1, e2, e3, e4⟩ := z; exact ⟨.ref a, e2, (e4.mono (Off.same _ _)).is e3⟩
  | tk ks => obtain ⟨a, e1, e2⟩ := z; exact ⟨.ref a, e1, .tup (TQ.of (Off.same _ _ _ _ e2)) (isL_kD ks)⟩
theorem Rel.kept (r : Rel K H₀ ρ σ H) : Same H₀ H := by
  obtain ⟨O, h1, ho, h2, _⟩ := r
  exact h2.trans (Off.same _ _)
end
mutual
noncomputable def D.imm : D → Bool
  | .non => true | .bl _ => true | .int _ => true | .str _ => true
  | .tup ds => immL ds
  | .lst _ => false
  | .obj _ _ => false
  | .dk _ => false
  | .dt _ => false
  | .exc _ => false
  | .set _ => false
noncomputable def immL : List D → Bool
  | [] => true
  | d :: ds => d.imm && immL ds
end
section
variable {K : PySem.W.Frag} {H H' : Hp}
theorem SqT.alike {a : Addr} {xs : List V} (ht : ∀ b xs, H b = some (.tup xs) → H' b = some (.tup xs)) (hf : ∀ b o u, H b = some (.frz o u) → H' b = some (.frz o u)) (h : SqT K H a xs) : SqT K H' a xs := by
  rcases h with (h | ⟨o, h⟩) | h
  · exact .inl (.inl (ht _ _ h))
  · exact .inl (.inr ⟨o, hf _ _ _ h⟩)
  · exact .inr h
theorem Is.alike (ht : ∀ b xs, H b = some (.tup xs) → H' b = some (.tup xs)) (hf : ∀ b o u, H b = some (.frz o u) → H' b = some (.frz o u)) {d : D} {v : V} (q : d.imm = true) (h : Is K H d v) : Is K H' d v :=
  Is.rec (motive_1 := fun d v _ => d.imm = true → Is K H' d v) (motive_2 := fun _ _ _ => True) (motive_3 := fun _ _ _ => True) (motive_4 := fun ds vs _ => immL ds = true → IsL K H' ds vs) (motive_5 := fun _ _ _ => True)
    (fun _ => .non) (fun b _ => .bl b) (fun i _ => .int i) (fun x _ => .str x) (fun h _ r q => .tup (ht _ _ h) (r q)) (fun _ _ _ q => Bool.noConfusion (show false = true from q)) (fun _ _ _ q => Bool.noConfusion (show false = true from q)) (fun _ _ _ q => Bool.noConfusion (show false = true from q)) (fun _ _ _ q => Bool.noConfusion (show false = true from q)) (fun _ q => Bool.noConfusion (show false = true from q)) (fun _ q => Bool.noConfusion (show false = true from q))
    trivial (fun _ _ _ _ => trivial) trivial (fun _ _ _ _ => trivial) (fun _ => .nil) (fun _ _ i r q => .cons (i (Bool.and_eq_true_iff.mp q).1) (r (Bool.and_eq_true_iff.mp q).2)) trivial (fun _ _ _ _ => trivial) h q
theorem IsL.alike (ht : ∀ b xs, H b = some (.tup xs) → H' b = some (.tup xs)) (hf : ∀ b o u, H b = some (.frz o u) → H' b = some (.frz o u)) : ∀ {ds : List D} {vs : List V}, immL ds = true → IsL K H ds vs → IsL K H' ds vs := by
  intro ds
  induction ds with
  | nil => intro vs q h; cases h; exact .nil
  | cons d ds ih =>
    intro vs q h
    rw [immL, Bool.and_eq_true] at q
    cases h with | cons i r => exact .cons (Is.alike ht hf q.1 i) (ih q.2 r)
theorem off_imm {O : Nat → Option Addr} (ho : OwnK H O) {d : D} {v : V} (q : d.imm = true) (h : Is K H d v) : Is K (Off H O) d v := by
  refine Is.alike (fun b xs e => Off.of e fun i z => ?_) (fun b o u e => Off.of e fun i z => ?_) q h
  · obtain ⟨u, w, m⟩ := ho i b z; rw [w] at e; cases e; cases m
  · obtain ⟨u, w, m⟩ := ho i b z; rw [w] at e; cases e; cases m
theorem offL_imm {O : Nat → Option Addr} (ho : OwnK H O) {ds : List D} {vs : List V} (q : immL ds = true) (h : IsL K H ds vs) : IsL K (Off H O) ds vs := by
  refine IsL.alike (fun b xs e => Off.of e fun i z => ?_) (fun b o u e => Off.of e fun i z => ?_) q h
  · obtain ⟨u, w, m⟩ := ho i b z; rw [w] at e; cases e; cases m
  · obtain ⟨u, w, m⟩ := ho i b z; rw [w] at e; cases e; cases m
end
end L2.PU
namespace L2.PU
open PySem PySem.Spec PyProof.Rows
noncomputable abbrev M (α : Type) := Option (Except Addr α)
noncomputable def ok {α : Type} (a : α) : M α := some (.ok a)
noncomputable def err {α : Type} (c : Addr) : M α := some (.error c)
noncomputable def bnd {α β : Type} (m : M α) (k : α → M β) : M β := match m with
  | none => none
  | some (.error c) => some (.error c)
  | some (.ok a) => k a
@[simp] theorem bnd_ok {α β : Type} (a : α) (k : α → M β) : bnd (ok a) k = k a := rfl
@[simp] theorem bnd_err {α β : Type} (c : Addr) (k : α → M β) : bnd (err c : M α) k = err c := rfl
@[simp] theorem bnd_none {α β : Type} (k : α → M β) : bnd (none : M α) k = none := rfl
theorem ok_inj {α : Type} {a b : α} (h : ok a = ok b) : a = b := by cases h; rfl
theorem bnd_eq_ok {α β : Type} {m : M α} {k : α → M β} {b : β} (h : bnd m k = ok b) : ∃ a, m = ok a ∧ k a = ok b := by
  unfold bnd at h
  split at h
  · cases h
  · cases h
  · exact ⟨_, rfl, h⟩
noncomputable def Fly (P : Program) (w : World) (outer : List Env) (s : Shared) (ea c : Addr) (H' : Hp) (s' : Shared) : Prop :=
  ∃ Bs a0, Heap.FlyingW Bs outer ea (.ref c) a0 s'.heap ∧ (∀ b o o', s.heap.get? b = some o' → b ∉ frs outer → s'.heap.get? b = some o → Bs.get? b = some o) ∧ HOk P w H' Bs
noncomputable def Exc (X : Cx) (pins : List (Addr × Obj)) (σ : St) (H : Hp) (c : Addr) (e : Value) (s : Shared) : Prop := ∃ ea, e = .ref ea ∧
  ((∃ h args, Heap.MadeExcOf h s.heap ea (.ref c) args ∧ Inv X pins σ H { s with heap := h }) ∨
   (∃ s1 H1, Inv X pins σ H1 s1 ∧ s.os = s1.os ∧ AllBare s.gens ∧ Un (frs X.stack) [] H1 H s1.heap s.heap ∧ Fly X.prog X.w X.stack s1 ea c H s))
noncomputable def Thr (X : Cx) (σ : St) (H : Hp) (c : Addr) : Prop := ∀ (pins : List (Addr × Obj)) (s : Shared) (H' : Hp) (e : Value), Same H H' → Exc X pins σ H' c e s → X.xe e s
theorem Thr.mono {X : Cx} {σ : St} {H H' : Hp} {c : Addr} (e : Same H H') (t : Thr X σ H c) : Thr X σ H' c := fun pins s H2 ev q x => t pins s H2 ev (e.trans q) x
noncomputable def Res {α : Type} (X : Cx) (σ : St) (H : Hp) (Q : α → Prop) (m : M α) : Prop := match m with
  | none => False
  | some (.error c) => Thr X σ H c
  | some (.ok a) => Q a
theorem Res.bind {α β : Type} {X : Cx} {σ : St} {H : Hp} {Q : β → Prop} {m : M α} {k : α → M β} (h : Res X σ H Q (bnd m k)) : Res X σ H (fun a => Res X σ H Q (k a)) m := by
  unfold bnd at h
  split at h
  · exact h
  · exact h
  · exact h
theorem Res.mono {α : Type} {X : Cx} {σ : St} {H H' : Hp} {Q Q' : α → Prop} {m : M α} (e : Same H H') (h : Res X σ H Q m) (i : ∀ a, Q a → Q' a) : Res X σ H' Q' m := by
  unfold Res at *
  split at h
  · exact h
  · exact Thr.mono e h
  · exact i _ h
theorem Res.imp {α : Type} {X : Cx} {σ : St} {H : Hp} {Q Q' : α → Prop} {m : M α} (h : Res X σ H Q m) (i : ∀ a, Q a → Q' a) : Res X σ H Q' m := h.mono (Same.refl H) i
noncomputable def tD (X : Cx) (B : Hp) (f : Rho → M D) : TE := fun σ H Q => ∃ ρ, Rel X.K B ρ σ H ∧ Res X σ H (fun d => ∀ v H', Same H H' → Is X.K H' d v → Q v H') (f ρ)
noncomputable def tDT (X : Cx) (B : Hp) (f : Rho → M Bool) : TT := fun σ H Q => ∃ ρ, Rel X.K B ρ σ H ∧ Res X σ H (fun b => ∀ H', Same H H' → Q b H') (f ρ)
noncomputable def tDA (X : Cx) (B : Hp) (f : Rho → M (List D)) : TA := fun σ H Q => ∃ ρ, Rel X.K B ρ σ H ∧ Res X σ H (fun ds => ∀ vs H', Same H H' → IsL X.K H' ds vs → Q vs H') (f ρ)
noncomputable abbrev PD (X : Cx) (B : Hp) (e : Expr) (f : Rho → M D) : Prop := PE X e (tD X B f)
noncomputable abbrev PDT (X : Cx) (B : Hp) (e : Expr) (f : Rho → M Bool) : Prop := PT X e (tDT X B f)
noncomputable abbrev PDW (X : Cx) (B : Hp) (e : Expr) (f : Rho → M Bool) : Prop := PW X e (tDT X B f)
noncomputable abbrev PDA (X : Cx) (B : Hp) (es : List Expr) (f : Rho → M (List D)) : Prop := PA X es (tDA X B f)
section
variable {X : Cx} {B : Hp} {e a b c : Expr} {es : List Expr} {pos : Pos}
theorem PE.of {t t' : TE} (h : PE X e t) (i : ∀ σ H Q, t' σ H Q → t σ H Q) : PE X e t' := fun pins s σ H Q I q => h pins s σ H Q I (i σ H Q q)
theorem PT.of {t t' : TT} (h : PT X e t) (i : ∀ σ H Q, t' σ H Q → t σ H Q) : PT X e t' := fun pins s σ H Q I q => h pins s σ H Q I (i σ H Q q)
theorem PW.of {t t' : TT} (h : PW X e t) (i : ∀ σ H Q, t' σ H Q → t σ H Q) : PW X e t' := fun wh pins s σ H Q I q => h wh pins s σ H Q I (i σ H Q q)
theorem PA.of {t t' : TA} (h : PA X es t) (i : ∀ σ H Q, t' σ H Q → t σ H Q) : PA X es t' := fun pos pins s σ H Q I q => h pos pins s σ H Q I (i σ H Q q)
noncomputable def look (i : Nat) : Rho → M D := fun ρ => match ρ[i]? with
  | some (some sv) => ok sv.cur
  | _ => none
theorem pd_var (i : Nat) {x : Str} {pos : Pos} (hN : X.N[i]? = some x := by rfl) (hv : Vis X.env.scope x := by first | exact Or.inl rfl | exact Or.inr (Or.inl rfl) | exact Or.inr (Or.inr rfl)) (hd : (x == ("__debug__" : Str)) = false := by decide)
    (hcd : (x == ("__classdict__" : Str)) = false := by decide) : PD X B (.Name x pos) (look i) := by
  refine PE.of (pe_var hN hv hd hcd) fun σ H Q h => ?_
  obtain ⟨ρ, r, h⟩ := h
  unfold look at h
  split at h
  · rename_i sv q
    obtain ⟨v, e1, e2⟩ := r.get q
    exact ⟨v, e1, h v H (Same.refl H) e2⟩
  · exact False.elim h
noncomputable def con (d : D) : Rho → M D := fun _ => ok d
theorem pd_int {i j pos} : PD X B (.Constant (.int i) j pos) (con (.int i)) := PE.of pe_int fun σ H Q ⟨ρ, r, h⟩ => h _ H (Same.refl H) (.int i)
theorem pd_bl {i j pos} : PD X B (.Constant (.bool i) j pos) (con (.bl i)) := PE.of pe_bl fun σ H Q ⟨ρ, r, h⟩ => h _ H (Same.refl H) (.bl i)
theorem pd_non {j pos} : PD X B (.Constant .none j pos) (con .non) := PE.of pe_non fun σ H Q ⟨ρ, r, h⟩ => h _ H (Same.refl H) .non
theorem pd_str {x j pos} : PD X B (.Constant (.str x) j pos) (con (.str x)) := PE.of pe_str fun σ H Q ⟨ρ, r, h⟩ => h _ H (Same.refl H) (.str x)
noncomputable def b2 (g : D → D → M D) (fa fb : Rho → M D) : Rho → M D := fun ρ => bnd (fa ρ) fun x => bnd (fb ρ) fun y => g x y
noncomputable def R2ok (X : Cx) (r : R2) (g : D → D → M D) : Prop := ∀ (H : Hp) (x y : V) (dx dy d : D) (Q : VK), Is X.K H dx x → Is X.K H dy y → g dx dy = ok d → (∀ v H', Same H H' → Is X.K H' d v → Q v H') → r x y H Q
noncomputable def NoErr {α β : Type} (g : α → β → M D) : Prop := ∀ x y c, g x y ≠ err c
variable {fa fb fc : Rho → M D}
theorem b2_red {r : R2} {g : D → D → M D} (hg : R2ok X r g) (hn : NoErr g) {σ : St} {H : Hp} {Q : VK} (h : tD X B (b2 g fa fb) σ H Q) : tOp r (tD X B fa) (tD X B fb) σ H Q := by
  obtain ⟨ρ, r1, h⟩ := h
  refine ⟨ρ, r1, (Res.bind h).imp fun dx h1 v H1 e1 i1 => ⟨ρ, r1.mono e1, (Res.bind h1).mono e1 fun dy h2 u H2 e2 i2 => ?_⟩⟩
  cases q : g dx dy with
  | none => rw [q] at h2; exact False.elim h2
  | some z =>
    cases z with
    | error c => exact absurd q (hn dx dy c)
    | ok d =>
      rw [q] at h2
      exact hg H2 v u dx dy d Q (i1.mono e2) i2 q fun w H3 e3 i3 => h2 w H3 ((e1.trans e2).trans e3) i3
theorem pd_op {op : Operator} {r : R2} {g : D → D → M D} (ho : OpR X (binaryOp op) r) (hg : R2ok X r g) (hn : NoErr g) (ha : PD X B a fa) (hb : PD X B b fb) : PD X B (.BinOp a op b pos) (b2 g fa fb) :=
  PE.of (pe_op ho ha hb) fun _ _ _ h => b2_red hg hn h
theorem pd_cmp {op : CmpOp} {r : R2} {g : D → D → M D} (ho : OpR X (compareOp op) r) (hg : R2ok X r g) (hn : NoErr g) (ha : PD X B a fa) (hb : PD X B b fb) (hm : behindInMarks op b = false) : PD X B (.Compare a [op] [b] pos) (b2 g fa fb) :=
  PE.of (pe_cmpR ho ha hb hm) fun _ _ _ h => b2_red hg hn h
noncomputable def tru : D → M Bool
  | .non => ok false
  | .bl b => ok b
  | .int i => ok (i != 0)
  | .tup ds => ok (!ds.isEmpty)
  | .lst ds => ok (!ds.isEmpty)
  | _ => none
noncomputable def blOf : D → M Bool
  | .bl b => ok b
  | _ => none
noncomputable def test (f : Rho → M D) : Rho → M Bool := fun ρ => bnd (f ρ) tru
noncomputable def testB (f : Rho → M D) : Rho → M Bool := fun ρ => bnd (f ρ) blOf
theorem pdt_cmp {op : CmpOp} {r : R2} {g : D → D → M D} (ho : OpR X (compareOp op) r) (hg : R2ok X r g) (hn : NoErr g) (ha : PD X B a fa) (hb : PD X B b fb) (hm : behindInMarks op b = false) : PDT X B (.Compare a [op] [b] pos) (testB (b2 g fa fb)) := by
  refine PT.of (pt_cmpR ho ha hb hm) fun σ H Q h => ?_
  obtain ⟨ρ, r1, h⟩ := h
  refine b2_red hg hn ⟨ρ, r1, (Res.bind h).imp fun d h1 v H1 e1 i1 => ?_⟩
  unfold blOf at h1
  split at h1
  · rename_i k
    cases i1
    exact ⟨k, rfl, h1 H1 e1⟩
  · exact False.elim h1
theorem isEmpty_isL {K : PySem.W.Frag} {H : Hp} {ds : List D} {vs : List V} (r : IsL K H ds vs) : vs.isEmpty = ds.isEmpty := by cases r <;> rfl
theorem tru_V {K : PySem.W.Frag} {H : Hp} {d : D} {v : V} {k : Bool} (i : Is K H d v) (h : tru d = ok k) : TruV K v H k := by
  cases i with
  | non => exact (ok_inj h).symm
  | bl b => exact (ok_inj h).symm
  | int i => exact (ok_inj h).symm
  | str x => exact absurd h (by simp [tru, ok])
  | tup h1 r => exact .inr (.inl ⟨_, h1, by rw [isEmpty_isL r]; exact (ok_inj h).symm⟩)
  | lst h1 r => exact .inl ⟨_, h1, by rw [isEmpty_isL r]; exact (ok_inj h).symm⟩
  | obj h1 r => exact absurd h (by simp [tru, ok])
  | dk h1 r => exact absurd h (by simp [tru, ok])
  | dt h1 r => exact absurd h (by simp [tru, ok])
  | exc h1 => exact absurd h (by simp [tru, ok])
  | set h1 => exact absurd h (by simp [tru, ok])
theorem tru_noerr (d : D) (c : Addr) : tru d ≠ err c := by cases d <;> simp [tru, ok, err]
theorem pdt_val (ha : PD X B a fa) (he : ∀ whole, isTrue a X.env whole = (do let v ← whole; standAt a.pos; holding [v] (truthy v)) := by intro _; rfl) : PDT X B a (test fa) := by
  refine PT.of (pt_truth ha he) fun σ H Q h => ?_
  obtain ⟨ρ, r1, h⟩ := h
  refine ⟨ρ, r1, (Res.bind h).imp fun d h1 v H1 e1 i1 => ?_⟩
  cases q : tru d with
  | none => rw [q] at h1; exact False.elim h1
  | some z =>
    cases z with
    | error c => exact absurd q (tru_noerr d c)
    | ok k => rw [q] at h1; exact ⟨k, tru_V i1 q, h1 H1 e1⟩
variable {ta tb tc : Rho → M Bool} {rest : List Expr}
noncomputable def orB (f g : Rho → M Bool) : Rho → M Bool := fun ρ => bnd (f ρ) fun x => if x = true then ok true else g ρ
noncomputable def notB (f : Rho → M Bool) : Rho → M Bool := fun ρ => bnd (f ρ) fun x => ok (!x)
theorem pdw_or1 (ha : PDT X B a ta) : PDW X B (.BoolOp .Or [a] pos) ta := pw_or1 ha
theorem pdw_or (ha : PDT X B a ta) (hb : PDW X B (.BoolOp .Or (b :: rest) pos) tb) : PDW X B (.BoolOp .Or (a :: b :: rest) pos) (orB ta tb) := by
  refine PW.of (pw_or ha hb) fun σ H Q h => ?_
  obtain ⟨ρ, r1, h⟩ := h
  refine ⟨ρ, r1, (Res.bind h).imp fun x h1 H1 e1 => ?_⟩
  cases x with
  | false => exact ⟨ρ, r1.mono e1, Res.mono e1 h1 fun y q H2 e2 => q H2 (e1.trans e2)⟩
  | true => exact h1 H1 e1
theorem PDW.pdt {f : Rho → M Bool} (h : PDW X B e f) : PDT X B e f := h.pt
theorem pdt_not (ha : PDT X B a ta) : PDT X B (.UnaryOp .Not a pos) (notB ta) := by
  refine PT.of (pt_not ha) fun σ H Q h => ?_
  obtain ⟨ρ, r1, h⟩ := h
  exact ⟨ρ, r1, (Res.bind h).imp fun x h1 H1 e1 => h1 H1 e1⟩
noncomputable def andV (f g : Rho → M D) : Rho → M D := fun ρ => bnd (f ρ) fun x => bnd (blOf x) fun k => if k = true then g ρ else ok (.bl false)
noncomputable def notV (f : Rho → M D) : Rho → M D := fun ρ => bnd (f ρ) fun x => bnd (blOf x) fun k => ok (.bl (!k))
theorem blOf_res {σ : St} {H : Hp} {Q : Bool → Prop} {d : D} (h : Res X σ H Q (blOf d)) : ∃ k, d = .bl k ∧ Q k := by
  unfold blOf at h
  split at h
  · exact ⟨_, rfl, h⟩
  · exact False.elim h
theorem pd_one {op} (h : PD X B a fa) : PD X B (.BoolOp op [a] pos) fa := pe_one h
theorem pd_and (ha : PD X B a fa) (hb : PD X B (.BoolOp .And (b :: rest) pos) fb) : PD X B (.BoolOp .And (a :: b :: rest) pos) (andV fa fb) := by
  refine PE.of (pe_and ha hb) fun σ H Q h => ?_
  obtain ⟨ρ, r1, h⟩ := h
  refine ⟨ρ, r1, (Res.bind h).imp fun d h1 v H1 e1 i1 => ?_⟩
  obtain ⟨k, rfl, h2⟩ := blOf_res (Res.bind h1)
  cases i1
  refine ⟨k, rfl, ?_⟩
  cases k with
  | true => exact ⟨ρ, r1.mono e1, Res.mono e1 h2 fun y q u H2 e2 i2 => q u H2 (e1.trans e2) i2⟩
  | false => exact h2 _ H1 e1 (.bl false)
theorem pd_not (ha : PD X B a fa) : PD X B (.UnaryOp .Not a pos) (notV fa) := by
  refine PE.of (pe_not ha) fun σ H Q h => ?_
  obtain ⟨ρ, r1, h⟩ := h
  refine ⟨ρ, r1, (Res.bind h).imp fun d h1 v H1 e1 i1 => ?_⟩
  obtain ⟨k, rfl, h2⟩ := blOf_res (Res.bind h1)
  cases i1
  exact ⟨k, rfl, h2 _ H1 e1 (.bl _)⟩
noncomputable def nostar : Expr → Bool
  | .Starred .. => false
  | _ => true
theorem star_ok {e : Expr} {es : List Expr} {env : Env} (h : nostar e = true) : starEach (e :: es) env = (false, eval e env) :: starEach es env := by
  cases e <;> first | rfl | cases h
theorem star1 {e : Expr} {env : Env} (h : nostar e = true) : starEach [e] env = [(false, eval e env)] := star_ok h
theorem star2 {e f : Expr} {env : Env} (h : nostar e = true) (h' : nostar f = true) : starEach [e, f] env = [(false, eval e env), (false, eval f env)] := by rw [star_ok h, star1 h']
noncomputable def aNil : Rho → M (List D) := fun _ => ok []
noncomputable def aCons (f : Rho → M D) (g : Rho → M (List D)) : Rho → M (List D) := fun ρ => bnd (f ρ) fun x => bnd (g ρ) fun xs => ok (x :: xs)
variable {ga : Rho → M (List D)}
theorem pda_nil : PDA X B [] aNil := PA.of pa_nil fun σ H Q ⟨ρ, r, h⟩ => h [] H (Same.refl H) .nil
theorem pda_cons (ha : PD X B e fa) (hr : PDA X B es ga) (hs : starEach (e :: es) X.env = (false, eval e X.env) :: starEach es X.env := by exact star_ok rfl) : PDA X B (e :: es) (aCons fa ga) := by
  refine PA.of (pa_cons ha hr hs) fun σ H Q h => ?_
  obtain ⟨ρ, r1, h⟩ := h
  refine ⟨ρ, r1, (Res.bind h).imp fun d h1 v H1 e1 i1 => ⟨ρ, r1.mono e1, (Res.bind h1).mono e1 fun ds h2 vs H2 e2 i2 => ?_⟩⟩
  exact h2 (v :: vs) H2 (e1.trans e2) (.cons (i1.mono e2) i2)
theorem same_new {H : Hp} {p : Addr} (h : H p = none) (o : HO) : Same H (upd H p o) := fun b u q => by rw [upd_ne (ne_of_none q h)]; exact q
noncomputable def mkT (g : Rho → M (List D)) : Rho → M D := fun ρ => bnd (g ρ) fun ds => if ds.length ≤ 1000 then ok (.tup ds) else none
noncomputable def mkL (g : Rho → M (List D)) : Rho → M D := fun ρ => bnd (g ρ) fun ds => if ds.length ≤ 1000 then ok (.lst ds) else none
theorem le_line {n : Nat} (h : n ≤ 1000) : n ≤ sizeLine := Nat.le_of_lt (small1000 h)
theorem pd_tup {x1} (h : PDA X B es ga) : PD X B (.Tuple es x1 pos) (mkT ga) := by
  refine PE.of (pe_tup h) fun σ H Q h => ?_
  obtain ⟨ρ, r1, h⟩ := h
  refine ⟨ρ, r1, (Res.bind h).imp fun ds h1 vs H1 e1 i1 => ?_⟩
  by_cases hl : ds.length ≤ 1000
  · rw [if_pos hl] at h1
    exact ⟨by rw [← i1.length]; exact le_line hl, fun p hp => h1 _ _ (e1.trans (same_new hp _)) (.tup (TQ.of upd_same) (i1.mono (same_new hp _)))⟩
  · rw [if_neg hl] at h1; exact False.elim h1
theorem pd_lst (h : PDA X B es ga) : PD X B (.List es pos) (mkL ga) := by
  refine PE.of (pe_lst h) fun σ H Q h => ?_
  obtain ⟨ρ, r1, h⟩ := h
  refine ⟨ρ, r1, (Res.bind h).imp fun ds h1 vs H1 e1 i1 => ?_⟩
  by_cases hl : ds.length ≤ 1000
  · rw [if_pos hl] at h1
    exact ⟨by rw [← i1.length]; exact le_line hl, fun p hp => h1 _ _ (e1.trans (same_new hp _)) (.lst (SqL.of upd_same) (i1.mono (same_new hp _)))⟩
  · rw [if_neg hl] at h1; exact False.elim h1
end
end L2.PU
namespace L2.PU
open PySem PySem.Spec PyProof.Rows
noncomputable def gSub : D → D → M D
  | .int i, .int j => ok (.int (i - j))
  | _, _ => none
noncomputable def mulB (i j : Int) : Bool := decide (Builtin.Int.intBits i ≤ 1048576) && decide (Builtin.Int.intBits j ≤ 1048576)
noncomputable def gMul : D → D → M D
  | .int i, .int j => if mulB i j = true then ok (.int (i * j)) else none
  | _, _ => none
noncomputable def gFdiv : D → D → M D
  | .int i, .int j => if 0 < j ∧ j < 1073741824 then ok (.int (i / j)) else none
  | _, _ => none
noncomputable def gMod : D → D → M D
  | .int i, .int j => if 0 < j then ok (.int (i % j)) else none
  | _, _ => none
noncomputable def gPow : D → D → M D
  | .int i, .int j => if 0 ≤ j ∧ j ≤ 1000 ∧ i.natAbs < 1000 then ok (.int (i ^ j.toNat)) else none
  | _, _ => none
section
variable {X : Cx} {B : Hp} {a b : Expr} {fa fb : Rho → M D} {pos : Pos}
theorem mulB_ok {i j : Int} (h : mulB i j = true) : IntMulOk i j := by
  unfold mulB at h
  rw [Bool.and_eq_true] at h
  exact IntMulOk.of_bits (of_decide_eq_true h.1) (of_decide_eq_true h.2)
theorem op_mulB : OpR X (binaryOp .Mult) (rI (fun i j => mulB i j = true) fun i j => .int (i * j)) := opI fun _ _ _ _ _ _ _ hc q => mul_int q (mulB_ok hc)
theorem r_int0 {h : Int → Int → Int} {g : D → D → M D} (hg : ∀ dx dy d, g dx dy = ok d → ∃ i j, dx = .int i ∧ dy = .int j ∧ d = .int (h i j)) : R2ok X (rI0 fun i j => .int (h i j)) g := by
  intro H x y dx dy d Q ix iy e q
  obtain ⟨i, j, rfl, rfl, rfl⟩ := hg _ _ _ e
  cases ix; cases iy
  exact ⟨i, j, rfl, rfl, q _ H (Same.refl H) (.int _)⟩
theorem r_int {C : Int → Int → Prop} {h : Int → Int → Int} {g : D → D → M D} (hg : ∀ dx dy d, g dx dy = ok d → ∃ i j, dx = .int i ∧ dy = .int j ∧ C i j ∧ d = .int (h i j)) : R2ok X (rI C fun i j => .int (h i j)) g := by
  intro H x y dx dy d Q ix iy e q
  obtain ⟨i, j, rfl, rfl, c, rfl⟩ := hg _ _ _ e
  cases ix; cases iy
  exact ⟨i, j, rfl, rfl, c, q _ H (Same.refl H) (.int _)⟩
theorem pd_sub (ha : PD X B a fa) (hb : PD X B b fb) : PD X B (.BinOp a .Sub b pos) (b2 gSub fa fb) :=
  pd_op op_sub (r_int0 fun dx dy d e => by
    unfold gSub at e
    split at e <;> first | (cases e; done) | exact ⟨_, _, rfl, rfl, (ok_inj e).symm⟩) (by intro x y c h; unfold gSub at h; (repeat' split at h) <;> cases h) ha hb
theorem pd_fdiv (ha : PD X B a fa) (hb : PD X B b fb) : PD X B (.BinOp a .FloorDiv b pos) (b2 gFdiv fa fb) :=
  pd_op op_fdiv (r_int fun dx dy d e => by
    unfold gFdiv at e
    split at e <;> first | (cases e; done) | skip
    split at e
    · rename_i h; exact ⟨_, _, rfl, rfl, h, (ok_inj e).symm⟩
    · exact nomatch e) (by intro x y c h; unfold gFdiv at h; (repeat' split at h) <;> cases h) ha hb
theorem pd_mod (ha : PD X B a fa) (hb : PD X B b fb) : PD X B (.BinOp a .Mod b pos) (b2 gMod fa fb) :=
  pd_op op_mod (r_int fun dx dy d e => by
    unfold gMod at e
    split at e <;> first | (cases e; done) | skip
    split at e
    · rename_i h; exact ⟨_, _, rfl, rfl, h, (ok_inj e).symm⟩
    · exact nomatch e) (by intro x y c h; unfold gMod at h; (repeat' split at h) <;> cases h) ha hb
theorem pd_pow (ha : PD X B a fa) (hb : PD X B b fb) : PD X B (.BinOp a .Pow b pos) (b2 gPow fa fb) :=
  pd_op op_pow (r_int fun dx dy d e => by
    unfold gPow at e
    split at e <;> first | (cases e; done) | skip
    split at e
    · rename_i h; exact ⟨_, _, rfl, rfl, ⟨h.1, by omega, by have := h.2.2; omega⟩, (ok_inj e).symm⟩
    · exact nomatch e) (by intro x y c h; unfold gPow at h; (repeat' split at h) <;> cases h) ha hb
noncomputable def gLt : D → D → M D
  | .int i, .int j => ok (.bl (decide (i < j)))
  | _, _ => none
noncomputable def gGe : D → D → M D
  | .int i, .int j => ok (.bl (decide (j ≤ i)))
  | _, _ => none
noncomputable def eqF : D → D → Option Bool
  | .non, .non => some true
  | .non, .int _ => some false
  | .int _, .non => some false
  | .non, .bl _ => some false
  | .bl _, .non => some false
  | .non, .str _ => some false
  | .str _, .non => some false
  | .int i, .int j => some (decide (i = j))
  | .bl i, .bl j => some (decide (i = j))
  | .str i, .str j => some (decide (i = j))
  | .int _, .str _ => some false
  | .str _, .int _ => some false
  | .bl _, .str _ => some false
  | .str _, .bl _ => some false
  | _, _ => none
noncomputable def gEq (x y : D) : M D := match eqF x y with
  | some b => ok (.bl b)
  | none => none
noncomputable def gNe (x y : D) : M D := match eqF x y with
  | some b => ok (.bl (!b))
  | none => none
noncomputable def isNon : D → Bool
  | .non => true
  | _ => false
noncomputable def gIs : D → D → M D
  | x, .non => ok (.bl (isNon x))
  | _, _ => none
theorem r_intB {h : Int → Int → Bool} {g : D → D → M D} (hg : ∀ dx dy d, g dx dy = ok d → ∃ i j, dx = .int i ∧ dy = .int j ∧ d = .bl (h i j)) : R2ok X (rI0 fun i j => .bl (h i j)) g := by
  intro H x y dx dy d Q ix iy e q
  obtain ⟨i, j, rfl, rfl, rfl⟩ := hg _ _ _ e
  cases ix; cases iy
  exact ⟨i, j, rfl, rfl, q _ H (Same.refl H) (.bl _)⟩
theorem r_lt : R2ok X (rI0 fun i j => .bl (decide (i < j))) gLt := r_intB fun dx dy d e => by
    unfold gLt at e
    split at e <;> first | (cases e; done) | exact ⟨_, _, rfl, rfl, (ok_inj e).symm⟩
theorem r_ge : R2ok X (rI0 fun i j => .bl (decide (j ≤ i))) gGe := r_intB fun dx dy d e => by
    unfold gGe at e
    split at e <;> first | (cases e; done) | exact ⟨_, _, rfl, rfl, (ok_inj e).symm⟩
theorem n_lt : NoErr gLt := by intro x y c h; unfold gLt at h; split at h <;> cases h
theorem n_ge : NoErr gGe := by intro x y c h; unfold gGe at h; split at h <;> cases h
theorem n_is : NoErr gIs := by intro x y c; cases y <;> (intro h; exact nomatch h)
theorem n_eq : NoErr gEq := by intro x y c h; unfold gEq at h; split at h <;> exact nomatch h
theorem n_ne : NoErr gNe := by intro x y c h; unfold gNe at h; split at h <;> exact nomatch h
theorem eqF_V {K : PySem.W.Frag} {H : Hp} {dx dy : D} {x y : V} {b : Bool} (ix : Is K H dx x) (iy : Is K H dy y) (e : eqF dx dy = some b) : scal x y = true ∧ decide (x = y) = b := by
  cases ix with
  | non => cases iy <;> first | (cases e; done) | (have e' := Option.some.inj e; subst e'; exact ⟨rfl, by simp⟩)
  | bl => cases iy <;> first | (cases e; done) | (have e' := Option.some.inj e; subst e'; exact ⟨rfl, by simp⟩)
  | int => cases iy <;> first | (cases e; done) | (have e' := Option.some.inj e; subst e'; exact ⟨rfl, by simp⟩)
  | str => cases iy <;> first | (cases e; done) | (have e' := Option.some.inj e; subst e'; exact ⟨rfl, by simp⟩)
  | _ => exact nomatch e
theorem r_eq : R2ok X rEq gEq := by
  intro H x y dx dy d Q ix iy e q
  unfold gEq at e
  split at e
  · rename_i b hb
    obtain ⟨h1, h2⟩ := eqF_V ix iy hb
    have e' := ok_inj e; subst e'
    exact ⟨h1, by rw [h2]; exact q _ H (Same.refl H) (.bl _)⟩
  · exact nomatch e
theorem r_ne : R2ok X rNe gNe := by
  intro H x y dx dy d Q ix iy e q
  unfold gNe at e
  split at e
  · rename_i b hb
    obtain ⟨h1, h2⟩ := eqF_V ix iy hb
    have e' := ok_inj e; subst e'
    exact ⟨h1, by rw [h2]; exact q _ H (Same.refl H) (.bl _)⟩
  · exact nomatch e
theorem isNon_V {K : PySem.W.Frag} {H : Hp} {dx : D} {x : V} (ix : Is K H dx x) : decide (x = V.non) = isNon dx := by
  cases ix <;> simp [isNon]
theorem r_is : R2ok X (fun x y H Q => y = .non ∧ Q (.bl (decide (x = .non))) H) gIs := by
  intro H x y dx dy d Q ix iy e q
  cases iy <;> first | (cases e; done) | skip
  have e' := ok_inj e; subst e'
  exact ⟨rfl, by rw [isNon_V ix]; exact q _ H (Same.refl H) (.bl _)⟩
theorem pd_ge (ha : PD X B a fa) (hb : PD X B b fb) : PD X B (.Compare a [.GtE] [b] pos) (b2 gGe fa fb) := pd_cmp op_ge r_ge n_ge ha hb (nomark _)
theorem pd_eq (ha : PD X B a fa) (hb : PD X B b fb) : PD X B (.Compare a [.Eq] [b] pos) (b2 gEq fa fb) := pd_cmp op_eq r_eq n_eq ha hb (nomark _)
theorem pd_is (ha : PD X B a fa) (hb : PD X B b fb) : PD X B (.Compare a [.Is] [b] pos) (b2 gIs fa fb) := pd_cmp op_isN r_is n_is ha hb (nomark _)
theorem pdt_lt (ha : PD X B a fa) (hb : PD X B b fb) : PDT X B (.Compare a [.Lt] [b] pos) (testB (b2 gLt fa fb)) := pdt_cmp op_lt r_lt n_lt ha hb (nomark _)
theorem pdt_eq (ha : PD X B a fa) (hb : PD X B b fb) : PDT X B (.Compare a [.Eq] [b] pos) (testB (b2 gEq fa fb)) := pdt_cmp op_eq r_eq n_eq ha hb (nomark _)
theorem pdt_ne (ha : PD X B a fa) (hb : PD X B b fb) : PDT X B (.Compare a [.NotEq] [b] pos) (testB (b2 gNe fa fb)) := pdt_cmp op_ne r_ne n_ne ha hb (nomark _)
theorem pdt_is (ha : PD X B a fa) (hb : PD X B b fb) : PDT X B (.Compare a [.Is] [b] pos) (testB (b2 gIs fa fb)) := pdt_cmp op_isN r_is n_is ha hb (nomark _)
noncomputable def gIx : D → D → M D
  | .lst ds, .int i => match atI ds i with | some d => ok d | none => none
  | .tup ds, .int i => match atI ds i with | some d => ok d | none => none
  | .str z, .int i => if z.length ≤ 1000 then (match atI z.cps.toList i with | some c => ok (.str ⟨#[c]⟩) | none => none) else none
  | _, _ => none
theorem n_ix : NoErr gIx := by intro x y c h; unfold gIx at h; (repeat' split at h) <;> cases h
theorem atI_isL {K : PySem.W.Frag} {H : Hp} {ds : List D} {vs : List V} {i : Int} {d : D} (r : IsL K H ds vs) (e : atI ds i = some d) : ∃ v, atI vs i = some v ∧ Is K H d v := by
  unfold atI at e ⊢
  rw [r.length] at e
  cases q : ixN vs.length i with
  | none => rw [q] at e; exact nomatch e
  | some j => rw [q] at e; exact r.get e
theorem r_ix : R2ok X (rIx X.K) gIx := by
  intro H x y dx dy d Q ix iy e q
  unfold gIx at e
  split at e
  · split at e
    · rename_i d' hd
      cases ix with
      | lst h r =>
        cases iy
        have e' := ok_inj e; subst e'
        obtain ⟨v, h1, h2⟩ := atI_isL r hd
        exact .inl ⟨_, _, _, v, rfl, rfl, h, h1, q _ H (Same.refl H) h2⟩
    · cases e
  · split at e
    · rename_i d' hd
      cases ix with
      | tup h r =>
        cases iy
        have e' := ok_inj e; subst e'
        obtain ⟨v, h1, h2⟩ := atI_isL r hd
        exact .inr (.inl ⟨_, _, _, v, rfl, rfl, h, h1, q _ H (Same.refl H) h2⟩)
    · cases e
  · split at e
    · rename_i hz
      split at e
      · rename_i c hc
        cases ix; cases iy
        have e' := ok_inj e; subst e'
        exact .inr (.inr ⟨_, _, c, rfl, rfl, Nat.le_trans hz (by decide), hc, q _ H (Same.refl H) (.str _)⟩)
      · cases e
    · cases e
  · cases e
theorem pd_ix (ha : PD X B a fa) (hb : PD X B b fb) (hs : PlainIx b) : PD X B (.Subscript a b pos) (b2 gIx fa fb) := PE.of (pe_ix ix_seq ha hb hs) fun _ _ _ h => b2_red r_ix n_ix h
noncomputable def oPart (f : Rho → M D) : Rho → M (Option Int) := fun ρ => bnd (f ρ) fun d => match d with | .int i => ok (some i) | _ => none
noncomputable def oNone : Rho → M (Option Int) := fun _ => ok none
noncomputable def tDO (X : Cx) (B : Hp) (f : Rho → M (Option Int)) : TO := fun σ H Q => ∃ ρ, Rel X.K B ρ σ H ∧ Res X σ H (fun o => ∀ H', Same H H' → Q o H') (f ρ)
theorem pdo_none : PO X none (tDO X B oNone) := fun pins s σ H Q I ⟨ρ, r, h⟩ => po_none pins s σ H Q I (h H (Same.refl H))
theorem pdo_some {e : Expr} (he : PD X B e fa) : PO X (some e) (tDO X B (oPart fa)) := fun pins s σ H Q I ⟨ρ, r, h⟩ => by
  refine po_some he pins s σ H Q I ⟨ρ, r, (Res.bind h).imp fun d h1 v H1 e1 i1 => ?_⟩
  cases i1 <;> first | exact False.elim h1 | exact ⟨_, rfl, h1 H1 e1⟩
noncomputable def cutD (xs : List D) (lo hi : Option Int) : List D := (xs.drop (HT.sIx xs.length 0 lo)).take (HT.sIx xs.length xs.length hi - HT.sIx xs.length 0 lo)
noncomputable def strCut (z : Str) (lo hi : Option Int) : Str := ⟨((z.cps.toList.drop (HT.sIx z.length 0 lo)).take (HT.sIx z.length z.length hi - HT.sIx z.length 0 lo)).toArray⟩
theorem cut_whole {α : Type} (xs : List α) {i j : Nat} (h : i = 0) (h' : j = xs.length) : (xs.drop i).take (j - i) = xs := by
  subst h h'
  rw [List.drop_zero, Nat.sub_zero, List.take_length]
section
variable {prog : Program} {w : World} {A : Around} {E : Value → Shared → Prop} {s : Shared}
theorem getItem_tuple_whole {t sl : Addr} {items : Array Value} {vl vu : Value} {lo hi : Option Int} {Q : Value → Shared → Prop} (ht : IsTup s.heap t items) (hs : s.heap.IsSliceOf sl vl vu .none) (pl : IsPart vl lo) (pu : IsPart vu hi)
    (hw : HT.sIx items.size 0 lo = 0 ∧ HT.sIx items.size items.size hi = items.size) (h : Q (.ref t) s) : wpAny (model prog w) A (getItem (.ref t) (.ref sl)) Q E s := by
  obtain ⟨os, hos, hcs, hds⟩ := id hs
  have hTs : s.TypeIs (.ref sl) "slice" := ⟨os, hos, hcs⟩
  unfold getItem
  try with_reducible refine wpAny_holding ?_
  first | refine wpAny_bind (wpAny_pure ?_) | skip
  refine wpAny_bind (wpAny_sequenceKey ht.typeIs (by decide) ?_)
  refine wpAny_bind (wpAny_callSpecial?_slot (name := Str.ofString "__getitem__") ht.typeIs PyProof.Rows.slot_tuple_getitem
    (wpAny_call_entry PyProof.Rows.slot_tuple_getitem ht.typeIs entry_tuple_getitem ?_ (args_tuple_getitem _ _)))
  show wpAny _ _ (Builtin.Tuple.tupleItemsOf (.ref t) >>= _) _ _ s
  refine wpAny_bind (tupleItemsOf_ ht ?_)
  refine wpAny_bind (wpAny_typeOf hTs ?_)
  rw [if_pos (by decide)]
  refine wpAny_bind (HT.sliceApplied_gen hs pl pu ?_)
  show wpAny _ _ (if (((HT.sIx items.size 0 lo : Nat) : Int) == 0 && (1 : Int) == 1 && (HT.sIx items.size items.size hi - HT.sIx items.size 0 lo) == items.size) = true then _ else _) _ _ s
  rw [if_pos (by rw [hw.1, hw.2]; simp)]
  refine wpAny_bind (m := Builtin.Tuple.tupleIsExact _) (wpAny_bind (m := typeOf _) (wpAny_typeOf ht.typeIs (wpAny_pure ?_)))
  rw [if_pos (by decide)]
  exact wpAny_bind (wpAny_rule (wpAny_bind (wpAny_pure (wpAny_pure ⟨_, rfl, wpAny_pure h⟩))))
theorem strPicked_cut (z : Str) (l u : Option (Int × Tok)) : slicePicked z l u none = (List.range (HT.sIx z.length z.length (u.map (·.1)) - HT.sIx z.length 0 (l.map (·.1)))).map (HT.sIx z.length 0 (l.map (·.1)) + ·) := by
  have cl : ∀ (i : Int) (d : Nat), max 0 (min (if i < 0 then i + (z.length : Int) else i) (z.length : Int)) = ((HT.sIx z.length d (some i) : Nat) : Int) := by
    intro i d
    show _ = (((if i < 0 then (i + (z.length : Int)).toNat else min i.toNat z.length) : Nat) : Int)
    by_cases hv : i < 0
    · simp only [if_pos hv]; omega
    · simp only [if_neg hv]; omega
  have e : slicePicked z l u none = sliceRange ((HT.sIx z.length 0 (l.map (·.1)) : Nat) : Int) ((HT.sIx z.length z.length (u.map (·.1)) : Nat) : Int) 1 := by
    unfold slicePicked Builtin.Str.strSliceIndices
    simp only [Option.map_none, Option.getD_none, show (1 : Int) > 0 by decide, if_true]
    congr 1
    · cases l with
      | none => rfl
      | some i => exact cl i.1 0
    · cases u with
      | none => rfl
      | some i => exact cl i.1 z.length
  rw [e, sliceRange_one]
end
section
variable {X : Cx}
noncomputable def rSlW (K : PySem.W.Frag) : V → Option Int → Option Int → Hp → VK → Prop := fun x lo hi H Q => ∃ a xs, x = .ref a ∧ SqT K H a xs ∧ (HT.sIx xs.length 0 lo = 0 ∧ HT.sIx xs.length xs.length hi = xs.length) ∧ Q (.ref a) H
theorem sl_tupW : SlR X (rSlW X.K) := by
  intro pins s σ H x v vl vu lo hi sl Q I rx hs pl pu h
  obtain ⟨a, xs, rfl, hx, hw, q⟩ := h
  cases rx
  obtain ⟨its, r, ht, hz⟩ := I.tuple hx
  have hlen : its.toArray.size = xs.length := by rw [List.size_toArray]; exact r.length.symm
  exact ⟨"tuple", _, PyProof.Rows.slot_tuple_getitem.lookup, ht.typeIs, getItem_tuple_whole ht hs pl pu (by rw [hlen]; exact hw) ⟨.ref a, H, I, rfl, q⟩⟩
noncomputable def rSlS : V → Option Int → Option Int → Hp → VK → Prop := fun x lo hi H Q => ∃ z, x = .str z ∧ z.length ≤ sizeLine ∧ Q (.str (strCut z lo hi)) H
theorem part_of {v : Value} {o : Option Int} (p : IsPart v o) : ∃ l : Option (Int × Tok), v = partValue l ∧ l.map (·.1) = o := by
  cases p with
  | none => exact ⟨none, rfl, rfl⟩
  | int i t => exact ⟨some (i, t), rfl, rfl⟩
theorem sl_str : SlR X rSlS := by
  intro pins s σ H x v vl vu lo hi sl Q I rx hs pl pu h
  obtain ⟨z, rfl, hz, q⟩ := h
  obtain ⟨t, rfl⟩ := rx
  obtain ⟨l, rfl, rfl⟩ := part_of pl
  obtain ⟨u, rfl, rfl⟩ := part_of pu
  refine ⟨"str", _, slot_str_getitem.lookup, typeIs_str s z t, ?_⟩
  refine wpAny_getItem_str_slice (l := l) (u := u) (st := none) hs rfl ?_
  have hp := strPicked_cut z l u
  have hj : HT.sIx z.length z.length (u.map (·.1)) ≤ z.length := HT.sIx_le _ _ (Nat.le_refl _) _
  have hi0 : HT.sIx z.length 0 (l.map (·.1)) ≤ z.length := HT.sIx_le _ 0 (Nat.zero_le _) _
  have hc : z.cps.toList.length = z.length := by simp [Str.length]
  unfold sliceMade
  rw [hp]
  split
  · rename_i hh
    simp only [Option.map_none, Option.getD_none, List.length_map, List.length_range, Bool.and_eq_true, beq_iff_eq] at hh
    have e : strCut z (l.map (·.1)) (u.map (·.1)) = z := by
      unfold strCut
      rw [cut_whole _ (by omega) (by omega)]
    exact ⟨.str z, H, I, ⟨t, rfl⟩, by rw [e] at q; exact q⟩
  · rw [pick_run]
    refine ⟨?_, ⟨.str (strCut z (l.map (·.1)) (u.map (·.1))), H, I.tok _, ⟨_, rfl⟩, q⟩⟩
    show ((z.cps.toList.drop (HT.sIx z.length 0 (l.map (·.1)))).take _).toArray.size ≤ sizeLine
    rw [List.size_toArray, List.length_take, List.length_drop, hc]
    omega
end
noncomputable def gCut : D → Option Int → Option Int → M D
  | .lst ds, lo, hi => ok (.lst (cutD ds lo hi))
  | .tup ds, lo, hi => ok (.tup (cutD ds lo hi))
  | .str z, lo, hi => if z.length ≤ 1000 then ok (.str (strCut z lo hi)) else none
  | _, _, _ => none
noncomputable def cut3 (fa : Rho → M D) (fl fh : Rho → M (Option Int)) : Rho → M D := fun ρ => bnd (fa ρ) fun x => bnd (fl ρ) fun l => bnd (fh ρ) fun h => gCut x l h
theorem isL_cut {K : PySem.W.Frag} {H : Hp} {ds : List D} {vs : List V} (r : IsL K H ds vs) (lo hi : Option Int) : IsL K H (cutD ds lo hi) (cutV vs lo hi) := by
  unfold cutD cutV
  rw [r.length]
  exact (r.drop _).take _
theorem pd_slice {e : Expr} {lo hi : Option Expr} {fl fh : Rho → M (Option Int)} {p2 : Pos} (he : PD X B e fa) (hl : PO X lo (tDO X B fl)) (hu : PO X hi (tDO X B fh)) : PD X B (.Subscript e (.Slice lo hi none p2) pos) (cut3 fa fl fh) := by
  refine PE.of (pe_slice (SlR.or sl_list (SlR.or sl_tup (SlR.or sl_tupW sl_str))) he hl hu) fun σ H Q h => ?_
  obtain ⟨ρ, r1, h⟩ := h
  refine ⟨ρ, r1, (Res.bind h).imp fun d h1 v H1 e1 i1 => ⟨ρ, r1.mono e1, (Res.bind h1).mono e1 fun l h2 H2 e2 => ⟨ρ, (r1.mono e1).mono e2, (Res.bind h2).mono (e1.trans e2) fun u h3 H3 e3 => ?_⟩⟩⟩
  have i3 := (i1.mono e2).mono e3
  cases i3 with
  | lst hh r => exact .inl ⟨_, _, rfl, hh, fun p hp => h3 _ _ (((e1.trans e2).trans e3).trans (same_new hp _)) (.lst (SqL.of upd_same) ((isL_cut r l u).mono (same_new hp _)))⟩
  | tup hh r =>
    rename_i a' ds' vs'
    have hlen := r.length
    by_cases hn : HT.sIx vs'.length 0 l = 0 ∧ HT.sIx vs'.length vs'.length u = vs'.length
    · have e : cutD ds' l u = ds' := by
        unfold cutD
        rw [hlen]
        exact cut_whole _ hn.1 (by rw [hn.2, hlen])
      refine .inr (.inr (.inl ⟨_, _, rfl, hh, hn, ?_⟩))
      have h4 := h3 _ _ ((e1.trans e2).trans e3) (show Is X.K H3 (.tup (cutD ds' l u)) (.ref a') by rw [e]; exact .tup hh r)
      exact h4
    · exact .inr (.inl ⟨_, _, rfl, hh, hn, fun p hp => h3 _ _ (((e1.trans e2).trans e3).trans (same_new hp _)) (.tup (TQ.of upd_same) ((isL_cut r l u).mono (same_new hp _)))⟩)
  | str z =>
    dsimp only [gCut] at h3
    split at h3
    · rename_i hz
      exact .inr (.inr (.inr ⟨_, rfl, Nat.le_trans hz (by decide), h3 _ _ ((e1.trans e2).trans e3) (.str _)⟩))
    · exact False.elim h3
  | _ => exact False.elim h3
end
end L2.PU
namespace L2.PU
open PySem PySem.Spec PyProof.Rows
noncomputable def tyN : D → Option String
  | .non => some "NoneType"
  | .bl _ => some "bool"
  | .int _ => some "int"
  | .str _ => some "str"
  | .tup _ => some "tuple"
  | .lst _ => some "list"
  | .obj _ _ => none
  | .dk _ => some "dict"
  | .dt _ => some "dict"
  | .exc _ => none
  | .set _ => none
noncomputable def isB (t T : String) : Bool := t == T || (t == "bool" && T == "int")
noncomputable def kTys : List String := ["tuple", "list", "bool", "str", "int", "dict"]
theorem kit_tab (K : PySem.W.Frag) {d : D} {t T : String} (ht : tyN d = some t) (hT : T ∈ kTys) : PySem.W.kitOne K (.type t) (.type T) = some (isB t T) := by
  unfold kTys at hT
  simp only [List.mem_cons, List.not_mem_nil, or_false] at hT
  cases d <;> (have e := ht; unfold tyN at e; first | (cases e; done) | skip) <;> (have e' := Option.some.inj e; subst e') <;> rcases hT with rfl | rfl | rfl | rfl | rfl | rfl <;> kernel_rfl
section
variable {X : Cx} {B : Hp} {pins : List (Addr × Obj)} {σ : St} {H : Hp} {s : Shared}
theorem kit_of {d : D} {x : V} {u : Value} {t : String} (I : Inv X pins σ H s) (i : Is X.K H d x) (r : RelV x u) (ht : tyN d = some t) :
    ∃ HH : Heap → Prop, PySem.W.KitX X.K u (.type t) HH ∧ HH s.heap ∧ u ≠ .builtin "__main__.__loader__#opaque" := by
  cases i with
  | non => cases r; cases ht; exact ⟨_, PySem.W.kitx_none, True.intro, fun z => nomatch z⟩
  | bl b => cases r; cases ht; exact ⟨_, PySem.W.kitx_bool, True.intro, fun z => nomatch z⟩
  | int b => obtain ⟨t, rfl⟩ := r; cases ht; exact ⟨_, PySem.W.kitx_int, True.intro, fun z => nomatch z⟩
  | str b => obtain ⟨t, rfl⟩ := r; cases ht; exact ⟨_, PySem.W.kitx_str, True.intro, fun z => nomatch z⟩
  | lst h rr =>
    cases r; cases ht
    obtain ⟨its, _, ⟨o, n, e, hc, _, _⟩, _⟩ := I.list h
    exact ⟨_, PySem.W.kitx_list, ⟨o, e, hc⟩, fun z => nomatch z⟩
  | tup h rr =>
    cases r; cases ht
    obtain ⟨its, _, ⟨o, e, hc, _, _⟩, _⟩ := I.tuple h.sq
    exact ⟨_, PySem.W.kitx_tuple, ⟨o, e, hc⟩, fun z => nomatch z⟩
  | obj h rr => cases ht
  | dk h rr =>
    cases r; cases ht
    obtain ⟨_, _, vs, _, o, es, ep, e1, e2, _⟩ := (show ObjOk X.prog X.w H s.heap _ (.dK _) from I.hok _ _ h)
    exact ⟨_, PySem.W.kitx_dict, ⟨o, e1, e2.1⟩, fun z => nomatch z⟩
  | dt h rr =>
    cases r; cases ht
    obtain ⟨_, _, vs, _, o, es, ep, e1, e2, _⟩ := (show ObjOk X.prog X.w H s.heap _ (.dT _) from I.hok _ _ h)
    exact ⟨_, PySem.W.kitx_dict, ⟨o, e1, e2.1⟩, fun z => nomatch z⟩
  | exc h => cases ht
  | set h => cases ht
noncomputable def kitL (t : String) : List String → Bool
  | [] => false
  | T :: r => if isB t T = true then true else kitL t r
theorem kitAny_tab (K : PySem.W.Frag) {d : D} {t : String} (ht : tyN d = some t) : ∀ {Ts : List String}, (∀ T ∈ Ts, T ∈ kTys) → PySem.W.kitAny K (.type t) (Ts.map Value.type) = some (kitL t Ts)
  | [], _ => rfl
  | T :: r, h => by
    show (match PySem.W.kitOne K (.type t) (.type T) with | some true => some true | some false => PySem.W.kitAny K (.type t) (r.map Value.type) | none => none) = _
    rw [kit_tab K ht (h T (by simp))]
    unfold kitL
    cases q : isB t T with
    | true => rfl
    | false => exact kitAny_tab K ht fun T' hT => h T' (by simp [hT])
end
section
variable {X : Cx} {B : Hp} {e : Expr} {fa : Rho → M D} {pos p p2 : Pos}
noncomputable def isi (T : String) (f : Rho → M D) : Rho → M D := fun ρ => bnd (f ρ) fun d => match tyN d with | some t => ok (.bl (isB t T)) | none => none
noncomputable def isi2 (Ts : List String) (f : Rho → M D) : Rho → M D := fun ρ => bnd (f ρ) fun d => match tyN d with | some t => ok (.bl (kitL t Ts)) | none => none
theorem pd_isi {x : Str} {T : String} (hg : Gl X "isinstance") (hm : X.mg "isinstance" = none) (hg2 : Gl X x) (hm2 : X.mg x = none) (hv : bootBuiltins x = some (.type T)) (hT : T ∈ kTys) (ha : PD X B e fa) (hn : x ≠ "__name__" := by decide) (hd : (x == ("__debug__" : Str)) = false := by decide)
    (he : starEach [e, .Name x p2] X.env = [(false, eval e X.env), (false, eval (.Name x p2) X.env)] := by exact star2 rfl rfl) (he2 : starEach [.Name x p2] X.env = [(false, eval (.Name x p2) X.env)] := by exact star1 rfl) : PD X B (.Call (.Name "isinstance" p) [e, .Name x p2] [] pos) (isi T fa) := by
  have hc : CallR X (.builtin "isinstance") (fun xs H Q => ∃ d y t, xs = [y, .ty T] ∧ Is X.K H d y ∧ tyN d = some t ∧ Q (.bl (isB t T)) H) := by
    intro pins s σ H xs us Q I r h
    obtain ⟨d, y, t, rfl, i, ht, q⟩ := h
    obtain ⟨u, w', rfl, r1, r2⟩ := vals2 r
    cases r2
    obtain ⟨HH, k1, k2, k3⟩ := kit_of I i r1 ht
    exact PySem.W.kia_one k1 I.kIn k2 (kit_tab X.K ht hT) k3 fun tk => ⟨.bl _, H, I.tok _, rfl, q⟩
  refine PE.of (pe_callB hc hg hm boot_isinstance (pa_cons ha (pa_cons (pe_bltn hg2 hm2 hv (v := V.ty T) rfl hn hd) pa_nil he2) (by rw [he, he2])) (he := by rw [he, he2]) (hpl := by rw [he2]; rfl)) fun σ H Q h => ?_
  obtain ⟨ρ, r1, h⟩ := h
  refine ⟨ρ, r1, (Res.bind h).imp fun d h1 v H1 e1 i1 => ?_⟩
  cases q : tyN d with
  | none => rw [q] at h1; exact False.elim h1
  | some t => rw [q] at h1; exact ⟨d, v, t, rfl, i1, q, h1 _ H1 e1 (.bl _)⟩
theorem pd_isi2 {x y : Str} {T U : String} {k : Nat} {p3 p4 : Pos} (hg : Gl X "isinstance") (hm : X.mg "isinstance" = none) (hg2 : Gl X x) (hm2 : X.mg x = none) (hv : bootBuiltins x = some (.type T)) (hT : T ∈ kTys) (hg3 : Gl X y) (hm3 : X.mg y = none) (hv3 : bootBuiltins y = some (.type U)) (hU : U ∈ kTys) (ha : PD X B e fa)
    (hn : x ≠ "__name__" := by decide) (hd : (x == ("__debug__" : Str)) = false := by decide) (hn2 : y ≠ "__name__" := by decide) (hd2 : (y == ("__debug__" : Str)) = false := by decide)
    (he : starEach [e, .Tuple [.Name x p2, .Name y p3] k p4] X.env = [(false, eval e X.env), (false, eval (.Tuple [.Name x p2, .Name y p3] k p4) X.env)] := by exact star2 rfl rfl) (he2 : starEach [.Tuple [.Name x p2, .Name y p3] k p4] X.env = [(false, eval (.Tuple [.Name x p2, .Name y p3] k p4) X.env)] := by exact star1 rfl)
    (he3 : starEach [.Name x p2, .Name y p3] X.env = [(false, eval (.Name x p2) X.env), (false, eval (.Name y p3) X.env)] := by exact star2 rfl rfl) (he4 : starEach [.Name y p3] X.env = [(false, eval (.Name y p3) X.env)] := by exact star1 rfl) :
    PD X B (.Call (.Name "isinstance" p) [e, .Tuple [.Name x p2, .Name y p3] k p4] [] pos) (isi2 [T, U] fa) := by
  have hc : CallR X (.builtin "isinstance") (fun xs H Q => ∃ d y a t, xs = [y, .ref a] ∧ Is X.K H d y ∧ H a = some (.tup [.ty T, .ty U]) ∧ tyN d = some t ∧ Q (.bl (kitL t [T, U])) H) := by
    intro pins s σ H xs us Q I r h
    obtain ⟨d, y, a, t, rfl, i, hh, ht, q⟩ := h
    obtain ⟨u, w', rfl, r1, r2⟩ := vals2 r
    cases r2
    obtain ⟨HH, k1, k2, k3⟩ := kit_of I i r1 ht
    obtain ⟨z, its, rv, ob, o1, o2, ⟨n, o3⟩, o4⟩ := (show ObjOk X.prog X.w H s.heap a (.tup [.ty T, .ty U]) from I.hok a _ hh)
    obtain ⟨w1, w2, rfl, q1, q2⟩ := vals2 rv
    cases q1; cases q2
    obtain ⟨c0, d0, dt, sl⟩ := ob
    simp only at o2 o3
    subst o2; subst o3
    exact PySem.W.kia_tup (its := [Value.type T, Value.type U]) k1 I.kIn k2 o1 (kitAny_tab X.K ht (Ts := [T, U]) (by intro z hz; rcases List.mem_cons.mp hz with rfl | hz; exact hT; rcases List.mem_singleton.mp hz with rfl; exact hU)) k3 fun tk => ⟨.bl _, H, I.tok _, rfl, q⟩
  refine PE.of (pe_callB hc hg hm boot_isinstance (pa_cons ha (pa_cons (pe_tup (pa_cons (pe_bltn hg2 hm2 hv (v := V.ty T) rfl hn hd) (pa_cons (pe_bltn hg3 hm3 hv3 (v := V.ty U) rfl hn2 hd2) pa_nil he4) (by rw [he3, he4]))) pa_nil he2) (by rw [he, he2])) (he := by rw [he, he2]) (hpl := by rw [he2]; rfl)) fun σ H Q h => ?_
  obtain ⟨ρ, r1, h⟩ := h
  refine ⟨ρ, r1, (Res.bind h).imp fun d h1 v H1 e1 i1 => ?_⟩
  refine ⟨by show 2 ≤ sizeLine; decide, fun a ha' => ?_⟩
  cases q : tyN d with
  | none => rw [q] at h1; exact False.elim h1
  | some t => rw [q] at h1; exact ⟨d, v, a, t, rfl, i1.mono (same_new ha' _), upd_same, q, h1 _ _ (e1.trans (same_new ha' _)) (.bl _)⟩
noncomputable def lenD : D → M D
  | .tup ds => ok (.int ds.length)
  | .lst ds => ok (.int ds.length)
  | _ => none
noncomputable def f1 (g : D → M D) (f : Rho → M D) : Rho → M D := fun ρ => bnd (f ρ) g
theorem pd_len (hg : Gl X "len") (hm : X.mg "len" = none) (ha : PD X B e fa) (he : starEach [e] X.env = [(false, eval e X.env)] := by exact star1 rfl) : PD X B (.Call (.Name "len" p) [e] [] pos) (f1 lenD fa) := by
  refine PE.of (pe_callB call_len_seq hg hm PySem.boot_len (pa_cons ha pa_nil he) (he := by rw [he]; rfl) (hpl := by rfl)) fun σ H Q h => ?_
  obtain ⟨ρ, r1, h⟩ := h
  refine ⟨ρ, r1, (Res.bind h).imp fun d h1 v H1 e1 i1 => ?_⟩
  cases i1 with
  | lst hh r => exact ⟨_, _, rfl, .inl hh, by rw [← r.length]; exact h1 _ H1 e1 (.int _)⟩
  | tup hh r => exact ⟨_, _, rfl, .inr hh, by rw [← r.length]; exact h1 _ H1 e1 (.int _)⟩
  | _ => exact False.elim h1
noncomputable def gMin : D → D → M D
  | .int i, .int j => ok (.int (if j < i then j else i))
  | _, _ => none
theorem pd_min2 {a b : Expr} {fb : Rho → M D} (hcm : X.calm = true) (hg : Gl X "min") (hm : X.mg "min" = none) (ha : PD X B a fa) (hb : PD X B b fb) (he : starEach [a, b] X.env = [(false, eval a X.env), (false, eval b X.env)] := by exact star2 rfl rfl) (he2 : starEach [b] X.env = [(false, eval b X.env)] := by exact star1 rfl) :
    PD X B (.Call (.Name "min" p) [a, b] [] pos) (b2 gMin fa fb) := by
  refine PE.of (pe_callB (call_min2 hcm) hg hm boot_min (pa_cons ha (pa_cons hb pa_nil he2) (by rw [he, he2])) (he := by rw [he, he2]) (hpl := by rw [he2]; rfl)) fun σ H Q h => ?_
  obtain ⟨ρ, r1, h⟩ := h
  refine ⟨ρ, r1, (Res.bind h).imp fun d h1 v H1 e1 i1 => ⟨ρ, r1.mono e1, (Res.bind h1).mono e1 fun d2 h2 v2 H2 e2 i2 => ?_⟩⟩
  cases i1 <;> first | exact False.elim h2 | skip
  cases i2 <;> first | exact False.elim h2 | skip
  exact ⟨_, _, rfl, h2 _ H2 (e1.trans e2) (.int _)⟩
end
inductive Out where
  | nx (ρ : Rho) | rt (d : D) | bk (ρ : Rho) | ct (ρ : Rho) | ex (c : Addr) (ρ : Rho)
noncomputable def Good (X : Cx) (B : Hp) (E : Ends) : Out → Prop
  | .nx ρ => ∀ σ H, Rel X.K B ρ σ H → E.nx σ H
  | .rt d => ∀ v H, Same B H → Is X.K H d v → E.rt v H
  | .bk ρ => ∀ σ H, Rel X.K B ρ σ H → E.bk σ H
  | .ct ρ => ∀ σ H, Rel X.K B ρ σ H → E.ct σ H
  | .ex c ρ => ∀ (pins : List (Addr × Obj)) (s : Shared) (σ : St) (H : Hp) (e : Value), Rel X.K B ρ σ H → Exc X pins σ H c e s → X.xe e s
noncomputable def GoodO (X : Cx) (B : Hp) (E : Ends) : Option Out → Prop
  | none => False
  | some o => Good X B E o
noncomputable def tDS (X : Cx) (B : Hp) (F : Rho → Option Out) : TS := fun E σ H => ∃ ρ, Rel X.K B ρ σ H ∧ GoodO X B E (F ρ)
noncomputable abbrev PDS (X : Cx) (B : Hp) (st : Stmt) (F : Rho → Option Out) : Prop := PS X st (tDS X B F)
noncomputable abbrev PDB (X : Cx) (B : Hp) (st : List Stmt) (F : Rho → Option Out) : Prop := PSs X st (tDS X B F)
noncomputable def lft {α : Type} (m : M α) (ρ : Rho) (k : α → Option Out) : Option Out := match m with
  | none => none
  | some (.error c) => some (.ex c ρ)
  | some (.ok a) => k a
@[simp] theorem lft_ok {α : Type} (a : α) (ρ : Rho) (k : α → Option Out) : lft (ok a) ρ k = k a := rfl
@[simp] theorem lft_err {α : Type} (c : Addr) (ρ : Rho) (k : α → Option Out) : lft (err c : M α) ρ k = some (.ex c ρ) := rfl
theorem lft_red {α : Type} {X : Cx} {B : Hp} {E : Ends} {σ : St} {H : Hp} {ρ : Rho} {m : M α} {k : α → Option Out} (r : Rel X.K B ρ σ H) (h : GoodO X B E (lft m ρ k)) : Res X σ H (fun a => GoodO X B E (k a)) m := by
  unfold lft at h
  split at h
  · exact h
  · exact fun pins s H' e q x => h pins s σ H' e (r.mono q) x
  · exact h
section
variable {X : Cx} {B : Hp} {e c : Expr} {fa : Rho → M D} {tc : Rho → M Bool} {pos pos' : Pos} {st : Stmt} {sts rest : List Stmt} {F G : Rho → Option Out}
theorem PS.of {t t' : TS} (h : PS X st t) (i : ∀ E σ H, t' E σ H → t E σ H) : PS X st t' := fun pins s σ H E I q => h pins s σ H E I (i E σ H q)
theorem PSs.of {t t' : TS} (h : PSs X sts t) (i : ∀ E σ H, t' E σ H → t E σ H) : PSs X sts t' := fun pins s σ H E I q => h pins s σ H E I (i E σ H q)
noncomputable def sNil : Rho → Option Out := fun ρ => some (.nx ρ)
noncomputable def sSeq (F G : Rho → Option Out) : Rho → Option Out := fun ρ => match F ρ with
  | some (.nx ρ') => G ρ'
  | o => o
theorem pdb_nil : PDB X B [] sNil := PSs.of pss_nil fun E σ H ⟨ρ, r, h⟩ => h σ H r
theorem pdb_cons (h1 : PDS X B st F) (h2 : PDB X B rest G) : PDB X B (st :: rest) (sSeq F G) := by
  refine PSs.of (pss_cons h1 h2) fun E σ H h => ?_
  obtain ⟨ρ, r, h⟩ := h
  refine ⟨ρ, r, ?_⟩
  unfold sSeq at h
  cases q : F ρ with
  | none => rw [q] at h; exact h
  | some o =>
    rw [q] at h
    cases o with
    | nx ρ' => exact fun σ' H' r' => ⟨ρ', r', h⟩
    | rt d => exact h
    | bk ρ' => exact h
    | ct ρ' => exact h
    | ex c ρ' => exact h
noncomputable def sRet (f : Rho → M D) : Rho → Option Out := fun ρ => lft (f ρ) ρ fun d => some (.rt d)
theorem pds_ret (he : PD X B e fa) : PDS X B (.Return (some e) pos) (sRet fa) := by
  refine PS.of (ps_ret he) fun E σ H h => ?_
  obtain ⟨ρ, r, h⟩ := h
  exact ⟨ρ, r, (lft_red r h).imp fun d h1 v H1 e1 i1 => h1 v H1 (r.kept.trans e1) i1⟩
noncomputable def sDrop (f : Rho → M D) : Rho → Option Out := fun ρ => lft (f ρ) ρ fun _ => some (.nx ρ)
theorem pds_expr (he : PD X B e fa) (hs : swapsWith e none pos.line X.env = pure false := by rfl) : PDS X B (.Expr e pos) (sDrop fa) := by
  refine PS.of (ps_expr he hs) fun E σ H h => ?_
  obtain ⟨ρ, r, h⟩ := h
  exact ⟨ρ, r, (lft_red r h).imp fun d h1 v H1 e1 i1 => h1 σ H1 (r.mono e1)⟩
noncomputable def sIf (t : Rho → M Bool) (F G : Rho → Option Out) : Rho → Option Out := fun ρ => lft (t ρ) ρ fun k => if k = true then F ρ else G ρ
theorem pds_if {a b : List Stmt} (hc : PDT X B c tc) (ha : PDB X B a F) (hb : PDB X B b G) : PDS X B (.If c a b pos) (sIf tc F G) := by
  refine PS.of (ps_if hc ha hb) fun E σ H h => ?_
  obtain ⟨ρ, r, h⟩ := h
  refine ⟨ρ, r, (lft_red r h).imp fun k h1 H1 e1 => ?_⟩
  cases k with
  | true => exact ⟨ρ, r.mono e1, h1⟩
  | false => exact ⟨ρ, r.mono e1, h1⟩
noncomputable def SV.rel : SV → SV
  | .sh d => .sh d
  | .own ds => .sh (.lst ds)
  | .oin a C dx fs => .sh (.obj C fs)
  | .ow o => .sh o.d
  | .tk ks => .sh (.tup (ks.map kD))
noncomputable def free (ρ : Rho) : Rho := ρ.map fun o => o.map SV.rel
noncomputable def setV (i : Nat) (d : D) (ρ : Rho) : Rho := if d.imm = true then ρ.set i (some (.sh d)) else (free ρ).set i (some (.sh d))
theorem Rel.set_sh {K : PySem.W.Frag} {H₀ H : Hp} {ρ : Rho} {σ : St} {i : Nat} {d : D} {v : V} (O : Nat → Option Addr) (h1 : ∀ i j a, O i = some a → O j = some a → i = j) (ho : OwnK H O) (h2 : Same H₀ (Off H O)) (hl : ρ.length = σ.length) (h3 : ∀ j sv, ρ[j]? = some (some sv) → j ≠ i → Slot K H O σ j sv)
    (iv : Is K (Off H O) d v) : Rel K H₀ (ρ.set i (some (.sh d))) (σ.set i (some v)) H := by
  have hO : ∀ (j : Nat) (a : Addr), (if j = i then none else O j) = some a → O j = some a := fun j a q => by
    split at q
    · cases q
    · exact q
  have less : Same (Off H O) (Off H fun j => if j = i then none else O j) := Off.less fun j a q => ⟨j, hO j a q⟩
  refine ⟨fun j => if j = i then none else O j, fun j k a q1 q2 => h1 j k a (hO j a q1) (hO k a q2), fun j a q => ho j a (hO j a q), h2.trans less, by rw [List.length_set, List.length_set, hl], fun j sv q => ?_⟩
  by_cases e : j = i
  · subst e
    have hj : j < ρ.length := by
      have := (List.getElem?_eq_some_iff.mp q).1
      rwa [List.length_set] at this
    rw [List.getElem?_set_self hj] at q
    have q' := Option.some.inj (Option.some.inj q)
    subst q'
    exact ⟨v, List.getElem?_set_self (by rw [← hl]; exact hj), iv.mono less⟩
  · rw [List.getElem?_set_ne (Ne.symm e)] at q
    have z := h3 j sv q e
    cases sv with
    | sh d' => obtain ⟨v', e1, e2⟩ := z; exact ⟨v', by rw [List.getElem?_set_ne (Ne.symm e)]; exact e1, e2.mono less⟩
    | own ds => obtain ⟨a, vs, e1, e2, e3, e4⟩ := z; exact ⟨a, vs, by show (if j = i then none else O j) = some a; rw [if_neg e]; exact e1, by rw [List.getElem?_set_ne (Ne.symm e)]; exact e2, e3, e4.mono less⟩
    | oin a C dx fs => obtain ⟨e1, e2, e3, vs, e4, e5⟩ := z; exact ⟨by show (if j = i then none else O j) = some a; rw [if_neg e]; exact e1, by rw [List.getElem?_set_ne (Ne.symm e)]; exact e2, e3, vs, e4, e5.mono less⟩
    | ow o => obtain ⟨a, w, e1, e2, e3, e4⟩ := z; exact ⟨a, w, by show (if j = i then none else O j) = some a; rw [if_neg e]; exact e1, by rw [List.getElem?_set_ne (Ne.symm e)]; exact e2, e3, e4.mono less⟩
    | tk ks => obtain ⟨a, e1, e2⟩ := z; exact ⟨a, by rw [List.getElem?_set_ne (Ne.symm e)]; exact e1, less _ _ e2⟩
theorem Rel.freed {K : PySem.W.Frag} {H₀ H : Hp} {ρ : Rho} {σ : St} (r : Rel K H₀ ρ σ H) : Rel K H₀ (free ρ) σ H := by
  obtain ⟨O, h1, ho, h2, hl, h3⟩ := id r
  have e0 : Off H (fun _ => none) = H := by funext b; unfold Off; rw [if_neg (fun ⟨i, e⟩ => nomatch e)]
  refine ⟨fun _ => none, (by intro _ _ _ q; cases q), (by intro _ _ q; cases q), by rw [e0]; exact r.kept, by unfold free; rw [List.length_map, hl], fun i sv q => ?_⟩
  unfold free at q
  rw [List.getElem?_map] at q
  obtain ⟨o, e1, e2⟩ := Option.map_eq_some_iff.mp q
  cases o with
  | none => cases e2
  | some sv0 =>
    have e2' : sv0.rel = sv := Option.some.inj e2
    subst e2'
    obtain ⟨v, e3, e4⟩ := r.get e1
    have : sv0.rel = .sh sv0.cur := by cases sv0 <;> rfl
    rw [this]
    exact ⟨v, e3, by rw [e0]; exact e4⟩
theorem Rel.setV {K : PySem.W.Frag} {H₀ H : Hp} {ρ : Rho} {σ : St} {i : Nat} {d : D} {v : V} (r : Rel K H₀ ρ σ H) (iv : Is K H d v) : Rel K H₀ (setV i d ρ) (σ.set i (some v)) H := by
  unfold PU.setV
  by_cases q : d.imm = true
  · rw [if_pos q]
    obtain ⟨O, h1, ho, h2, hl, h3⟩ := r
    exact Rel.set_sh O h1 ho h2 hl (fun j sv e _ => h3 j sv e) (off_imm ho q iv)
  · rw [if_neg q]
    obtain ⟨O, h1, ho, h2, hl, h3⟩ := r.freed
    have e0 : Off H (fun _ => none) = H := by funext b; unfold Off; rw [if_neg (fun ⟨i, e⟩ => nomatch e)]
    have s0 : Same (Off H O) (Off H fun _ => none) := Off.less (by intro j a q; cases q)
    refine Rel.set_sh (fun _ => none) (by intro _ _ _ q; cases q) (by intro _ _ q; cases q) (h2.trans s0) hl (fun j sv e _ => ?_) (by rw [e0]; exact iv)
    unfold free at e
    rw [List.getElem?_map] at e
    obtain ⟨o, e1, e2⟩ := Option.map_eq_some_iff.mp e
    cases o with
    | none => cases e2
    | some sv0 =>
      have e2' : sv0.rel = sv := Option.some.inj e2
      subst e2'
      have z := h3 j sv0.rel (by unfold free; rw [List.getElem?_map, e1]; rfl)
      have : sv0.rel = .sh sv0.cur := by cases sv0 <;> rfl
      rw [this] at z ⊢
      obtain ⟨v', f1, f2⟩ := z
      exact ⟨v', f1, f2.mono s0⟩
noncomputable def sSet (i : Nat) (f : Rho → M D) : Rho → Option Out := fun ρ => lft (f ρ) ρ fun d => some (.nx (setV i d ρ))
theorem pds_set {i : Nat} {x : Str} (hN : X.N.Nodup) (hi : X.N[i]? = some x) (hx : Loc X.env.scope x) (he : PD X B e fa) (hs : swapsWith e (some (.Name x pos')) pos.line X.env = pure false := by rfl) (hf : X.fn x = true ∨ X.env.scope.names.lookup x = some .local := by first | exact .inl rfl | exact .inr rfl | assumption) :
    PDS X B (.Assign [.Name x pos'] e pos) (sSet i fa) := by
  refine PS.of (ps_set hN hi hx he hs hf) fun E σ H h => ?_
  obtain ⟨ρ, r, h⟩ := h
  exact ⟨ρ, r, (lft_red r h).imp fun d h1 v H1 e1 i1 => h1 _ H1 ((r.mono e1).setV i1)⟩
end
end L2.PU
namespace L2.PU
open PySem PySem.Spec PyProof.Rows
noncomputable def spR (K : PySem.W.Frag) (H : Hp) (Q : VK) (E : XK) : M D → Prop
  | none => False
  | some (.error c) => ∀ H', Same H H' → E (.ref c) none H'
  | some (.ok d) => ∀ v H', Same H H' → Is K H' d v → Q v H'
noncomputable def spD (K : PySem.W.Frag) (n : Nat) (F : List D → M D) : Sp := fun vs H Q E => ∃ ds, IsL K H ds vs ∧ vs.length = n ∧ spR K H Q E (F ds)
noncomputable def CXD (P : Program) (w : World) : CXT := fun outer H s E e s' => ∃ (c ea : Addr) (H' : Hp), e = .ref ea ∧ s'.os = s.os ∧ AllBare s'.gens ∧ Un (frs outer) [] H H' s.heap s'.heap ∧ Fly P w outer s ea c H' s' ∧ E (.ref c) none H'
noncomputable abbrev FnD (P : Program) (w : World) (K : PySem.W.Frag) (mg : Str → Option Value) (base : Heap) (k : Nat) (f : Addr) (fd : FuncData) (ps : List Str) (F : List D → M D) : Prop := FnOk P w K mg base (CXD P w) k f fd ps (spD K ps.length F)
noncomputable def Def (P : Program) (w : World) (K : PySem.W.Frag) (mg : Str → Option Value) (base : Heap) (k : Nat) (x : Str) (F : List D → M D) : Prop :=
  ∃ f fd ps, mg x = some (.ref f) ∧ PySem.W.keepIn K (.ref f) = true ∧ Binds K fd ps [] ∧ (∀ ds r, F ds = some r → ds.length = ps.length) ∧ FnD P w K mg base k f fd ps F
noncomputable def Mth (P : Program) (w : World) (K : PySem.W.Frag) (mg : Str → Option Value) (base : Heap) (k : Nat) (C : Addr) (m : Str) (F : List D → M D) : Prop :=
  ∃ f fd ps, Cls K C ∧ Meth K C m f ∧ Binds K fd ps [] ∧ (∀ ds r, F ds = some r → ds.length = ps.length) ∧ FnD P w K mg base k f fd ps F
theorem Def.mono {P : Program} {w : World} {K : PySem.W.Frag} {mg : Str → Option Value} {base : Heap} {j k : Nat} {x : Str} {F : List D → M D} (h : Def P w K mg base j x F) (q : j ≤ k) : Def P w K mg base k x F := by
  obtain ⟨f, fd, ps, h1, h2, h3, hl, h4⟩ := h
  exact ⟨f, fd, ps, h1, h2, h3, hl, h4.mono q⟩
theorem Mth.mono {P : Program} {w : World} {K : PySem.W.Frag} {mg : Str → Option Value} {base : Heap} {j k : Nat} {C : Addr} {x : Str} {F : List D → M D} (h : Mth P w K mg base j C x F) (q : j ≤ k) : Mth P w K mg base k C x F := by
  obtain ⟨f, fd, ps, h1, h2, h3, hl, h4⟩ := h
  exact ⟨f, fd, ps, h1, h2, h3, hl, h4.mono q⟩
section
variable {X : Cx} {B : Hp} {k : Nat} {f : Addr} {fd : FuncData} {ps : List Str} {F : List D → M D} {pins : List (Addr × Obj)} {σ : St} {H : Hp} {s : Shared} {Q : VK} {us : List Value} {vs : List V} {ds : List D}
theorem run_D (G : FnD X.prog X.w X.K X.mg X.base k f fd ps F) (hr : Room k X.A) (hb : Binds X.K fd ps []) (I : Inv X pins σ H s) (r : Vals vs us) (i : IsL X.K H ds vs)
    (h : Res X σ H (fun d => ∀ v H', Same H H' → Is X.K H' d v → Q v H') (F ds)) (hL : ∀ ds r, F ds = some r → ds.length = ps.length) : wpAny (model X.prog X.w) X.A (call (.ref f) us) (EP X pins σ Q) X.xe s := by
  have hn : ds.length = ps.length := by
    cases q : F ds with
    | none => rw [q] at h; exact False.elim h
    | some z => exact hL ds z q
  have hl : (us ++ []).length = ps.length := by rw [List.append_nil, ← r.length, ← i.length]; exact hn
  have hbb := hb s us I.kIn hl
  rw [List.append_nil] at hbb
  have hsp : spD X.K ps.length F vs H Q (fun cv _ H' => ∃ c, cv = .ref c ∧ Same H H' ∧ Thr X σ H c) := by
    refine ⟨ds, i, by rw [← i.length]; exact hn, ?_⟩
    cases q : F ds with
    | none => rw [q] at h; exact False.elim h
    | some z =>
      rw [q] at h
      cases z with
      | error c => exact fun H' e => ⟨c, rfl, e, h⟩
      | ok d => exact h
  refine wpAny_call (codeAny_mono (G.run X.A X.stack s H ⟨us, []⟩ us vs Q _ hr I.env0 hbb r hsp) fun r s' hq => ?_)
  cases r with
  | error e =>
    obtain ⟨c, ea, H', ee, os, bare, un, fl, c', ec, sm', th⟩ := hq
    cases ec
    exact th pins s' H' e sm' ⟨ea, ee, .inr ⟨s, H, I, os, bare, un, fl⟩⟩
  | ok fl =>
    cases fl with
    | ret u => exact I.after hq
    | next => exact False.elim hq
    | brk => exact False.elim hq
    | cont => exact False.elim hq
variable {x m : Str} {p pos apos : Pos} {e o : Expr} {es : List Expr} {ga : Rho → M (List D)} {fo : Rho → M D} {C : Addr}
noncomputable def app (F : List D → M D) (g : Rho → M (List D)) : Rho → M D := fun ρ => bnd (g ρ) F
theorem app_red {R : List V → Hp → Prop} (hR : ∀ ds vs H1, Same H H1 → IsL X.K H1 ds vs → Res X σ H1 (fun d => ∀ v H', Same H1 H' → Is X.K H' d v → Q v H') (F ds) → R vs H1) (h : tD X B (app F ga) σ H Q) : tDA X B ga σ H R := by
  obtain ⟨ρ, r, h⟩ := h
  exact ⟨ρ, r, (Res.bind h).imp fun ds h1 vs H1 e1 i1 => hR ds vs H1 e1 i1 (h1.mono e1 fun d q v H2 e2 i2 => q v H2 (e1.trans e2) i2)⟩
theorem pd_call (G : Def X.prog X.w X.K X.mg X.base k x F) (hr : Room k X.A) (hg : Gl X x) (ha : PDA X B (e :: es) ga) (hdb : (x == ("__debug__" : Str)) = false := by decide) (he : starEach (e :: es) X.env = (false, eval e X.env) :: starEach es X.env := by exact star_ok rfl)
    (hpl : (backTo pos (starEach es X.env)).any (·.1) = false := by rfl) : PD X B (.Call (.Name x p) (e :: es) [] pos) (app F ga) := by
  intro pins s σ H Q I h
  obtain ⟨f, fd, ps, h1, h2, h3, hl, h4⟩ := G
  refine wpAny_Call_Name_kw (ld_glob I hg h1 ?_ hdb)
  refine PySem.W.callWith_K (h₀ := X.base) I.ok.mod.kin h2 (thn (ha pos pins s σ H _ I (app_red (R := fun vs H1 => ∃ ds, IsL X.K H1 ds vs ∧ Res X σ H1 (fun d => ∀ v H', Same H1 H' → Is X.K H' d v → Q v H') (F ds)) (fun ds vs H1 e1 i1 h1 => ⟨ds, i1, h1⟩) h)) fun us s1 ⟨vs, H1, I1, r, ds, i1, q⟩ => ⟨I1.kIn, ?_⟩) he hpl
  exact run_D h4 hr h3 I1 r i1 q hl
noncomputable def appM (m : Str) (FM : Addr → Option (List D → M D)) (fo : Rho → M D) (g : Rho → M (List D)) : Rho → M D := fun ρ => bnd (fo ρ) fun x => match x with
  | .obj C fs => match FM C, fs.lookup m with
    | some F, none => bnd (g ρ) fun ds => F (x :: ds)
    | _, _ => none
  | _ => none
theorem pd_meth {pl : Sem Bool} {FM : Addr → Option (List D → M D)} (G : ∀ C F, FM C = some F → Mth X.prog X.w X.K X.mg X.base k C m F) (hr : Room k X.A) (he : PD X B o fo) (ha : PDA X B (e :: es) ga)
    (hst : starEach (e :: es) X.env = (false, eval e X.env) :: starEach es X.env := by exact star_ok rfl) (hpl : (backTo pos (starEach es X.env)).any (·.1) = false := by rfl)
    (ht : eval (.Call (.Attribute o m apos) (e :: es) [] pos) X.env = (do
      let ov ← eval o X.env
      standAt apos.atName
      let (f, first) ← holding [ov] (getMethod ov m pl)
      callWith pos f first (backTo pos (starEach (e :: es) X.env)) (backToKw pos (keywordEach [] X.env))) := by rfl) :
    PD X B (.Call (.Attribute o m apos) (e :: es) [] pos) (appM m FM fo ga) := by
  intro pins s σ H Q I h
  obtain ⟨ρ, r, h⟩ := h
  refine PySem.W.methodCall_KW (pl := pl) (thn (he pins s σ H (fun v H1 => ∃ a C dx fs vs F, v = .ref a ∧ H1 a = some (.ins C dx vs) ∧ IsF X.K H1 fs vs ∧ fs.lookup m = none ∧ FM C = some F ∧ Same H H1 ∧ Res X σ H (fun ds => Res X σ H (fun d => ∀ v H', Same H H' → Is X.K H' d v → Q v H') (F (.obj C fs :: ds))) (ga ρ)) I ⟨ρ, r, (Res.bind h).imp fun d h1 v H1 e1 i1 => ?_⟩) fun u s1 hP => ?_) ht
  · cases i1 with
    | obj hh rr =>
      dsimp only at h1
      split at h1
      · rename_i F hF hl; exact ⟨_, _, _, _, _, F, rfl, hh, rr, hl, hF, e1, Res.bind h1⟩
      · exact False.elim h1
    | _ => exact False.elim h1
  obtain ⟨x, H1, I1, rx, a, C, dx, fs, vs, F, ex, ea, ifs, l, hF, e1, q⟩ := hP
  subst ex
  obtain rfl : u = Value.ref a := rx
  obtain ⟨f, fd, ps, h1, h2, h3, hl, h4⟩ := G C F hF
  refine getmeth_ok I1 ea h1 h2 (ifs.lookupNone l) ?_
  have q' : tDA X B ga σ H1 (fun vs' H2 => ∃ ds, Same H1 H2 ∧ IsL X.K H2 ds vs' ∧ Res X σ H (fun d => ∀ v H', Same H H' → Is X.K H' d v → Q v H') (F (.obj C fs :: ds))) :=
    ⟨ρ, r.mono e1, Res.mono e1 q fun ds q1 vs' H2 e2 i2 => ⟨ds, e2, i2, q1⟩⟩
  refine PySem.W.callWith_K (first := [.ref a]) (h₀ := X.base) I.ok.mod.kin h2.kp (thn (ha pos pins s1 σ H1 _ I1 q') fun us s2 ⟨vs', H2, I2, r2, ds, e2, i2, q2⟩ => ⟨I2.kIn, ?_⟩) hst hpl
  exact run_D (us := .ref a :: us) (vs := .ref a :: vs') (ds := .obj C fs :: ds) h4 hr h3 I2 (.cons rfl r2) (.cons (.obj (e2 _ _ ea) (ifs.mono e2)) i2) (q2.mono (e1.trans e2) fun d z v H' e' i' => z v H' ((e1.trans e2).trans e') i') hl
noncomputable def fld (cs : Addr → Bool) (f : Str) (fo : Rho → M D) : Rho → M D := fun ρ => bnd (fo ρ) fun x => match x with
  | .obj C fs => if cs C = true then (match fs.lookup f with | some d => ok d | none => none) else none
  | _ => none
theorem pd_fld {cs : Addr → Bool} {f : Str} (hC : ∀ C, cs C = true → Cls X.K C ∧ NoAttr X.K C f) (he : PD X B o fo) (hb : attributeBase o f X.env (eval o X.env) = eval o X.env := by rfl) : PD X B (.Attribute o f pos) (fld cs f fo) := by
  refine PE.of (pe_fld he hb) fun σ H Q h => ?_
  obtain ⟨ρ, r, h⟩ := h
  refine ⟨ρ, r, (Res.bind h).imp fun d h1 v H1 e1 i1 => ?_⟩
  cases i1 with
  | obj hh rr =>
    rename_i a C dx fs vs
    dsimp only at h1
    split at h1
    · rename_i hc
      split at h1
      · rename_i d hl
        obtain ⟨v, q1, q2⟩ := rr.lookup hl
        exact ⟨a, C, dx, vs, v, rfl, hh, (hC C hc).1, (hC C hc).2, q1, h1 v H1 e1 q2⟩
      · exact False.elim h1
    · exact False.elim h1
  | _ => exact False.elim h1
noncomputable def hid (H : Hp) (a : Addr) : Hp := fun b => if b = a then none else H b
noncomputable def spI (K : PySem.W.Frag) (C : Addr) (n : Nat) (F : List D → M (List (Str × D))) : Sp := fun vs H Q E => ∃ a dx ws ds, vs = .ref a :: ws ∧ H a = some (.ins C dx []) ∧ dx ≠ a ∧ IsL K (hid H a) ds ws ∧ vs.length = n ∧ (match F ds with
  | none => False
  | some (.error c) => ∀ H', Same (hid H a) H' → E (.ref c) none H'
  | some (.ok fs) => ∀ H' fvs, H' a = some (.ins C dx fvs) → IsF K H' fs fvs → Same (hid H a) H' → Q .non H')
noncomputable def Ctor (P : Program) (w : World) (K : PySem.W.Frag) (mg : Str → Option Value) (base : Heap) (k : Nat) (x : Str) (C : Addr) (F : List D → M (List (Str × D))) : Prop :=
  ∃ f fd ps, mg x = some (.ref C) ∧ Mk K C f ∧ Binds K fd ps [] ∧ (∀ ds r, F ds = some r → ds.length + 1 = ps.length) ∧ FnOk P w K mg base (CXD P w) k f fd ps (spI K C ps.length F)
theorem Ctor.mono {P : Program} {w : World} {K : PySem.W.Frag} {mg : Str → Option Value} {base : Heap} {j k : Nat} {x : Str} {C : Addr} {F : List D → M (List (Str × D))} (h : Ctor P w K mg base j x C F) (q : j ≤ k) : Ctor P w K mg base k x C F := by
  obtain ⟨f, fd, ps, h1, h2, h3, hl, h4⟩ := h
  exact ⟨f, fd, ps, h1, h2, h3, hl, h4.mono q⟩
noncomputable def mkO (C : Addr) (F : List D → M (List (Str × D))) (ds : List D) : M D := bnd (F ds) fun fs => ok (.obj C fs)
theorem run_mk {ps : List Str} {F : List D → M (List (Str × D))} (Mm : Mk X.K C f) (G : FnOk X.prog X.w X.K X.mg X.base (CXD X.prog X.w) k f fd ps (spI X.K C ps.length F)) (hr : Room (k + 1) X.A) (hb : Binds X.K fd ps []) (I : Inv X pins σ H s) (r : Vals vs us) (i : IsL X.K H ds vs)
    (h : Res X σ H (fun d => ∀ v H', Same H H' → Is X.K H' d v → Q v H') (mkO C F ds)) (hL : ∀ ds r, F ds = some r → ds.length + 1 = ps.length) : wpAny (model X.prog X.w) X.A (call (.ref C) us) (EP X pins σ Q) X.xe s := by
  have hF : ∃ z, F ds = some z := by
    cases q : F ds with
    | none => unfold mkO at h; rw [q] at h; exact False.elim h
    | some z => exact ⟨z, rfl⟩
  obtain ⟨z, hz⟩ := hF
  have hn := hL ds z hz
  have hsp : ∀ x dx, H x = none → H dx = none → dx ≠ x → spI X.K C ps.length F (.ref x :: vs) (upd (upd H dx (.own x)) x (.ins C dx [])) (fun v H2 => v = .non ∧ Q (.ref x) H2) (fun cv _ H' => ∃ c, cv = .ref c ∧ Same H H' ∧ Thr X σ H c) := by
    intro x dx hx hdx ne
    have sm : Same H (hid (upd (upd H dx (.own x)) x (.ins C dx [])) x) := fun b o q => by
      have hb : b ≠ x := ne_of_none q hx
      unfold hid
      rw [if_neg hb, upd_ne hb, upd_ne (ne_of_none q hdx)]
      exact q
    refine ⟨x, dx, vs, ds, rfl, upd_same, ne, i.mono sm, by rw [List.length_cons, ← i.length]; exact hn, ?_⟩
    unfold mkO at h
    rw [hz] at h ⊢
    cases z with
    | error c => exact fun H' e => ⟨c, rfl, sm.trans e, h⟩
    | ok fs => exact fun H' fvs e1 e2 e3 => ⟨rfl, h _ H' (sm.trans e3) (.obj e1 e2)⟩
  have hq := hsp (s.heap.objs.size + 1) s.heap.objs.size (I.hok.fresh (Nat.le_succ _)) (I.hok.fresh (Nat.le_refl _)) (Nat.ne_of_lt (Nat.lt_succ_self _))
  have I2 := Inv.made (C := C) I
  have r2 : Vals (V.ref (s.heap.objs.size + 1) :: vs) (Value.ref (s.heap.objs.size + 1) :: us) := .cons rfl r
  have hl : ((Value.ref (s.heap.objs.size + 1) :: us) ++ []).length = ps.length := by
    rw [List.append_nil, List.length_cons, ← r.length, ← i.length]; exact hn
  have hbb := hb { s with heap := (s.heap.push PySem.W.emptyDict).push (PySem.W.instObj C s.heap.objs.size) } (Value.ref (s.heap.objs.size + 1) :: us) I2.kIn hl
  rw [List.append_nil] at hbb
  refine wpAny_call (make_map (f := f) I.kIn Mm.makes Mm.init (beq_iff_eq.mp Mm.fn) (codeAny_mono (G.run _ X.stack _ _ ⟨Value.ref (s.heap.objs.size + 1) :: us, []⟩ (Value.ref (s.heap.objs.size + 1) :: us) _ _ _ (hr.make C us [])
    (I2.env0.make C us []) hbb r2 hq) fun r s' hq' => ?_))
  cases r with
  | error e =>
    obtain ⟨c, ea, H', ee, os, bare, un, fl, c', ec, sm', th⟩ := hq'
    cases ec
    exact th pins s' H' e sm' ⟨ea, ee, .inr ⟨_, _, I2, os, bare, un, fl⟩⟩
  | ok fl =>
    cases fl with
    | ret u =>
      obtain ⟨v, H', I3, rv, ev, q3⟩ := I2.after hq'
      subst ev
      exact ⟨rv, ⟨V.ref (s.heap.objs.size + 1), H', I3, rfl, q3⟩⟩
    | next => exact False.elim hq'
    | brk => exact False.elim hq'
    | cont => exact False.elim hq'
theorem pd_make {F : List D → M (List (Str × D))} (G : Ctor X.prog X.w X.K X.mg X.base k x C F) (hr : Room (k + 1) X.A) (hg : Gl X x) (ha : PDA X B (e :: es) ga) (hdb : (x == ("__debug__" : Str)) = false := by decide) (he : starEach (e :: es) X.env = (false, eval e X.env) :: starEach es X.env := by exact star_ok rfl)
    (hpl : (backTo pos (starEach es X.env)).any (·.1) = false := by rfl) : PD X B (.Call (.Name x p) (e :: es) [] pos) (app (mkO C F) ga) := by
  intro pins s σ H Q I h
  obtain ⟨f, fd, ps, h1, h2, h3, hl, h4⟩ := G
  refine wpAny_Call_Name_kw (ld_glob I hg h1 ?_ hdb)
  refine PySem.W.callWith_K (h₀ := X.base) I.ok.mod.kin h2.kp (thn (ha pos pins s σ H _ I (app_red (R := fun vs H1 => ∃ ds, IsL X.K H1 ds vs ∧ Res X σ H1 (fun d => ∀ v H', Same H1 H' → Is X.K H' d v → Q v H') (mkO C F ds)) (fun ds vs H1 e1 i1 h1 => ⟨ds, i1, h1⟩) h)) fun us s1 ⟨vs, H1, I1, r, ds, i1, q⟩ => ⟨I1.kIn, ?_⟩) he hpl
  exact run_mk h2 h4 hr h3 I1 r i1 q hl
end
end L2.PU
namespace L2.PU
open PySem PySem.Spec PyProof.Rows
noncomputable def tDG (X : Cx) (B : Hp) (G : D → Rho → Option Rho) : TG := fun v σ H Q => ∃ ρ d ρ', Rel X.K B ρ σ H ∧ Is X.K H d v ∧ G d ρ = some ρ' ∧ ∀ σ' H', Rel X.K B ρ' σ' H' → Q σ' H'
noncomputable abbrev PDG (X : Cx) (B : Hp) (tg : Expr) (G : D → Rho → Option Rho) : Prop := PG X tg (tDG X B G)
section
variable {X : Cx} {B : Hp} {tg : Expr} {pos : Pos} {x : Str}
noncomputable def gN (i : Nat) : D → Rho → Option Rho := fun d ρ => some (setV i d ρ)
theorem pdg_name {i : Nat} (hN : X.N.Nodup) (hi : X.N[i]? = some x) (hx : Loc X.env.scope x) (hf : X.fn x = true ∨ X.env.scope.names.lookup x = some .local := by first | exact .inl rfl | exact .inr rfl | assumption) : PDG X B (.Name x pos) (gN i) := by
  intro pins s σ H v u Q I r h
  obtain ⟨ρ, d, ρ', r1, i1, e, q⟩ := h
  cases e
  exact pg_name hN hi hx hf pins s σ H v u Q I r (q _ H (r1.setV i1))
noncomputable def gN2 (i j : Nat) : D → Rho → Option Rho := fun d ρ => match d with
  | .tup [a, b] => some (setV j b (setV i a ρ))
  | _ => none
end
noncomputable def loop (G : D → Rho → Option Rho) (F : Rho → Option Out) : List D → Rho → Option Out
  | [], ρ => some (.nx ρ)
  | d :: ds, ρ => match G d ρ with
    | none => none
    | some ρ1 => match F ρ1 with
      | some (.nx ρ2) => loop G F ds ρ2
      | some (.ct ρ2) => loop G F ds ρ2
      | some (.bk ρ2) => some (.nx ρ2)
      | some (.rt d) => some (.rt d)
      | some (.ex c ρ2) => some (.ex c ρ2)
      | none => none
structure ItD (K : PySem.W.Frag) (J : It) (ds : List D) (B : Hp) : Prop where
  go : ∀ j H, Same B H → j < ds.length → J.go j H
  yld : ∀ j H x H', Same B H → J.yld j H x H' → j < ds.length → Same H H' ∧ ∃ d, ds[j]? = some d ∧ Is K H' d x
  stop : ∀ j H, Same B H → ds.length ≤ j → J.stop j H
theorem itd_list {K : PySem.W.Frag} {a : Addr} {ds : List D} {vs : List V} {B : Hp} (h : SqL K B a vs) (r : IsL K B ds vs) : ItD K (Itl K a) ds B where
  go := fun j H e q => ⟨vs, vs[j]'(by rw [← r.length]; exact q), e.seq h, by simp [show j < vs.length by rw [← r.length]; exact q]⟩
  yld := fun j H x H' e y q => by
    obtain ⟨y1, y2⟩ := y
    subst y1
    obtain ⟨d, h1, h2⟩ := r.getV (y2 vs (e.seq h))
    exact ⟨Same.refl _, d, h1, h2.mono e⟩
  stop := fun j H e q => ⟨vs, e.seq h, by rw [← r.length]; exact q⟩
theorem itd_tup {K : PySem.W.Frag} {a : Addr} {ds : List D} {vs : List V} {B : Hp} (h : SqT K B a vs) (r : IsL K B ds vs) : ItD K (Itt K a) ds B where
  go := fun j H e q => ⟨vs, vs[j]'(by rw [← r.length]; exact q), SqT.mono e h, by simp [show j < vs.length by rw [← r.length]; exact q]⟩
  yld := fun j H x H' e y q => by
    obtain ⟨y1, y2⟩ := y
    subst y1
    obtain ⟨d, h1, h2⟩ := r.getV (y2 vs (SqT.mono e h))
    exact ⟨Same.refl _, d, h1, h2.mono e⟩
  stop := fun j H e q => ⟨vs, SqT.mono e h, by rw [← r.length]; exact q⟩
noncomputable def rng (lo : Int) (n : Nat) : List D := (List.range n).map fun (j : Nat) => D.int (lo + (j : Int))
theorem itd_rng {K : PySem.W.Frag} (lo : Int) (n : Nat) (B : Hp) : ItD K (Itr lo n) (rng lo n) B where
  go := fun j H e q => by unfold rng at q; rw [List.length_map, List.length_range] at q; exact q
  yld := fun j H x H' e y q => by
    unfold rng at q; rw [List.length_map, List.length_range] at q
    obtain ⟨y1, y2⟩ := y
    subst y2
    subst y1
    refine ⟨Same.refl _, .int (lo + j), ?_, .int _⟩
    unfold rng
    rw [List.getElem?_map, List.getElem?_range q]; rfl
  stop := fun j H e q => by unfold rng at q; rw [List.length_map, List.length_range] at q; exact q
section
variable {X : Cx} {B : Hp} {tg iter : Expr} {pos : Pos} {G : D → Rho → Option Rho} {F : Rho → Option Out} {body : List Stmt}
theorem Rel.sub {K : PySem.W.Frag} {B B' : Hp} {ρ : Rho} {σ : St} {H : Hp} (e : Same B B') (r : Rel K B' ρ σ H) : Rel K B ρ σ H := by
  obtain ⟨O, h1, ho, h2, hl, h3⟩ := r
  exact ⟨O, h1, ho, e.trans h2, hl, h3⟩
theorem Good.sub {E : Ends} {B' : Hp} (e : Same B B') {o : Out} (h : Good X B E o) : Good X B' E o := by
  cases o with
  | nx ρ => exact fun σ H r => h σ H (r.sub e)
  | rt d => exact fun v H r i => h v H (e.trans r) i
  | bk ρ => exact fun σ H r => h σ H (r.sub e)
  | ct ρ => exact fun σ H r => h σ H (r.sub e)
  | ex c ρ => exact fun pins s σ H ev r x => h pins s σ H ev (r.sub e) x
noncomputable def IterOk (X : Cx) (B : Hp) (σ : St) (ds : List D) (ρ1 : Rho) (J : It) (H1 : Hp) : Prop := ∃ B', ItD X.K J ds B' ∧ Rel X.K B' ρ1 σ H1 ∧ Same B B'
theorem for_red {J : It} {H1 : Hp} {σ : St} {E : Ends} {ds : List D} {ρ1 : Rho} (hi : IterOk X B σ ds ρ1 J H1) (h : GoodO X B E (loop G F ds ρ1)) {g : TG} {tb : TS} (hg : ∀ B v σ H Q, tDG X B G v σ H Q → g v σ H Q) (hb : ∀ B E σ H, tDS X B F E σ H → tb E σ H) :
    ∃ W : Nat → Nat → St → Hp → Prop, (∃ m, W 0 m σ H1) ∧ ∀ i m σ H, W i m σ H →
      (J.stop i H ∧ E.nx σ H) ∨ (J.go i H ∧ ∃ N : St → Hp → Prop, (∀ σ' H', N σ' H' → ∃ m', m' < m ∧ W (i + 1) m' σ' H') ∧ ∀ x H', J.yld i H x H' → g x σ H' fun σ2 H2 => tb { E with nx := N, ct := N, bk := E.nx } σ2 H2) := by
  obtain ⟨B', hJ, r1, sB⟩ := hi
  refine ⟨fun j m σ H => m = ds.length - j ∧ j ≤ ds.length ∧ ∃ ρj, Rel X.K B' ρj σ H ∧ GoodO X B E (loop G F (ds.drop j) ρj), ⟨ds.length, by simp, Nat.zero_le _, ρ1, r1, by simpa using h⟩, ?_⟩
  rintro j m σ H ⟨rfl, hj, ρj, rj, gj⟩
  have sH : Same B' H := rj.kept
  by_cases hlt : j < ds.length
  · have hd : ds.drop j = ds[j] :: ds.drop (j + 1) := List.drop_eq_getElem_cons hlt
    rw [hd] at gj
    refine .inr ⟨hJ.go j H sH hlt, fun σ' H' => ∃ ρ', Rel X.K B' ρ' σ' H' ∧ GoodO X B E (loop G F (ds.drop (j + 1)) ρ'), fun σ' H' ⟨ρ', r', g'⟩ => ⟨ds.length - (j + 1), by omega, rfl, hlt, ρ', r', g'⟩, fun x H' y => ?_⟩
    obtain ⟨e1, d, e2, e3⟩ := hJ.yld j H x H' sH y hlt
    have ed : ds[j] = d := by rw [List.getElem?_eq_getElem hlt] at e2; exact Option.some.inj e2
    rw [ed] at gj
    unfold loop at gj
    cases q : G d ρj with
    | none => rw [q] at gj; exact False.elim gj
    | some ρa =>
      rw [q] at gj
      refine hg B' x σ H' _ ⟨ρj, d, ρa, rj.mono e1, e3, q, fun σ2 H2 r2 => hb B' _ σ2 H2 ⟨ρa, r2, ?_⟩⟩
      dsimp only at gj
      cases qf : F ρa with
      | none => rw [qf] at gj; exact False.elim gj
      | some o =>
        rw [qf] at gj
        cases o with
        | nx ρ2 => exact fun σ3 H3 r3 => ⟨ρ2, r3, gj⟩
        | ct ρ2 => exact fun σ3 H3 r3 => ⟨ρ2, r3, gj⟩
        | bk ρ2 => exact fun σ3 H3 r3 => gj σ3 H3 (r3.sub sB)
        | rt d => exact fun v H3 s3 i3 => gj v H3 (sB.trans s3) i3
        | ex c ρ2 => exact fun pins s σ3 H3 ev r3 x3 => gj pins s σ3 H3 ev (r3.sub sB) x3
  · have e : ds.drop j = [] := List.drop_eq_nil_of_le (by omega)
    rw [e] at gj
    exact .inl ⟨hJ.stop j H sH (by omega), gj σ H (rj.sub sB)⟩
noncomputable def itD : D → M (List D)
  | .lst ds => ok ds
  | .tup ds => ok ds
  | _ => none
noncomputable def iD (X : Cx) (tl : TE) : TI := fun σ H R => tl σ H fun x H1 => (∃ a, x = .ref a ∧ (∃ xs, SqL X.K H1 a xs) ∧ R (Itl X.K a) H1) ∨ (∃ a, x = .ref a ∧ (∃ xs, SqT X.K H1 a xs) ∧ R (Itt X.K a) H1)
theorem pi_D {l : Expr} {tl : TE} (hl : PE X l tl) : PI X tg l (iD X tl) := by
  intro pins s σ H R I h
  refine thn (hl pins s σ H _ I h) fun v s1 ⟨x, H1, I1, r1, q1⟩ => ?_
  rcases q1 with ⟨a, e, ⟨xs, hq⟩, q⟩ | ⟨a, e, ⟨xs, hq⟩, q⟩
  · subst e
    cases r1
    obtain ⟨its, rv, p, hz⟩ := I1.list hq
    refine wpAny_pyIter_list p.isList ?_
    refine ⟨s1.heap.objs.size, [s1.heap.objs.size], _, _, H1, rfl, I1.kept (t' := s1.toks) fun b o e => Heap.get?_push_of_some _ e, turn_list a _, ⟨_, Heap.get?_push_size _ rfl, rfl, rfl⟩, fun b hb => ?_, q⟩
    have e : b = s1.heap.objs.size := by simpa using hb
    subst e
    exact I1.fpOk (Nat.le_refl _) (I1.hok.fresh (Nat.le_refl _))
  · subst e
    cases r1
    obtain ⟨its, rv, p, hz⟩ := I1.tuple hq
    refine wpAny_pyIter_tuple (show s1.heap.IsTuple a its.toArray from p) ?_
    refine ⟨s1.heap.objs.size, [s1.heap.objs.size], _, _, H1, rfl, I1.kept (t' := s1.toks) fun b o e => Heap.get?_push_of_some _ e, turn_tuple a _, ⟨_, Heap.get?_push_size _ rfl, rfl, rfl⟩, fun b hb => ?_, q⟩
    have e : b = s1.heap.objs.size := by simpa using hb
    subst e
    exact I1.fpOk (Nat.le_refl _) (I1.hok.fresh (Nat.le_refl _))
theorem pds_forG {wi : TI} {S : Rho → Option Out} (hp : PassesOwn (model X.prog X.w) X.A X.env X.xe) (hc : X.calm = true) (hi : PI X tg iter wi) (hg : ∀ B, PDG X B tg G) (hb : ∀ B, PDB X B body F)
    (hr : ∀ E σ H R, tDS X B S E σ H → (∀ J H1 ds ρ1, IterOk X B σ ds ρ1 J H1 → GoodO X B E (loop G F ds ρ1) → R J H1) → wi σ H R) (hs : ∀ x, foldedSetIterable iter X.env x = pure x := by intro _; rfl) : PDS X B (.For tg iter body [] pos) S := by
  have hg' : PG X tg (fun v σ H Q => ∃ B, tDG X B G v σ H Q) := fun pins s σ H v u Q I r ⟨B, h⟩ => hg B pins s σ H v u Q I r h
  have hb' : PSs X body (fun E σ H => ∃ B, tDS X B F E σ H) := fun pins s σ H E I ⟨B, h⟩ => hb B pins s σ H E I h
  refine PS.of (ps_for hp hc hi hg' hb' hs) fun E σ H h => ?_
  exact hr E σ H _ h fun J H1 ds ρ1 i1 g1 => for_red (g := fun v σ H Q => ∃ B, tDG X B G v σ H Q) (tb := fun E σ H => ∃ B, tDS X B F E σ H) i1 g1 (fun B v σ H Q q => ⟨B, q⟩) fun B E σ H q => ⟨B, q⟩
noncomputable def relAt (i : Nat) (ρ : Rho) : Rho := match ρ[i]? with
  | some (some (.own _)) => free ρ
  | some (some (.oin _ _ _ _)) => free ρ
  | some (some (.ow _)) => free ρ
  | some (some (.tk _)) => free ρ
  | _ => ρ
noncomputable def sForN (i : Nat) (G : D → Rho → Option Rho) (F : Rho → Option Out) : Rho → Option Out := fun ρ => match look i ρ with
  | some (.ok d) => (match itD d with
    | some (.ok ds) => loop G F ds (relAt i ρ)
    | _ => none)
  | _ => none
theorem Rel.base {K : PySem.W.Frag} {B : Hp} {ρ : Rho} {σ : St} {H : Hp} (r : Rel K B ρ σ H) : ∃ B', Rel K B' ρ σ H ∧ Same B B' ∧ Same B' H ∧ (∀ (i : Nat) (d : D), ρ[i]? = some (some (SV.sh d)) → ∃ v, σ[i]? = some (some v) ∧ Is K B' d v) ∧ (∀ d v, d.imm = true → Is K H d v → Is K B' d v) := by
  obtain ⟨O, h1, ho, h2, hl, h3⟩ := r
  exact ⟨Off H O, ⟨O, h1, ho, Same.refl _, hl, h3⟩, h2, Off.same _ _, fun i d q => h3 i _ q, fun d v q i => off_imm ho q i⟩
theorem Rel.baseAll {K : PySem.W.Frag} {B : Hp} {ρ : Rho} {σ : St} {H : Hp} (r : Rel K B ρ σ H) : Rel K H (free ρ) σ H := by
  have e0 : Off H (fun _ => none) = H := by funext b; unfold Off; rw [if_neg (fun ⟨i, e⟩ => nomatch e)]
  refine ⟨fun _ => none, (by intro _ _ _ q; cases q), (by intro _ _ q; cases q), by rw [e0]; exact Same.refl _, ?_, fun i sv q => ?_⟩
  · obtain ⟨O, _, _, _, hl, _⟩ := r.freed
    exact hl
  · unfold free at q
    rw [List.getElem?_map] at q
    obtain ⟨o, e1, e2⟩ := Option.map_eq_some_iff.mp q
    cases o with
    | none => cases e2
    | some sv0 =>
      have e2' : sv0.rel = sv := Option.some.inj e2
      subst e2'
      obtain ⟨v, e3, e4⟩ := r.get e1
      have : sv0.rel = .sh sv0.cur := by cases sv0 <;> rfl
      rw [this]
      exact ⟨v, e3, by rw [e0]; exact e4⟩
theorem iter_of {K : PySem.W.Frag} {H : Hp} {d : D} {v : V} {ds : List D} (i : Is K H d v) (h : itD d = ok ds) : ∃ a vs, v = .ref a ∧ IsL K H ds vs ∧ (SqL K H a vs ∨ SqT K H a vs) := by
  cases i with
  | lst hh r => have := ok_inj h; subst this; exact ⟨_, _, rfl, r, .inl hh⟩
  | tup hh r => have := ok_inj h; subst this; exact ⟨_, _, rfl, r, .inr hh⟩
  | _ => exact nomatch h
theorem pds_forN (i : Nat) {x : Str} {p : Pos} (hN : X.N[i]? = some x) (hv : Vis X.env.scope x) (hp : PassesOwn (model X.prog X.w) X.A X.env X.xe) (hc : X.calm = true) (hg : ∀ B, PDG X B tg G) (hb : ∀ B, PDB X B body F)
    (hd : (x == ("__debug__" : Str)) = false := by decide) (hcd : (x == ("__classdict__" : Str)) = false := by decide) (hs : ∀ y, foldedSetIterable (.Name x p) X.env y = pure y := by intro _; rfl) : PDS X B (.For tg (.Name x p) body [] pos) (sForN i G F) := by
  refine pds_forG hp hc (pi_D (pe_var hN hv hd hcd)) hg hb (fun E σ H R h k => ?_) hs
  obtain ⟨ρ, r, h⟩ := h
  unfold sForN look at h
  split at h
  · rename_i d0 hd0
    split at hd0
    · rename_i sv q
      have e := ok_inj hd0
      subst e
      split at h
      · rename_i ds hds
        obtain ⟨v, e1, e2⟩ := r.get q
        obtain ⟨a, vs, rfl, il, hq⟩ := iter_of e2 hds
        refine ⟨_, e1, ?_⟩
        have key : ∃ B' vs, Rel X.K B' (relAt i ρ) σ H ∧ Same B B' ∧ IsL X.K B' ds vs ∧ (SqL X.K B' a vs ∨ SqT X.K B' a vs) := by
          cases sv with
          | sh d =>
            obtain ⟨B', b1, b2, b3, b4, b5⟩ := r.base
            obtain ⟨v', f1, f2⟩ := b4 i d q
            rw [e1] at f1
            have := Option.some.inj (Option.some.inj f1); subst this
            obtain ⟨a', vs', ea, il', hq'⟩ := iter_of f2 hds
            cases ea
            have e : relAt i ρ = ρ := by unfold relAt; rw [q]
            exact ⟨B', vs', by rw [e]; exact b1, b2, il', hq'⟩
          | own ds' =>
            have e : relAt i ρ = free ρ := by unfold relAt; rw [q]
            exact ⟨H, vs, by rw [e]; exact r.baseAll, r.kept, il, hq⟩
          | oin a C dx fs =>
            have e : relAt i ρ = free ρ := by unfold relAt; rw [q]
            exact ⟨H, vs, by rw [e]; exact r.baseAll, r.kept, il, hq⟩
          | ow o =>
            have e : relAt i ρ = free ρ := by unfold relAt; rw [q]
            exact ⟨H, vs, by rw [e]; exact r.baseAll, r.kept, il, hq⟩
          | tk ks =>
            have e : relAt i ρ = free ρ := by unfold relAt; rw [q]
            exact ⟨H, vs, by rw [e]; exact r.baseAll, r.kept, il, hq⟩
        obtain ⟨B', vs', k1, k2, k3, k4⟩ := key
        rcases k4 with k4 | k4
        · exact .inl ⟨a, rfl, ⟨_, k1.kept.seq k4⟩, k _ H ds (relAt i ρ) ⟨B', itd_list k4 k3, k1, k2⟩ h⟩
        · exact .inr ⟨a, rfl, ⟨_, SqT.mono k1.kept k4⟩, k _ H ds (relAt i ρ) ⟨B', itd_tup k4 k3, k1, k2⟩ h⟩
      · exact False.elim h
    · exact nomatch hd0
  · exact False.elim h
noncomputable def sForE (f : Rho → M D) (G : D → Rho → Option Rho) (F : Rho → Option Out) : Rho → Option Out := fun ρ => lft (f ρ) ρ fun d => match itD d with
  | some (.ok ds) => loop G F ds (if d.imm = true then ρ else free ρ)
  | _ => none
theorem pds_forE {fa : Rho → M D} (hp : PassesOwn (model X.prog X.w) X.A X.env X.xe) (hc : X.calm = true) (he : PD X B iter fa) (hg : ∀ B, PDG X B tg G) (hb : ∀ B, PDB X B body F) (hs : ∀ y, foldedSetIterable iter X.env y = pure y := by intro _; rfl) : PDS X B (.For tg iter body [] pos) (sForE fa G F) := by
  refine pds_forG hp hc (pi_D he) hg hb (fun E σ H R h k => ?_) hs
  obtain ⟨ρ, r, h⟩ := h
  refine ⟨ρ, r, (lft_red r h).imp fun d h1 v H1 e1 i1 => ?_⟩
  split at h1
  · rename_i ds hds
    obtain ⟨a, vs, rfl, il, hq⟩ := iter_of i1 hds
    have r1 := r.mono e1
    have key : ∃ B' vs, Rel X.K B' (if d.imm = true then ρ else free ρ) σ H1 ∧ Same B B' ∧ IsL X.K B' ds vs ∧ (SqL X.K B' a vs ∨ SqT X.K B' a vs) := by
      by_cases q : d.imm = true
      · obtain ⟨B', b1, b2, b3, b4, b5⟩ := r1.base
        obtain ⟨a', vs', ea, il', hq'⟩ := iter_of (b5 d _ q i1) hds
        cases ea
        rw [if_pos q]
        exact ⟨B', vs', b1, b2, il', hq'⟩
      · rw [if_neg q]
        exact ⟨H1, vs, r1.baseAll, r1.kept, il, hq⟩
    obtain ⟨B', vs', k1, k2, k3, k4⟩ := key
    rcases k4 with k4 | k4
    · exact .inl ⟨a, rfl, ⟨_, k1.kept.seq k4⟩, k _ H1 ds _ ⟨B', itd_list k4 k3, k1, k2⟩ h1⟩
    · exact .inr ⟨a, rfl, ⟨_, SqT.mono k1.kept k4⟩, k _ H1 ds _ ⟨B', itd_tup k4 k3, k1, k2⟩ h1⟩
  · exact False.elim h1
noncomputable def sForR1 (f : Rho → M D) (G : D → Rho → Option Rho) (F : Rho → Option Out) : Rho → Option Out := fun ρ => lft (f ρ) ρ fun d => match d with
  | .int j => if j < 2 ^ 62 ∧ -(2 ^ 62) ≤ j then loop G F (rng 0 j.toNat) ρ else none
  | _ => none
theorem pds_forR1 {a : Expr} {fa : Rho → M D} {p p1 : Pos} (hgl : Gl X "range") (hm : X.mg "range" = none) (hp : PassesOwn (model X.prog X.w) X.A X.env X.xe) (hc : X.calm = true) (he : PD X B a fa) (hg : ∀ B, PDG X B tg G) (hb : ∀ B, PDB X B body F)
    (hst : starEach [a] X.env = [(false, eval a X.env)] := by exact star1 rfl) (hs : ∀ y, foldedSetIterable (.Call (.Name "range" p) [a] [] p1) X.env y = pure y := by intro _; rfl) : PDS X B (.For tg (.Call (.Name "range" p) [a] [] p1) body [] pos) (sForR1 fa G F) := by
  refine pds_forG hp hc (pi_range1 hgl hm (pa_cons he pa_nil hst) hst) hg hb (fun E σ H R h k => ?_) hs
  obtain ⟨ρ, r, h⟩ := h
  refine ⟨ρ, r, (lft_red r h).imp fun d h1 v H1 e1 i1 => ?_⟩
  cases i1 <;> first | exact False.elim h1 | skip
  rename_i j
  dsimp only at h1
  split at h1
  · rename_i hj
    obtain ⟨B', b1, b2, b3, b4, b5⟩ := (r.mono e1).base
    exact ⟨j, rfl, hj.2, hj.1, k _ H1 _ ρ ⟨B', itd_rng 0 j.toNat B', b1, b2⟩ h1⟩
  · exact False.elim h1
end
end L2.PU
namespace L2.PU
open PySem PySem.Spec PyProof.Rows
noncomputable def putD (f : Str) (v : D) : List (Str × D) → List (Str × D)
  | [] => [(f, v)]
  | (g, x) :: r => if g = f then (g, v) :: r else (g, x) :: putD f v r
theorem isF_put {K : PySem.W.Frag} {H : Hp} {f : Str} {d : D} {v : V} (i : Is K H d v) : ∀ {fs : List (Str × D)} {vs : List (Str × V)}, IsF K H fs vs → IsF K H (putD f d fs) (putF f v vs)
  | _, _, .nil => .cons i .nil
  | _, _, .cons (x := g) h r => by
    unfold putD putF
    by_cases q : g = f
    · rw [if_pos q, if_pos q]; exact .cons i r
    · rw [if_neg q, if_neg q]; exact .cons h (isF_put i r)
section
variable {X : Cx} {B : Hp} {e : Expr} {fa : Rho → M D} {pos pos' p : Pos} {x f : Str}
theorem Rel.put {K : PySem.W.Frag} {B H : Hp} {ρ : Rho} {σ : St} {i : Nat} {a C dx : Addr} {fs : List (Str × D)} {d : D} {v : V} (O : Nat → Option Addr) (h1 : ∀ i j a, O i = some a → O j = some a → i = j) (ho : OwnK H O) (h2 : Same B (Off H O)) (hl : ρ.length = σ.length)
    (h3 : ∀ i sv, ρ[i]? = some (some sv) → Slot K H O σ i sv) (q : ρ[i]? = some (some (.oin a C dx fs))) (iv : Is K (Off H O) d v) {vs : List (Str × V)} (hv : H a = some (.ins C dx vs)) : Rel K B (ρ.set i (some (.oin a C dx (putD f d fs)))) σ (upd H a (.ins C dx (putF f v vs))) := by
  obtain ⟨z1, z2, z3, vs', z4, z5⟩ := h3 i _ q
  rw [hv] at z4
  cases z4
  have eo : Off (upd H a (.ins C dx (putF f v vs))) O = Off H O := Off.upd z1
  refine ⟨O, h1, fun j b qj => ?_, by rw [eo]; exact h2, by rw [List.length_set, hl], fun j sv qj => ?_⟩
  · by_cases e : b = a
    · subst e; exact ⟨_, upd_same, rfl⟩
    · obtain ⟨u, w, m⟩ := ho j b qj
      exact ⟨u, by rw [upd_ne e]; exact w, m⟩
  · by_cases e : j = i
    · subst e
      have hj : j < ρ.length := (List.getElem?_eq_some_iff.mp q).1
      rw [List.getElem?_set_self hj] at qj
      have q' := Option.some.inj (Option.some.inj qj)
      subst q'
      exact ⟨z1, z2, z3, _, upd_same, by rw [eo]; exact isF_put iv z5⟩
    · rw [List.getElem?_set_ne (Ne.symm e)] at qj
      have z := h3 j sv qj
      cases sv with
      | sh d' => obtain ⟨v', e1, e2⟩ := z; exact ⟨v', e1, by rw [eo]; exact e2⟩
      | own ds =>
        obtain ⟨b, ws, e1, e2, e3, e4⟩ := z
        have nb : b ≠ a := fun w => e (h1 j i a (by rw [← w]; exact e1) z1)
        exact ⟨b, ws, e1, e2, by rw [upd_ne nb]; exact e3, by rw [eo]; exact e4⟩
      | oin b C' dx' fs' =>
        obtain ⟨e1, e2, e3, ws, e4, e5⟩ := z
        have nb : b ≠ a := fun w => e (h1 j i a (by rw [← w]; exact e1) z1)
        exact ⟨e1, e2, e3, ws, by rw [upd_ne nb]; exact e4, by rw [eo]; exact e5⟩
      | ow o =>
        obtain ⟨b, u, e1, e2, e3, e4⟩ := z
        have nb : b ≠ a := fun w => e (h1 j i a (by rw [← w]; exact e1) z1)
        exact ⟨b, u, e1, e2, by rw [upd_ne nb]; exact e3, by rw [eo]; exact e4⟩
      | tk ks => obtain ⟨b, e1, e2⟩ := z; exact ⟨b, e1, by rw [eo]; exact e2⟩
noncomputable def putAt (cs : Addr → Bool) (i : Nat) (f : Str) (d : D) (ρ : Rho) : Option Out := match ρ[i]? with
  | some (some (.oin a C dx fs)) => if cs C = true ∧ fs.length < 1000 then some (.nx (ρ.set i (some (.oin a C dx (putD f d fs))))) else none
  | _ => none
noncomputable def sFldI (cs : Addr → Bool) (i : Nat) (f : Str) (fa : Rho → M D) : Rho → Option Out := fun ρ => lft (fa ρ) ρ fun d => if d.imm = true then putAt cs i f d ρ else none
theorem pds_fldI {cs : Addr → Bool} {i : Nat} (hC : ∀ C, cs C = true → Cls X.K C ∧ NoAttr X.K C f) (hN : X.N[i]? = some x) (hv : Vis X.env.scope x) (he : PD X B e fa) (hs : swapsWith e (some (.Attribute (.Name x p) f pos')) pos.line X.env = pure false := by rfl)
    (hd : (x == ("__debug__" : Str)) = false := by decide) (hcd : (x == ("__classdict__" : Str)) = false := by decide) : PDS X B (.Assign [.Attribute (.Name x p) f pos'] e pos) (sFldI cs i f fa) := by
  refine PS.of (ps_fld (pe_var hN hv hd hcd) he hs) fun E σ H h => ?_
  obtain ⟨ρ, r, h⟩ := h
  refine ⟨ρ, r, (lft_red r h).imp fun d h1 v H1 e1 i1 => ?_⟩
  split at h1
  · rename_i hm
    unfold putAt at h1
    split at h1
    · rename_i a C dx fs q
      split at h1
      · rename_i hc
        obtain ⟨O, g1, go, g2, gl, g3⟩ := r.mono e1
        obtain ⟨z1, z2, z3, vs, z4, z5⟩ := g3 i _ q
        exact ⟨_, z2, a, C, dx, vs, rfl, z4, (hC C hc.1).1, (hC C hc.1).2, by rw [← z5.length]; exact hc.2, h1 σ _ (Rel.put O g1 go g2 gl g3 q (off_imm go hm i1) z4)⟩
      · exact False.elim h1
    · exact False.elim h1
  · exact False.elim h1
noncomputable def sFldN (cs : Addr → Bool) (i : Nat) (f : Str) (j : Nat) : Rho → Option Out := fun ρ => match ρ[j]? with
  | some (some (.sh d)) => putAt cs i f d ρ
  | _ => none
theorem pds_fldN {cs : Addr → Bool} {i j : Nat} {y : Str} {p2 : Pos} (hC : ∀ C, cs C = true → Cls X.K C ∧ NoAttr X.K C f) (hN : X.N[i]? = some x) (hv : Vis X.env.scope x) (hN2 : X.N[j]? = some y) (hv2 : Vis X.env.scope y) (hs : swapsWith (.Name y p2) (some (.Attribute (.Name x p) f pos')) pos.line X.env = pure false := by rfl)
    (hd : (x == ("__debug__" : Str)) = false := by decide) (hcd : (x == ("__classdict__" : Str)) = false := by decide) (hd2 : (y == ("__debug__" : Str)) = false := by decide) (hcd2 : (y == ("__classdict__" : Str)) = false := by decide) : PDS X B (.Assign [.Attribute (.Name x p) f pos'] (.Name y p2) pos) (sFldN cs i f j) := by
  refine PS.of (ps_fld (pe_var hN hv hd hcd) (pe_var hN2 hv2 hd2 hcd2) hs) fun E σ H h => ?_
  obtain ⟨ρ, r, h⟩ := h
  unfold sFldN at h
  split at h
  · rename_i d qd
    unfold putAt at h
    split at h
    · rename_i a C dx fs q
      split at h
      · rename_i hc
        obtain ⟨O, g1, go, g2, gl, g3⟩ := r
        obtain ⟨v, y1, y2⟩ := g3 j _ qd
        obtain ⟨z1, z2, z3, vs, z4, z5⟩ := g3 i _ q
        exact ⟨v, y1, _, z2, a, C, dx, vs, rfl, z4, (hC C hc.1).1, (hC C hc.1).2, by rw [← z5.length]; exact hc.2, h σ _ (Rel.put O g1 go g2 gl g3 q y2 z4)⟩
      · exact False.elim h
    · exact False.elim h
  · exact False.elim h
end
noncomputable def rho0 (N : List Str) (ds : List D) : Rho := ds.map (fun d => some (.sh d)) ++ List.replicate (N.length - ds.length) none
noncomputable def fnRes : Option Out → M D
  | some (.rt d) => ok d
  | some (.nx _) => ok .non
  | some (.ex c _) => err c
  | _ => none
theorem get_append_map {α β : Type} {f : α → β} : ∀ {l : List α} {r : List β} {i : Nat} {b : β}, (l.map f ++ r)[i]? = some b → (∃ a, l[i]? = some a ∧ b = f a) ∨ (l.length ≤ i ∧ r[i - l.length]? = some b)
  | l, r, i, b, h => by
    by_cases q : i < l.length
    · rw [List.getElem?_append_left (by simpa using q), List.getElem?_map] at h
      obtain ⟨a, e1, e2⟩ := Option.map_eq_some_iff.mp h
      exact .inl ⟨a, e1, e2.symm⟩
    · rw [List.getElem?_append_right (by simpa using q), List.length_map] at h
      exact .inr ⟨by omega, h⟩
theorem start_get {N : List Str} {vs : List V} {i : Nat} {v : V} (h : vs[i]? = some v) : (start N vs)[i]? = some (some v) := by
  unfold start
  have q : i < vs.length := (List.getElem?_eq_some_iff.mp h).1
  rw [List.getElem?_append_left (by simpa using q), List.getElem?_map, h]; rfl
theorem start_length {N : List Str} {vs : List V} (h : vs.length ≤ N.length) : (start N vs).length = N.length := by
  unfold start; rw [List.length_append, List.length_map, List.length_replicate]; omega
theorem rho0_length {N : List Str} {ds : List D} (h : ds.length ≤ N.length) : (rho0 N ds).length = N.length := by
  unfold rho0; rw [List.length_append, List.length_map, List.length_replicate]; omega
theorem rel_start {K : PySem.W.Frag} {H : Hp} {N : List Str} {ds : List D} {vs : List V} (i : IsL K H ds vs) (hl : ds.length ≤ N.length) : Rel K H (rho0 N ds) (start N vs) H := by
  have e0 : Off H (fun _ => none) = H := by funext b; unfold Off; rw [if_neg (fun ⟨i, e⟩ => nomatch e)]
  refine ⟨fun _ => none, (by intro _ _ _ q; cases q), (by intro _ _ q; cases q), by rw [e0]; exact Same.refl _, by rw [rho0_length hl, start_length (by rw [← i.length]; exact hl)], fun j sv q => ?_⟩
  unfold rho0 at q
  rcases get_append_map q with ⟨d, e1, e2⟩ | ⟨_, e2⟩
  · cases e2
    obtain ⟨v, h1, h2⟩ := i.get e1
    exact ⟨v, start_get h1, by rw [e0]; exact h2⟩
  · rw [List.getElem?_replicate] at e2
    split at e2 <;> cases e2
section
variable {P : Program} {w : World} {K : PySem.W.Frag} {mg : Str → Option Value} {base : Heap}
noncomputable abbrev cxN (P : Program) (w : World) (K : PySem.W.Frag) (mg : Str → Option Value) (base : Heap) (N : List Str) (qual : Str) (scope : Scope) (f : Addr) (cd : Value) (A : Around) (outer : List Env) (s : Shared) (H : Hp) (E : XK) : Cx :=
  (cxOf (CXD P w) P w K mg base N qual scope f cd A outer s H E).nox
theorem fn_D {x qual : Str} {st : Stmt} {f : Addr} {fd : FuncData} {N ps : List Str} {k : Nat} {F : List D → M D} (Fu : Fun K x qual st f fd) (S : FnScope N ps (defScope st)) (hL : ∀ ds r, F ds = some r → ds.length = ps.length)
    (hbody : ∀ (cdv : Value) (A : Around) (outer : List Env) (s : Shared) (H : Hp) (E : XK), Room k (A.deeper (envOfC qual (defScope st) s.heap.objs.size f cdv)) →
      ∃ F', (∀ B, PDB (cxN P w K mg base N qual (defScope st) f cdv A outer s H E) B (defBody st) F') ∧ ∀ ds r, F ds = some r → ∃ d, r = .ok d ∧ fnRes (F' (rho0 N ds)) = ok d) : FnD P w K mg base (k + 1) f fd ps F := by
  obtain ⟨oc, od, kV, doc, pm, an, cdv, ct, osl, rfl, lk, hcd⟩ := Fu.ex
  refine fn_of lk hcd S (fun vs H Q E ⟨ds, i, hl, _⟩ => hl) fun A outer s H vs Q E hr hsp => ?_
  obtain ⟨F', hF, hq⟩ := hbody cdv A outer s H E hr
  refine ⟨_, (hF H).nox, ?_⟩
  obtain ⟨ds, i, hl, h⟩ := hsp
  have hn : ps.length ≤ N.length := by have := congrArg List.length S.pre; rw [List.length_take] at this; omega
  cases q : F ds with
  | none => rw [q] at h; exact False.elim h
  | some r =>
    rw [q] at h
    obtain ⟨d, rfl, e⟩ := hq ds r q
    refine ⟨rho0 N ds, rel_start i (by rw [i.length, hl]; exact hn), ?_⟩
    cases qf : F' (rho0 N ds) with
    | none => rw [qf] at e; cases e
    | some o =>
      rw [qf] at e
      cases o with
      | rt d' => have := ok_inj e; subst this; exact fun v H' s' i' => h v H' s' i'
      | nx ρ => have := ok_inj e; subst this; exact fun σ' H' r' => h _ H' r'.kept .non
      | bk ρ => cases e
      | ct ρ => cases e
      | ex c ρ => cases e
noncomputable def rhoI (N : List Str) (a C dx : Addr) (ds : List D) : Rho := some (.oin a C dx []) :: (ds.map (fun d => some (.sh d)) ++ List.replicate (N.length - (ds.length + 1)) none)
theorem rel_startI {H : Hp} {N : List Str} {a C dx : Addr} {ds : List D} {vs : List V} (ha : H a = some (.ins C dx [])) (hd : dx ≠ a) (i : IsL K (hid H a) ds vs) (hl : ds.length + 1 ≤ N.length) : Rel K (hid H a) (rhoI N a C dx ds) (start N (.ref a :: vs)) H := by
  have e0 : Off H (fun j => if j = 0 then some a else none) = hid H a := by
    funext b; unfold Off hid
    by_cases q : b = a
    · rw [if_pos q, if_pos ⟨0, by simp [q]⟩]
    · rw [if_neg q, if_neg]
      rintro ⟨j, e⟩
      dsimp only at e
      split at e
      · cases e; exact q rfl
      · cases e
  refine ⟨fun j => if j = 0 then some a else none, fun j k b q1 q2 => ?_, fun j b q => ?_, by rw [e0]; exact Same.refl _, ?_, fun j sv q => ?_⟩
  · by_cases z1 : j = 0
    · by_cases z2 : k = 0
      · omega
      · simp [z2] at q2
    · simp [z1] at q1
  · by_cases z1 : j = 0
    · simp [z1] at q; subst q; exact ⟨_, ha, rfl⟩
    · simp [z1] at q
  · rw [start_length (by rw [List.length_cons, ← i.length]; exact hl)]
    unfold rhoI
    rw [List.length_cons, List.length_append, List.length_map, List.length_replicate]
    omega
  · cases j with
    | zero =>
      unfold rhoI at q
      cases q
      exact ⟨rfl, start_get rfl, hd, [], ha, .nil⟩
    | succ j =>
      unfold rhoI at q
      rw [List.getElem?_cons_succ] at q
      rcases get_append_map q with ⟨d, e1, e2⟩ | ⟨_, e2⟩
      · cases e2
        obtain ⟨v, h1, h2⟩ := i.get e1
        exact ⟨v, start_get (by rw [List.getElem?_cons_succ]; exact h1), by rw [e0]; exact h2⟩
      · rw [List.getElem?_replicate] at e2
        split at e2 <;> cases e2
noncomputable def iniRes (a C dx : Addr) : Option Out → M (List (Str × D))
  | some (.nx (some (.oin a' C' dx' fs) :: _)) => if a' = a ∧ C' = C ∧ dx' = dx then ok fs else none
  | _ => none
end
end L2.PU
namespace L2.PU
open PySem PySem.Spec PyProof.Rows
theorem sSeq_nx {F G : Rho → Option Out} {ρ ρ' : Rho} (h : F ρ = some (.nx ρ')) : sSeq F G ρ = G ρ' := by unfold sSeq; rw [h]
theorem sSeq_rt {F G : Rho → Option Out} {ρ : Rho} {d : D} (h : F ρ = some (.rt d)) : sSeq F G ρ = some (.rt d) := by unfold sSeq; rw [h]
theorem sIf_t {t : Rho → M Bool} {F G : Rho → Option Out} {ρ : Rho} (h : t ρ = ok true) : sIf t F G ρ = F ρ := by unfold sIf; rw [h]; rfl
theorem sIf_f {t : Rho → M Bool} {F G : Rho → Option Out} {ρ : Rho} (h : t ρ = ok false) : sIf t F G ρ = G ρ := by unfold sIf; rw [h]; rfl
theorem sRet_ok {f : Rho → M D} {ρ : Rho} {d : D} (h : f ρ = ok d) : sRet f ρ = some (.rt d) := by unfold sRet; rw [h]; rfl
theorem sSet_ok {i : Nat} {f : Rho → M D} {ρ : Rho} {d : D} (h : f ρ = ok d) : sSet i f ρ = some (.nx (setV i d ρ)) := by unfold sSet; rw [h]; rfl
theorem setV_imm {i : Nat} {d : D} {ρ : Rho} (h : d.imm = true) : setV i d ρ = ρ.set i (some (.sh d)) := by unfold setV; rw [if_pos h]
theorem sForR1_ok {f : Rho → M D} {G : D → Rho → Option Rho} {F : Rho → Option Out} {ρ : Rho} {j : Int} (h : f ρ = ok (.int j)) (h1 : j < 2 ^ 62) (h2 : -(2 ^ 62) ≤ j) : sForR1 f G F ρ = loop G F (rng 0 j.toNat) ρ := by
  unfold sForR1
  rw [h, lft_ok]
  dsimp only
  rw [if_pos ⟨h1, h2⟩]
theorem sForE_ok {f : Rho → M D} {G : D → Rho → Option Rho} {F : Rho → Option Out} {ρ : Rho} {d : D} {ds : List D} (h : f ρ = ok d) (h1 : itD d = ok ds) : sForE f G F ρ = loop G F ds (if d.imm = true then ρ else free ρ) := by
  unfold sForE
  rw [h, lft_ok, h1]
  rfl
theorem loop_inv {G : D → Rho → Option Rho} {F : Rho → Option Out} (P : List D → Rho → Prop) : ∀ (ds pre : List D) (ρ : Rho), P pre ρ →
    (∀ p d q ρ, pre ++ ds = p ++ d :: q → P p ρ → ∃ ρ1 ρ2, G d ρ = some ρ1 ∧ (F ρ1 = some (.nx ρ2) ∨ F ρ1 = some (.ct ρ2)) ∧ P (p ++ [d]) ρ2) → ∃ ρ', loop G F ds ρ = some (.nx ρ') ∧ P (pre ++ ds) ρ'
  | [], pre, ρ, h, _ => ⟨ρ, rfl, by rw [List.append_nil]; exact h⟩
  | d :: ds, pre, ρ, h, st => by
    obtain ⟨ρ1, ρ2, h1, h2, h3⟩ := st pre d ds ρ rfl h
    obtain ⟨ρ', h4, h5⟩ := loop_inv P ds (pre ++ [d]) ρ2 h3 (fun p d' q ρ e hp => st p d' q ρ (by rw [← e, List.append_assoc]; rfl) hp)
    refine ⟨ρ', ?_, by rw [List.append_assoc] at h5; exact h5⟩
    unfold loop
    rw [h1]
    dsimp only
    rcases h2 with h2 | h2 <;> rw [h2] <;> exact h4
theorem loop_inv0 {G : D → Rho → Option Rho} {F : Rho → Option Out} (P : List D → Rho → Prop) (ds : List D) (ρ : Rho) (h : P [] ρ)
    (st : ∀ p d q ρ, ds = p ++ d :: q → P p ρ → ∃ ρ1 ρ2, G d ρ = some ρ1 ∧ (F ρ1 = some (.nx ρ2) ∨ F ρ1 = some (.ct ρ2)) ∧ P (p ++ [d]) ρ2) : ∃ ρ', loop G F ds ρ = some (.nx ρ') ∧ P ds ρ' := by
  have := loop_inv P ds [] ρ h (fun p d q ρ e => st p d q ρ (by simpa using e))
  simpa using this
mutual
noncomputable def D.dep : D → Nat
  | .tup ds => depL ds + 1
  | .lst ds => depL ds + 1
  | _ => 0
noncomputable def depL : List D → Nat
  | [] => 0
  | d :: ds => max d.dep (depL ds)
end
mutual
noncomputable def D.pl : D → Bool
  | .tup ds => decide (ds.length ≤ 100000) && plL ds
  | .lst ds => decide (ds.length ≤ 100000) && plL ds
  | .obj _ _ => false
  | .dk _ => false
  | .dt _ => false
  | .exc _ => false
  | .set _ => false
  | _ => true
noncomputable def plL : List D → Bool
  | [] => true
  | d :: ds => d.pl && plL ds
end
theorem dep_at : ∀ {ds : List D} {i : Nat} {d : D}, ds[i]? = some d → d.dep ≤ depL ds
  | [], _, _, h => by simp at h
  | x :: ds, 0, d, h => by simp at h; subst h; unfold depL; omega
  | x :: ds, i + 1, d, h => by have := dep_at (ds := ds) (i := i) (d := d) (by simpa using h); unfold depL; omega
theorem pl_at : ∀ {ds : List D} {i : Nat} {d : D}, plL ds = true → ds[i]? = some d → d.pl = true
  | [], _, _, _, h => by simp at h
  | x :: ds, 0, d, q, h => by simp at h; subst h; unfold plL at q; rw [Bool.and_eq_true] at q; exact q.1
  | x :: ds, i + 1, d, q, h => by unfold plL at q; rw [Bool.and_eq_true] at q; exact pl_at (ds := ds) (i := i) q.2 (by simpa using h)
noncomputable def denSame (F : List D → M D) : Rho → Option Out :=
    (sSeq (sIf (orB (testB (b2 gNe (isi "tuple" (look 1)) (isi "tuple" (look 0)))) (testB (b2 gNe (isi "list" (look 1)) (isi "list" (look 0))))) (sSeq (sRet (con (.bl false)))
    sNil) sNil)
    (sSeq (sIf (test (isi2 ["tuple", "list"] (look 1))) (sSeq (sIf (testB (b2 gNe (f1 lenD (look 0)) (f1 lenD (look 1)))) (sSeq (sRet (con (.bl false)))
    sNil) sNil)
    (sSeq (sForR1 (f1 lenD (look 1)) (gN 2) (sSeq (sIf (notB (test (app F (aCons (b2 gIx (look 0) (look 2)) (aCons (b2 gIx (look 1) (look 2)) aNil))))) (sSeq (sRet (con (.bl false)))
    sNil) sNil)
    sNil))
    (sSeq (sRet (con (.bl true)))
    sNil))) sNil)
    (sSeq (sIf (testB (b2 gIs (look 1) (con .non))) (sSeq (sRet (b2 gIs (look 0) (con .non)))
    sNil) sNil)
    (sSeq (sIf (orB (testB (b2 gNe (isi "bool" (look 1)) (isi "bool" (look 0)))) (testB (b2 gNe (isi "str" (look 1)) (isi "str" (look 0))))) (sSeq (sRet (con (.bl false)))
    sNil) sNil)
    (sSeq (sRet (andV (b2 gEq (isi "int" (look 1)) (isi "int" (look 0))) (b2 gEq (look 0) (look 1))))
    sNil)))))
open Classical in
noncomputable def fSame (k : Nat) : List D → M D
  | [x, y] => if x = y ∧ x.pl = true ∧ x.dep < k then ok (.bl true) else none
  | _ => none
theorem fSame_len (k : Nat) : ∀ ds r, fSame k ds = some r → ds.length = 2 := by
  intro ds r h
  unfold fSame at h
  split at h
  · rfl
  · cases h
open Classical in
theorem fSame_self {k : Nat} {x : D} (h1 : x.pl = true) (h2 : x.dep < k) : fSame k [x, x] = ok (.bl true) := by
  show (if x = x ∧ x.pl = true ∧ x.dep < k then ok (D.bl true) else none) = _
  rw [if_pos ⟨rfl, h1, h2⟩]
theorem fSame_zero (ds : List D) : fSame 0 ds = none := by
  unfold fSame
  split
  · rw [if_neg]; rintro ⟨_, _, h⟩; omega
  · rfl
theorem same_loop {k : Nat} {x : D} {xs : List D} (hx : x = .tup xs ∨ x = .lst xs) (hp : plL xs = true) (hd : depL xs < k) (o : Option SV) :
    ∃ o', loop (gN 2) (sSeq (sIf (notB (test (app (fSame k) (aCons (b2 gIx (look 0) (look 2)) (aCons (b2 gIx (look 1) (look 2)) aNil))))) (sSeq (sRet (con (.bl false))) sNil) sNil) sNil) (rng 0 xs.length) [some (.sh x), some (.sh x), o] = some (.nx [some (.sh x), some (.sh x), o']) := by
  obtain ⟨ρ', h1, o', h2⟩ := loop_inv0 (G := gN 2) (F := sSeq (sIf (notB (test (app (fSame k) (aCons (b2 gIx (look 0) (look 2)) (aCons (b2 gIx (look 1) (look 2)) aNil))))) (sSeq (sRet (con (.bl false))) sNil) sNil) sNil)
    (fun _ ρ => ∃ o', ρ = [some (.sh x), some (.sh x), o']) (rng 0 xs.length) [some (.sh x), some (.sh x), o] ⟨o, rfl⟩ (fun p d q ρ e ⟨o1, eρ⟩ => by
      subst eρ
      have hm : d ∈ rng 0 xs.length := by rw [e]; simp
      unfold rng at hm
      obtain ⟨j, hj, rfl⟩ := List.mem_map.mp hm
      rw [List.mem_range] at hj
      have hz : xs[j]? = some xs[j] := List.getElem?_eq_getElem hj
      have ha : atI xs (0 + (j : Int)) = some xs[j] := by rw [Int.zero_add]; exact atI_nat hz
      have g1 : gIx x (.int (0 + (j : Int))) = ok xs[j] := by
        rcases hx with rfl | rfl
        · show (match atI xs (0 + (j : Int)) with | some d => ok d | none => none) = _; rw [ha]
        · show (match atI xs (0 + (j : Int)) with | some d => ok d | none => none) = _; rw [ha]
      have f1 : fSame k [xs[j], xs[j]] = ok (.bl true) := fSame_self (pl_at hp hz) (Nat.lt_of_le_of_lt (dep_at hz) hd)
      refine ⟨[some (.sh x), some (.sh x), some (.sh (.int (0 + (j : Int))))], [some (.sh x), some (.sh x), some (.sh (.int (0 + (j : Int))))], rfl, .inl ?_, _, rfl⟩
      have e1 : app (fSame k) (aCons (b2 gIx (look 0) (look 2)) (aCons (b2 gIx (look 1) (look 2)) aNil)) [some (.sh x), some (.sh x), some (.sh (.int (0 + (j : Int))))] = ok (.bl true) := by
        show bnd (bnd (gIx x (.int (0 + (j : Int)))) fun a => bnd (bnd (bnd (ok x) fun x' => bnd (ok (.int (0 + (j : Int)))) fun y => gIx x' y) fun b => bnd (ok []) fun r => ok (b :: r)) fun r => ok (a :: r)) (fSame k) = _
        rw [g1]
        show bnd (bnd (bnd (gIx x (.int (0 + (j : Int)))) fun b => ok [b]) fun r => ok (xs[j] :: r)) (fSame k) = _
        rw [g1]
        exact f1
      show sSeq (sIf (notB (test _)) _ _) _ _ = _
      unfold sSeq sIf notB test
      rw [e1]
      rfl)
  exact ⟨o', by rw [h1, h2]⟩
theorem same_seq {k : Nat} {x : D} {xs : List D} (hx : x = .tup xs ∨ x = .lst xs) (hl : xs.length ≤ 100000) (hp : plL xs = true) (hd : depL xs < k) : fnRes (denSame (fSame k) [some (.sh x), some (.sh x), none]) = ok (.bl true) := by
  obtain ⟨o', h⟩ := same_loop hx hp hd none
  have hj : ((xs.length : Nat) : Int) < 2 ^ 62 ∧ -(2 ^ 62) ≤ ((xs.length : Nat) : Int) := by omega
  have e : sForR1 (f1 lenD (look 1)) (gN 2) (sSeq (sIf (notB (test (app (fSame k) (aCons (b2 gIx (look 0) (look 2)) (aCons (b2 gIx (look 1) (look 2)) aNil))))) (sSeq (sRet (con (.bl false))) sNil) sNil) sNil) [some (.sh x), some (.sh x), none] = some (.nx [some (.sh x), some (.sh x), o']) := by
    have e1 : f1 lenD (look 1) [some (.sh x), some (.sh x), none] = ok (.int xs.length) := by rcases hx with rfl | rfl <;> rfl
    rw [sForR1_ok e1 hj.1 hj.2, Int.toNat_natCast]
    exact h
  have d1 : sIf (orB (testB (b2 gNe (isi "tuple" (look 1)) (isi "tuple" (look 0)))) (testB (b2 gNe (isi "list" (look 1)) (isi "list" (look 0))))) (sSeq (sRet (con (.bl false))) sNil) sNil [some (.sh x), some (.sh x), none] = some (.nx [some (.sh x), some (.sh x), none]) := by
    rcases hx with rfl | rfl <;> rfl
  have d3 : sIf (testB (b2 gNe (f1 lenD (look 0)) (f1 lenD (look 1)))) (sSeq (sRet (con (.bl false))) sNil) sNil [some (.sh x), some (.sh x), none] = some (.nx [some (.sh x), some (.sh x), none]) := by
    rcases hx with rfl | rfl <;> simp [sIf, testB, b2, f1, lenD, look, gNe, eqF, bnd, ok, lft, blOf, SV.cur, sNil]
  have d4 : test (isi2 ["tuple", "list"] (look 1)) [some (.sh x), some (.sh x), none] = ok true := by rcases hx with rfl | rfl <;> rfl
  unfold denSame
  rw [sSeq_nx d1]
  have d5 : ∀ G, sSeq (sIf (test (isi2 ["tuple", "list"] (look 1))) (sSeq (sIf (testB (b2 gNe (f1 lenD (look 0)) (f1 lenD (look 1)))) (sSeq (sRet (con (.bl false))) sNil) sNil) (sSeq (sForR1 (f1 lenD (look 1)) (gN 2) (sSeq (sIf (notB (test (app (fSame k) (aCons (b2 gIx (look 0) (look 2)) (aCons (b2 gIx (look 1) (look 2)) aNil))))) (sSeq (sRet (con (.bl false))) sNil) sNil) sNil)) (sSeq (sRet (con (.bl true))) sNil))) sNil) G [some (.sh x), some (.sh x), none] = some (.rt (.bl true)) := by
    intro G
    apply sSeq_rt
    rw [sIf_t d4, sSeq_nx d3, sSeq_nx e]
    rfl
  rw [d5]
  rfl
theorem same_den {k : Nat} (N : List Str) (hN : N.length = 3) : ∀ ds r, fSame (k + 1) ds = some r → ∃ d, r = .ok d ∧ fnRes (denSame (fSame k) (rho0 N ds)) = ok d := by
  intro ds r h
  unfold fSame at h
  split at h
  · rename_i x y
    split at h
    · rename_i hh
      obtain ⟨rfl, hp, hd⟩ := hh
      have e := Option.some.inj h
      subst e
      refine ⟨.bl true, rfl, ?_⟩
      have e0 : rho0 N [x, x] = [some (.sh x), some (.sh x), none] := by unfold rho0; rw [hN]; rfl
      rw [e0]
      cases x with
      | non => rfl
      | bl b => cases b <;> rfl
      | int i =>
        simp [denSame, sSeq, sIf, sRet, testB, b2, gNe, gIs, gEq, eqF, isi, isi2, look, lft, bnd, orB, andV, blOf, test, tru, tyN, isB, kitL, fnRes, SV.cur, ok, con, isNon, sNil]
      | str i =>
        simp [denSame, sSeq, sIf, sRet, testB, b2, gNe, gIs, gEq, eqF, isi, isi2, look, lft, bnd, orB, andV, blOf, test, tru, tyN, isB, kitL, fnRes, SV.cur, ok, con, isNon, sNil]
      | obj C fs => simp [D.pl] at hp
      | dk kvs => simp [D.pl] at hp
      | dt kvs => simp [D.pl] at hp
      | exc C => simp [D.pl] at hp
      | set ss => simp [D.pl] at hp
      | tup xs =>
        simp only [D.pl, Bool.and_eq_true, decide_eq_true_eq] at hp
        exact same_seq (.inl rfl) hp.1 hp.2 (by simp only [D.dep] at hd; omega)
      | lst xs =>
        simp only [D.pl, Bool.and_eq_true, decide_eq_true_eq] at hp
        exact same_seq (.inr rfl) hp.1 hp.2 (by simp only [D.dep] at hd; omega)
    · cases h
  · cases h
end L2.PU
namespace L2.PU
open PySem PySem.Spec PyProof.Rows
open Classical in
noncomputable def tt (S : List D → Prop) : List D → M D := fun ds => if S ds then ok (.bl true) else none
theorem tt_ok {S : List D → Prop} {ds : List D} (h : S ds) : tt S ds = ok (.bl true) := by unfold tt; rw [if_pos h]
theorem tt_inv {S : List D → Prop} {ds : List D} {r : Except Addr D} (h : tt S ds = some r) : S ds ∧ r = .ok (.bl true) := by
  unfold tt at h
  split at h
  · rename_i q; exact ⟨q, (Option.some.inj h).symm⟩
  · cases h
theorem intBits_le {a : Int} {k : Nat} (h : a.natAbs < 2 ^ k) : Builtin.Int.intBits a ≤ k := by
  unfold Builtin.Int.intBits
  split
  · exact Nat.zero_le _
  · rename_i q
    have hz : a.natAbs ≠ 0 := by intro z; apply q; simp_all
    have := (Nat.log2_lt hz).mpr h
    omega
theorem mulB_of {i j : Int} (hi : i.natAbs < 2 ^ 1048576) (hj : j.natAbs < 2 ^ 1048576) : mulB i j = true := by
  unfold mulB
  rw [Bool.and_eq_true]
  exact ⟨decide_eq_true (intBits_le hi), decide_eq_true (intBits_le hj)⟩
theorem pow_line {n m k : Nat} (h : n < 2 ^ m) (q : m ≤ k) : n < 2 ^ k := Nat.lt_of_lt_of_le h (Nat.pow_le_pow_right (by decide) q)
noncomputable def fAt : List D → M D
  | [.lst xs, .int k] => if 0 ≤ k then (if k < xs.length then (match xs[k.toNat]? with | some d => ok d | none => none) else ok (.int 0)) else none
  | _ => none
theorem fAt_len : ∀ ds r, fAt ds = some r → ds.length = 2 := by
  intro ds r h
  unfold fAt at h
  split at h
  · rfl
  · cases h
noncomputable def atZ (ns : List Int) (k : Nat) : Int := ns.getD k 0
theorem fAt_ints (ns : List Int) (k : Nat) : fAt [.lst (ns.map D.int), .int k] = ok (.int (atZ ns k)) := by
  show (if 0 ≤ (k : Int) then (if (k : Int) < (ns.map D.int).length then (match (ns.map D.int)[((k : Int)).toNat]? with | some d => ok d | none => none) else ok (.int 0)) else none) = _
  rw [if_pos (by omega), Int.toNat_natCast, List.length_map]
  unfold atZ
  by_cases h : k < ns.length
  · rw [if_pos (by omega), List.getElem?_map, List.getElem?_eq_getElem h]
    simp [List.getD_eq_getElem?_getD, List.getElem?_eq_getElem h]
  · rw [if_neg (by omega)]
    simp [List.getD_eq_getElem?_getD, List.getElem?_eq_none (Nat.le_of_not_lt h)]
noncomputable def denAt : Rho → Option Out :=
    (sSeq (sIf (testB (b2 gLt (look 1) (f1 lenD (look 0)))) (sSeq (sRet (b2 gIx (look 0) (look 1)))
    sNil) sNil)
    (sSeq (sRet (con (.int 0)))
    sNil))
theorem at_den (N : List Str) (hN : N.length = 2) : ∀ ds r, fAt ds = some r → ∃ d, r = .ok d ∧ fnRes (denAt (rho0 N ds)) = ok d := by
  intro ds r h
  unfold fAt at h
  split at h
  · rename_i xs k
    have e0 : rho0 N [.lst xs, .int k] = [some (.sh (.lst xs)), some (.sh (.int k))] := by unfold rho0; rw [hN]; rfl
    rw [e0]
    split at h
    · rename_i h0
      split at h
      · rename_i hk
        split at h
        · rename_i d hd
          cases h
          refine ⟨d, rfl, ?_⟩
          have t1 : testB (b2 gLt (look 1) (f1 lenD (look 0))) [some (.sh (.lst xs)), some (.sh (.int k))] = ok true := by
            show ok (decide (k < (xs.length : Int))) = ok true
            rw [decide_eq_true hk]
          have t2 : b2 gIx (look 0) (look 1) [some (.sh (.lst xs)), some (.sh (.int k))] = ok d := by
            show (match atI xs k with | some d => ok d | none => none) = ok d
            have e : k = ((k.toNat : Nat) : Int) := by omega
            have : atI xs k = some d := by rw [e]; exact atI_nat hd
            rw [this]
          unfold denAt
          rw [sSeq_rt (d := d)]
          · rfl
          · rw [sIf_t t1, sSeq_rt (sRet_ok t2)]
        · cases h
      · rename_i hk
        cases h
        refine ⟨_, rfl, ?_⟩
        have t1 : testB (b2 gLt (look 1) (f1 lenD (look 0))) [some (.sh (.lst xs)), some (.sh (.int k))] = ok false := by
          show ok (decide (k < (xs.length : Int))) = ok false
          rw [decide_eq_false hk]
        unfold denAt
        rw [sSeq_nx (ρ' := [some (.sh (.lst xs)), some (.sh (.int k))])]
        · rfl
        · rw [sIf_f t1]; rfl
    · cases h
  · cases h
end L2.PU
namespace L2.PU
open PySem PySem.Spec PyProof.Rows
theorem appM_ok {m : Str} {FM : Addr → Option (List D → M D)} {fo : Rho → M D} {g : Rho → M (List D)} {ρ : Rho} {C : Addr} {fs : List (Str × D)} {F : List D → M D} {ds : List D} (h1 : fo ρ = ok (.obj C fs)) (h2 : FM C = some F) (h3 : fs.lookup m = none) (h4 : g ρ = ok ds) :
    appM m FM fo g ρ = F (.obj C fs :: ds) := by
  unfold appM
  rw [h1, bnd_ok]
  dsimp only
  rw [h2, h3]
  dsimp only
  rw [h4, bnd_ok]
theorem fld_ok {cs : Addr → Bool} {f : Str} {fo : Rho → M D} {ρ : Rho} {C : Addr} {fs : List (Str × D)} {d : D} (h1 : fo ρ = ok (.obj C fs)) (h2 : cs C = true) (h3 : fs.lookup f = some d) : fld cs f fo ρ = ok d := by
  unfold fld
  rw [h1, bnd_ok]
  dsimp only
  rw [if_pos h2, h3]
theorem app_ok {F : List D → M D} {g : Rho → M (List D)} {ρ : Rho} {ds : List D} (h : g ρ = ok ds) : app F g ρ = F ds := by
  unfold app; rw [h, bnd_ok]
theorem aCons_ok {f : Rho → M D} {g : Rho → M (List D)} {ρ : Rho} {d : D} {ds : List D} (h1 : f ρ = ok d) (h2 : g ρ = ok ds) : aCons f g ρ = ok (d :: ds) := by
  unfold aCons; rw [h1, bnd_ok, h2, bnd_ok]
theorem aNil_ok {ρ : Rho} : aNil ρ = ok [] := rfl
theorem mkT_ok {g : Rho → M (List D)} {ρ : Rho} {ds : List D} (h : g ρ = ok ds) (hl : ds.length ≤ 1000 := by simp) : mkT g ρ = ok (.tup ds) := by
  unfold mkT; rw [h, bnd_ok, if_pos hl]
theorem mkL_ok {g : Rho → M (List D)} {ρ : Rho} {ds : List D} (h : g ρ = ok ds) (hl : ds.length ≤ 1000 := by simp) : mkL g ρ = ok (.lst ds) := by
  unfold mkL; rw [h, bnd_ok, if_pos hl]
theorem b2_ok {g : D → D → M D} {fa fb : Rho → M D} {ρ : Rho} {x y : D} {r : M D} (h1 : fa ρ = ok x) (h2 : fb ρ = ok y) (h3 : g x y = r) : b2 g fa fb ρ = r := by
  unfold b2; rw [h1, bnd_ok, h2, bnd_ok, h3]
theorem test_ok {f : Rho → M D} {ρ : Rho} {d : D} {b : Bool} (h : f ρ = ok d) (q : tru d = ok b) : test f ρ = ok b := by unfold test; rw [h, bnd_ok, q]
theorem notB_ok {f : Rho → M Bool} {ρ : Rho} {b : Bool} (h : f ρ = ok b) : notB f ρ = ok (!b) := by unfold notB; rw [h, bnd_ok]
theorem pass_not {f : Rho → M D} {F : Rho → Option Out} {ρ : Rho} (h : f ρ = ok (.bl true)) : sIf (notB (test f)) F sNil ρ = some (.nx ρ) := by
  rw [sIf_f (notB_ok (test_ok h rfl))]; rfl
end L2.PU
namespace L2.PU
open PySem PySem.Spec PyProof.Rows
theorem fn_none {P : Program} {w : World} {K : PySem.W.Frag} {mg : Str → Option Value} {base : Heap} {k : Nat} {f : Addr} {fd : FuncData} {ps : List Str} {F : List D → M D} (h : ∀ ds, F ds = none) : FnD P w K mg base k f fd ps F := by
  have no : ∀ vs H Q E, ¬ spD K ps.length F vs H Q E := fun vs H Q E ⟨ds, _, _, q⟩ => by rw [h ds] at q; exact q
  exact ⟨fun vs H Q E q => absurd q (no vs H Q E), fun A outer s H args us vs Q E _ _ _ _ q => absurd q (no vs H Q E)⟩
end L2.PU
namespace L2.PU
open PySem PySem.Spec PyProof.Rows
noncomputable def num (c : Int) : Int := if c % 3 = 0 then c / 3 % 4 else if c % 3 = 1 then c / 3 % 100000000000000000000 * 1000000000000000000000000000000000000000 + c % 7 else c / 3 % 1000000000000000000000000000000000000000000000000000000000000
theorem num_lo (c : Int) : 0 ≤ num c ∧ num c < 1000000000000000000000000000000000000000000000000000000000000 := by
  unfold num
  split
  · omega
  · split <;> omega
noncomputable def fNumber : List D → M D
  | [.int c] => ok (.int (num c))
  | _ => none
theorem p60 : (10 : Int) ^ (60 : Int).toNat = 1000000000000000000000000000000000000000000000000000000000000 := by decide
theorem mul_small {i j : Int} (h1 : 0 ≤ i) (h2 : i < 1000000000000000000000000000000000000000000000000000000000000) (h3 : 0 ≤ j) (h4 : j < 1000000000000000000000000000000000000000000000000000000000000) : mulB i j = true := by
  have q : ∀ z : Int, 0 ≤ z → z < 1000000000000000000000000000000000000000000000000000000000000 → z.natAbs < 2 ^ 1048576 := fun z a b => pow_line (m := 200) (by omega) (by decide)
  exact mulB_of (q i h1 h2) (q j h3 h4)
theorem fNumber_len : ∀ ds r, fNumber ds = some r → ds.length = 1 := by
  intro ds r h
  unfold fNumber at h
  split at h
  · rfl
  · cases h
end L2.PU
namespace L2.PU
open PySem PySem.Spec PyProof.Rows
noncomputable abbrev cxC (X : Cx) (scope : Scope) (cl : List (Str × Addr)) (N : List Str) (C : Addr) (s₀ : Shared) (H₀ : Hp) (ex : List Addr) : Cx :=
  { X with env := compEnvC scope cl C X.env, N := N, s₀ := s₀, H₀ := H₀, outer := X.stack, ex := ex, fn := fun _ => false, pn := [], xe := fun _ _ => False }
noncomputable def lkAll (cl : List (Str × Addr)) (env : Env) : Bool := cl.all fun p => (env.cells.lookup p.1 == some p.2) && (env.kindOf p.1 == some .cell || env.kindOf p.1 == some .free)
noncomputable def nmAll (N N' : List Str) (sc : Scope) : Bool := (List.range N.length).all fun i => match N'[i]? with
  | some x => ((N[i]? == some x) && (sc.names.lookup x == some .cell || sc.names.lookup x == some .free)) || (sc.names.lookup x == none)
  | none => false
noncomputable def frAll (cl : List (Str × Addr)) (sc : Scope) : Bool := sc.names.all fun p => (p.2 != .cell && p.2 != .free) || (cl.lookup p.1).isSome
theorem lookup_mem {α β : Type} [BEq α] [LawfulBEq α] : ∀ {l : List (α × β)} {x : α} {b : β}, l.lookup x = some b → (x, b) ∈ l
  | [], _, _, h => by simp at h
  | (y, c) :: l, x, b, h => by
    rw [List.lookup_cons] at h
    cases q : x == y with
    | true => rw [q] at h; simp at h; subst h; have := LawfulBEq.eq_of_beq q; subst this; exact List.mem_cons_self
    | false => rw [q] at h; exact List.mem_cons_of_mem _ (lookup_mem h)
theorem codeAny_compLoopG {prog : Program} {w : World} {A : Around} {R : Result → Shared → Prop} {s : Shared} {elt target iter : Expr} {ifs : List Expr} {scope : Scope} {pos : Pos} {it acc : Value} {env : Env} (I : Nat → Shared → Prop)
    (turn : ∀ n s, I n s → wpAny (model prog w) A (pyNext it) (fun r s₁ => match r with
      | none => R (.ok .next) s₁
      | some v => wpAny (model prog w) A (letOwnedTupleGo target it v) (fun _ s₁' => wpAny (model prog w) A (assign target env v) (fun _ s₂ =>
          wpAny (model prog w) A (forIn ifs true fun c r => if r = true then do let ok ← isTrue c env (eval c env); pure (ForInStep.yield ok) else pure (ForInStep.yield r)) (fun ok s₃ =>
            if ok = true then wpAny (model prog w) A (eval elt env) (fun x s₄ =>
              wpAny (model prog w) A (call (.builtin "list.append") [acc, x]) (fun _ s₅ => ∃ m, m < n ∧ I m s₅) (fun _ _ => False) s₄) (fun _ _ => False) s₃
            else ∃ m, m < n ∧ I m s₃) (fun _ _ => False) s₂) (fun _ _ => False) s₁') (fun _ _ => False) s₁) (fun _ _ => False) s)
    (n : Nat) (h : I n s) : codeAny (model prog w) A (.compLoop (.ListComp elt [⟨target, iter, ifs, 0⟩] scope pos) 0 it acc env) R s := by
  refine codeAny_loop rfl I (fun n s hI => ?_) n h
  show wpAny _ A ((compTurn (.ListComp elt [⟨target, iter, ifs, 0⟩] scope pos) 0 it acc env).onRaise (fun x => do noteFrame x env; theTreesLotGoes x)) _ _ s
  refine wpAny_noted ?_
  rw [compTurn_list]
  refine wpAny_bind (wpAny_standAt (wpAny_bind (wpAny_mono (turn n s hI) (fun r s₁ h₁ => ?_) fun _ _ h' => h'.elim)))
  cases r with
  | none => exact wpAny_pure h₁
  | some v =>
    refine wpAny_bind (wpAny_mono h₁ (fun _ s₁' h₁' => ?_) fun _ _ h' => h'.elim)
    refine wpAny_bind (wpAny_mono h₁' (fun _ s₂ h₂ => wpAny_bind (wpAny_mono h₂ (fun ok s₃ h₃ => ?_) fun _ _ h' => h'.elim)) fun _ _ h' => h'.elim)
    cases ok with
    | false => exact wpAny_pure ⟨rfl, h₃⟩
    | true =>
      exact wpAny_bind (wpAny_bind (wpAny_mono h₃ (fun x s₄ h₄ => wpAny_bind (wpAny_mono h₄ (fun _ s₅ h₅ => wpAny_pure (wpAny_pure ⟨rfl, h₅⟩)) fun _ _ h' => h'.elim)) fun _ _ h' => h'.elim))
noncomputable def PIf (X : Cx) (B : Hp) (ifs : List Expr) (ft : Rho → M Bool) : Prop := (ifs = [] ∧ ft = fun _ => ok true) ∨ ∃ c, ifs = [c] ∧ PDT X B c ft
noncomputable def setS (σ : St) : List Nat → List V → St
  | k :: ks, v :: vs => setS (σ.set k (some v)) ks vs
  | _, _ => σ
noncomputable def setR (ρ : Rho) : List Nat → List D → Rho
  | k :: ks, d :: ds => setR (ρ.set k (some (.sh d))) ks ds
  | _, _ => ρ
noncomputable def PDH (X : Cx) (tg : Expr) (ks : List Nat) (G : D → Option (List D)) : Prop :=
  PG X tg (fun v σ H Q => ∃ d es, Is X.K H d v ∧ G d = some es ∧ ∀ vs, IsL X.K H es vs → vs.length = ks.length → Q (setS σ ks vs) H)
noncomputable def cmpL (ks : List Nat) (G : D → Option (List D)) (ft : Rho → M Bool) (fe : Rho → M D) : List D → Rho → M (List D)
  | [], _ => ok []
  | d :: ds, ρ => match G d with
    | none => none
    | some es => match ft (setR ρ ks es) with
      | some (.ok true) => (match fe (setR ρ ks es) with
        | some (.ok r) => if r.imm = true then bnd (cmpL ks G ft fe ds ρ) fun rs => ok (r :: rs) else none
        | _ => none)
      | some (.ok false) => cmpL ks G ft fe ds ρ
      | _ => none
noncomputable def ext (m : Nat) (ρ : Rho) : Rho := ρ ++ List.replicate m none
noncomputable def cmp (m : Nat) (it : Rho → M (List D)) (ks : List Nat) (G : D → Option (List D)) (ft : Rho → M Bool) (fe : Rho → M D) : Rho → M D := fun ρ =>
  bnd (it ρ) fun ds => if ds.length ≤ 1000000 then bnd (cmpL ks G ft fe ds (ext m (free ρ))) fun rs => ok (.lst rs) else none
theorem cmpL_noerr {ks : List Nat} {G : D → Option (List D)} {ft : Rho → M Bool} {fe : Rho → M D} : ∀ {ds : List D} {ρ : Rho} {c : Addr}, cmpL ks G ft fe ds ρ ≠ some (.error c)
  | [], ρ, c => fun h => by cases h
  | d :: ds, ρ, c => fun h => by
    unfold cmpL at h
    split at h
    · cases h
    · split at h
      · split at h
        · split at h
          · cases q : cmpL ks G ft fe ds ρ with
            | none => rw [q] at h; cases h
            | some z =>
              cases z with
              | error c' => exact cmpL_noerr q
              | ok z => rw [q] at h; cases h
          · cases h
        · cases h
      · exact cmpL_noerr h
      · cases h
theorem immL_append : ∀ (a b : List D), immL (a ++ b) = (immL a && immL b)
  | [], b => by simp [immL]
  | d :: a, b => by
    show (d.imm && immL (a ++ b)) = ((d.imm && immL a) && immL b)
    rw [immL_append a b, Bool.and_assoc]
theorem setS_length : ∀ {ks : List Nat} {σ : St} {vs : List V}, (setS σ ks vs).length = σ.length
  | [], σ, vs => by cases vs <;> rfl
  | k :: ks, σ, [] => rfl
  | k :: ks, σ, v :: vs => by
    show (setS (σ.set k (some v)) ks vs).length = _
    rw [setS_length, List.length_set]
theorem setS_out : ∀ {ks : List Nat} {σ : St} {vs : List V} {i : Nat}, i ∉ ks → (setS σ ks vs)[i]? = σ[i]?
  | [], σ, vs, i, _ => by cases vs <;> rfl
  | k :: ks, σ, [], i, _ => rfl
  | k :: ks, σ, v :: vs, i, h => by
    show (setS (σ.set k (some v)) ks vs)[i]? = _
    rw [setS_out (fun z => h (List.mem_cons_of_mem _ z)), List.getElem?_set_ne (fun z => h (by rw [z]; exact List.mem_cons_self))]
noncomputable def Shr (K : PySem.W.Frag) (H : Hp) (ρ : Rho) (σ : St) : Prop := ρ.length = σ.length ∧ ∀ (i : Nat) (sv : SV), ρ[i]? = some (some sv) → ∃ d v, sv = .sh d ∧ σ[i]? = some (some v) ∧ Is K H d v
theorem Shr.rel {K : PySem.W.Frag} {H : Hp} {ρ : Rho} {σ : St} (h : Shr K H ρ σ) : Rel K H ρ σ H := by
  have e0 : Off H (fun _ => none) = H := by funext b; unfold Off; rw [if_neg (fun ⟨i, e⟩ => nomatch e)]
  refine ⟨fun _ => none, (by intro _ _ _ q; cases q), (by intro _ _ q; cases q), by rw [e0]; exact Same.refl _, h.1, fun i sv q => ?_⟩
  obtain ⟨d, v, rfl, e1, e2⟩ := h.2 i sv q
  exact ⟨v, e1, by rw [e0]; exact e2⟩
theorem Shr.mono {K : PySem.W.Frag} {H H' : Hp} {ρ : Rho} {σ : St} (e : Same H H') (h : Shr K H ρ σ) : Shr K H' ρ σ := ⟨h.1, fun i sv q => by
  obtain ⟨d, v, e0, e1, e2⟩ := h.2 i sv q
  exact ⟨d, v, e0, e1, e2.mono e⟩⟩
theorem Shr.free {K : PySem.W.Frag} {B H : Hp} {ρ : Rho} {σ : St} (r : Rel K B ρ σ H) : Shr K H (free ρ) σ := by
  refine ⟨?_, fun i sv q => ?_⟩
  · obtain ⟨_, _, _, _, hl, _⟩ := r.freed; exact hl
  · unfold PU.free at q
    rw [List.getElem?_map] at q
    obtain ⟨o, e1, e2⟩ := Option.map_eq_some_iff.mp q
    cases o with
    | none => cases e2
    | some sv0 =>
      have e2' : sv0.rel = sv := Option.some.inj e2
      subst e2'
      obtain ⟨v, e3, e4⟩ := r.get e1
      exact ⟨sv0.cur, v, by cases sv0 <;> rfl, e3, e4⟩
theorem Shr.more {K : PySem.W.Frag} {H : Hp} {ρ : Rho} {σ : St} (m : Nat) (h : Shr K H ρ σ) : Shr K H (ext m ρ) (σ ++ List.replicate m none) := by
  refine ⟨by unfold ext; simp [h.1], fun i sv e => ?_⟩
  have e' : ρ[i]? = some (some sv) := by
    unfold ext at e
    by_cases hi : i < ρ.length
    · rw [List.getElem?_append_left hi] at e; exact e
    · rw [List.getElem?_append_right (by omega), List.getElem?_replicate] at e
      split at e <;> cases e
  have hi : i < σ.length := by rw [← h.1]; exact (List.getElem?_eq_some_iff.mp e').1
  obtain ⟨d, v, e0, e1, e2⟩ := h.2 i sv e'
  exact ⟨d, v, e0, by rw [List.getElem?_append_left hi]; exact e1, e2⟩
theorem Shr.set {K : PySem.W.Frag} {H : Hp} {ρ : Rho} {σ : St} {k : Nat} {d : D} {v : V} (h : Shr K H ρ σ) (i : Is K H d v) : Shr K H (ρ.set k (some (.sh d))) (σ.set k (some v)) := by
  refine ⟨by rw [List.length_set, List.length_set, h.1], fun j sv e => ?_⟩
  by_cases q : j = k
  · subst q
    have hj : j < ρ.length := by
      have := (List.getElem?_eq_some_iff.mp e).1
      rwa [List.length_set] at this
    rw [List.getElem?_set_self hj] at e
    have e' := Option.some.inj (Option.some.inj e)
    exact ⟨d, v, e'.symm, List.getElem?_set_self (by rw [← h.1]; exact hj), i⟩
  · rw [List.getElem?_set_ne (Ne.symm q)] at e
    obtain ⟨d', v', e0, e1, e2⟩ := h.2 j sv e
    exact ⟨d', v', e0, by rw [List.getElem?_set_ne (Ne.symm q)]; exact e1, e2⟩
theorem Shr.setAll {K : PySem.W.Frag} {H : Hp} : ∀ {ks : List Nat} {ρ : Rho} {σ : St} {ds : List D} {vs : List V}, Shr K H ρ σ → IsL K H ds vs → Shr K H (setR ρ ks ds) (setS σ ks vs)
  | [], ρ, σ, ds, vs, h, i => by cases i <;> exact h
  | k :: ks, ρ, σ, _, _, h, .nil => h
  | k :: ks, ρ, σ, d :: ds, v :: vs, h, .cons i r => by
    show Shr K H (setR (ρ.set k (some (.sh d))) ks ds) (setS (σ.set k (some v)) ks vs)
    exact Shr.setAll (ks := ks) (h.set (k := k) i) r
section
variable {X : Cx} {B : Hp} {scope : Scope} {cl : List (Str × Addr)} {N' : List Str} {m : Nat}
theorem vis_cl {env : Env} (hf : frAll cl (relabel scope env) = true) {x : Str} {k : NameKind} (hk : (relabel scope env).names.lookup x = some k) (hc : k = .cell ∨ k = .free) : ∃ c, cl.lookup x = some c := by
  have h := List.all_eq_true.mp hf _ (lookup_mem hk)
  dsimp only at h
  rw [Bool.or_eq_true] at h
  rcases h with h | h
  · rcases hc with rfl | rfl <;> simp at h
  · exact Option.isSome_iff_exists.mp h
theorem comp_start {pins : List (Addr × Obj)} {σ : St} {H : Hp} {s : Shared} {fp : List Addr} {h₁ : Heap} {tk : Nat} (I : Inv X pins σ H s) (hkind : scope.kind = .function) (hcl : lkAll cl X.env = true) (hnm : nmAll X.N N' (relabel scope X.env) = true) (hf : frAll cl (relabel scope X.env) = true) (hl : N'.length = X.N.length + m)
    (hfp : ∀ b ∈ fp, FpOk X pins H b ∧ b < s.heap.objs.size) (hk : ∀ b o, s.heap.get? b = some o → h₁.get? b = some o) {mm : Str → Option Value} (hns : h₁.Ns s.heap.objs.size mm) :
    Inv (cxC X scope cl N' s.heap.objs.size s H fp) [] (σ ++ List.replicate m none) H { s with heap := h₁, toks := tk } := by
  have sub : ∀ x c, cl.lookup x = some c → X.env.cells.lookup x = some c ∧ (X.env.kindOf x = some .cell ∨ X.env.kindOf x = some .free) := fun x c e => by
    have h := List.all_eq_true.mp hcl _ (lookup_mem e)
    dsimp only at h
    rw [Bool.and_eq_true, Bool.or_eq_true] at h
    exact ⟨beq_iff_eq.mp h.1, h.2.elim (fun z => .inl (beq_iff_eq.mp z)) fun z => .inr (beq_iff_eq.mp z)⟩
  have frs_sub : ∀ b ∈ fp, b ∉ frs X.stack := fun b hb z => by
    rcases List.mem_cons.mp (I.stkSub b z) with e | e
    · exact (hfp b hb).1.2.1 e
    · exact (hfp b hb).1.2.2.1 e
  refine ⟨⟨I.ok.mod, hkind, I.ok.glob, I.ok.blt, Nat.le_refl _, fun x y c h1 h2 => I.ok.inj x y c (sub x c h1).1 (sub y c h2).1, fun x hx => ?_, (fun x c h => by cases h), I.ok.hd, I.ok.frames, .inl rfl, fun b hb => ?_, I.bs, Nat.le_trans I.ok.bsz I.sz, fun b o e hb => ?_, frs_sub, I.stack, I.stkFree⟩,
    rfl, I.bare, Un.kept hk, ⟨mm, hns, fun i x v h1 h2 h3 => ?_⟩, fun x c e => ?_, I.hok.fresh (Nat.le_refl _), fun x c e => I.freeC x c (sub x c e).1, (fun p hp => by cases hp), I.hok.kept hk, ?_⟩
  · rcases hx with hx | hx
    · exact vis_cl hf hx (.inl rfl)
    · exact vis_cl hf hx (.inr rfl)
  · exact ⟨Nat.ne_of_lt (hfp b hb).2, fun x c e => (hfp b hb).1.2.2.2.2.1 x c (sub x c e).1⟩
  · rcases (hfp b hb).1.2.2.2.1 with z | z
    · exact I.ok.noex b o e z
    · exact absurd (Nat.lt_of_lt_of_le (Heap.lt_size e) (Nat.le_trans I.ok.bsz z)) (Nat.lt_irrefl _)
  · -- a name of the outer def
    have hi : i < σ.length := by
      by_cases hi : i < σ.length
      · exact hi
      · rw [List.getElem?_append_right (by omega), List.getElem?_replicate] at h2
        split at h2 <;> cases h2
    rw [List.getElem?_append_left hi] at h2
    have hiN : i < X.N.length := by rw [← I.len]; exact hi
    have hn := List.all_eq_true.mp hnm i (List.mem_range.mpr hiN)
    (try dsimp only at h1)
    (try dsimp only at hn)
    rw [h1] at hn
    (try dsimp only at hn)
    rw [Bool.or_eq_true] at hn
    have hvis : ∃ k, (relabel scope X.env).names.lookup x = some k := by
      rcases h3 with h | h | h
      · exact ⟨_, h⟩
      · exact ⟨_, h⟩
      · exact ⟨_, h⟩
    obtain ⟨kx, hkx⟩ := hvis
    rcases hn with hn | hn
    · rw [Bool.and_eq_true, Bool.or_eq_true] at hn
      have hXN : X.N[i]? = some x := beq_iff_eq.mp hn.1
      have hcf : (relabel scope X.env).names.lookup x = some .cell ∨ (relabel scope X.env).names.lookup x = some .free := hn.2.elim (fun z => .inl (beq_iff_eq.mp z)) fun z => .inr (beq_iff_eq.mp z)
      obtain ⟨c, hc⟩ : ∃ c, cl.lookup x = some c := hcf.elim (fun z => vis_cl hf z (.inl rfl)) fun z => vis_cl hf z (.inr rfl)
      obtain ⟨m0, hm0, lk⟩ := I.loc
      have hk0 := (sub x c hc).2
      obtain ⟨u, ru, lu⟩ := lk i x v hXN h2 (hk0.elim (fun z => .inr (.inl z)) fun z => .inr (.inr z))
      refine ⟨u, ru, .inr ⟨hcf, c, hc, ?_⟩⟩
      rcases lu with ⟨z1, _⟩ | ⟨_, c', e1, o, ho, hd⟩
      · rcases hk0 with z | z <;> rw [z] at z1 <;> cases z1
      · rw [(sub x c hc).1] at e1
        cases e1
        exact ⟨o, hk _ _ ho, hd⟩
    · have e := beq_iff_eq.mp hn
      rw [hkx] at e; cases e
  · obtain ⟨v, z⟩ := I.cell x c (sub x c e).1
    obtain ⟨o, ho, hd⟩ := z
    exact ⟨v, o, hk _ _ ho, hd⟩
  · show (σ ++ List.replicate m none).length = N'.length
    rw [List.length_append, List.length_replicate, I.len, hl]
variable {x : Str} {tg iter elt : Expr} {ifs : List Expr} {pos : Pos} {ks : List Nat} {G : D → Option (List D)} {ft : Rho → M Bool} {fe : Rho → M D} {it : Rho → M (List D)}
noncomputable def PIt (X : Cx) (B : Hp) (tg iter : Expr) (it : Rho → M (List D)) : Prop :=
  ∀ (pins : List (Addr × Obj)) (s : Shared) (σ : St) (H : Hp) (R : It → Hp → Prop) (ρ : Rho), Inv X pins σ H s → Rel X.K B ρ σ H →
    Res X σ H (fun ds => ∀ J H1, Same H H1 → ItD X.K J ds H1 → R J H1) (it ρ) →
    wpAny (model X.prog X.w) X.A (eval iter X.env) (fun v s1 => wpAny (model X.prog X.w) X.A (pyIter v) (PIE X pins σ tg R) X.xe s1) X.xe s
noncomputable def OutC (X : Cx) (pins : List (Addr × Obj)) (C : Addr) : Prop := (C ∈ X.ex ∨ X.s₀.heap.objs.size ≤ C) ∧ C ≠ X.env.locals ∧ (∀ x c, X.env.cells.lookup x = some c → c ≠ C) ∧ ∀ p ∈ X.pn ++ pins, p.1 ≠ C
theorem comp_core (hclos : closureFor scope X.env = pure cl) (hcell : ∀ y ∈ scope.names, y.2 ≠ .cell) (hkind : scope.kind = .function) (hnames : ∀ y ∈ scope.names, y.2 = .local → scope.names.lookup y.1 = some .local) (hcl : lkAll cl X.env = true)
    (hnm : nmAll X.N N' (relabel scope X.env) = true) (hf : frAll cl (relabel scope X.env) = true) (hl : N'.length = X.N.length + m) (hks : ∀ k ∈ ks, X.N.length ≤ k) (hcm : X.calm = true) (hi : PIt X B tg iter it)
    (hg : ∀ C s₀ H₀ ex, PDH (cxC X scope cl N' C s₀ H₀ ex) tg ks G) (ht : ∀ C s₀ H₀ ex B, PIf (cxC X scope cl N' C s₀ H₀ ex) B ifs ft) (he : ∀ C s₀ H₀ ex B, PD (cxC X scope cl N' C s₀ H₀ ex) B elt fe)
    (hs : ∀ x, foldedSetIterable iter X.env x = pure x) {p0 : Pos} {use : Option (Value → Sem Unit)} {Q' : Value → Shared → Prop} {Kp : List D → Prop} {pins : List (Addr × Obj)} {s : Shared} {σ : St} {H : Hp} {ρ : Rho} (I : Inv X pins σ H s) (r : Rel X.K B ρ σ H) (h : Res X σ H (fun d => ∀ rs, d = .lst rs → Kp rs) (cmp m it ks G ft fe ρ))
    (fin : ∀ (Dd Cc : Addr) (s3 : Shared) (Hj : Hp) (rs : List D), (∀ h', Heap.SameBut Cc s3.heap h' → Inv X pins σ Hj { s3 with heap := h' }) → (∃ m, s3.heap.Ns Cc m) → OutC X pins Cc → Hj Cc = none → Same H Hj → Is X.K Hj (.lst rs) (.ref Dd) → Kp rs →
      compPost (model X.prog X.w) X.A X.xe use Q' (.ref Dd) Cc (.ok .next) s3) :
    wpAny (model X.prog X.w) X.A (comprehension (.ListComp elt [⟨tg, iter, ifs, 0⟩] scope pos) scope X.env p0 (newList []) false (eval iter X.env) use) Q' X.xe s := by
  refine wpAny_comprehension_free (use := use) rfl hs hclos hkind hnames ?_
  show wpAny (model X.prog X.w) X.A (eval iter X.env) _ X.xe s
  refine thn (hi pins s σ H (fun J H1 => ∃ ds, Same H H1 ∧ ItD X.K J ds H1 ∧ ds.length ≤ 1000000 ∧ ∃ rs, cmpL ks G ft fe ds (ext m (free ρ)) = ok rs ∧ Kp rs) ρ I r ((Res.bind h).imp fun ds h1 J H1 e1 i1 => ?_)) fun v s1 h1 => thn h1 fun itv s2 h2 => ?_
  · split at h1
    · rename_i hlen
      refine ⟨ds, e1, i1, hlen, ?_⟩
      have h2 := Res.bind h1
      cases q : cmpL ks G ft fe ds (ext m (free ρ)) with
      | none => rw [q] at h2; exact False.elim h2
      | some z =>
        cases z with
        | error c => exact absurd q cmpL_noerr
        | ok rs => rw [q] at h2; exact ⟨rs, rfl, h2 rs rfl⟩
    · exact False.elim h1
  obtain ⟨ia, fp, tn, J, H2, rfl, I2, T, st2, f2, ds, e1, hJ, hlen, rs, hrs, hQ⟩ := h2
  have shr2 : Shr X.K H2 (ext m (free ρ)) (σ ++ List.replicate m none) := ((Shr.free r).mono e1).more m
  have fpl : ∀ b ∈ fp, b < s2.heap.objs.size := fun b hb => let ⟨o, ho, _⟩ := T.obj 0 _ st2 b hb; Heap.lt_size ho
  refine wpAny_newObj_type (wpAny_newFunctionEnv hcell (by intro y hy; simp at hy) (fun h₁ hns₁ hsb₁ => ?_) hkind)
  dsimp only at hns₁ hsb₁ ⊢
  have I0 : Inv X pins σ (upd H2 s2.heap.objs.size (.lst [])) { s2 with heap := s2.heap.push { cls := .type "list", dict := none, data := .seq ([] : List Value).toArray } } := I2.lnew (t' := s2.toks) (its := []) .nil (Nat.zero_le _)
  have hsz : (s2.heap.push { cls := .type "list", dict := none, data := .seq ([] : List Value).toArray }).objs.size = s2.heap.objs.size + 1 := Heap.size_push _ _
  generalize hP : s2.heap.push { cls := .type "list", dict := none, data := .seq ([] : List Value).toArray } = P2 at hns₁ hsb₁ I0 hsz ⊢
  generalize hD : s2.heap.objs.size = Dd at *
  generalize hC : P2.objs.size = Cc at *
  have neDC : Dd ≠ Cc := by omega
  have hk01 : ∀ b o, P2.get? b = some o → h₁.get? b = some o := fun b o e => hsb₁.extBut b o (Nat.ne_of_lt (by rw [← hC]; exact Heap.lt_size e)) (Heap.get?_push_of_some _ e)
  have hk2P : ∀ b o, s2.heap.get? b = some o → P2.get? b = some o := fun b o e => by rw [← hP]; exact Heap.get?_push_of_some _ e
  have nD2 : H2 Dd = none := I2.hok.fresh (by omega)
  have nC2 : H2 Cc = none := I2.hok.fresh (by omega)
  have sm0 : Same H2 (upd H2 Dd (.lst [])) := same_new nD2 _
  have fp0 : ∀ b ∈ fp, FpOk X pins (upd H2 Dd (.lst [])) b ∧ b < P2.objs.size := fun b hb => by
    have hb' := fpl b hb
    obtain ⟨f0, f1⟩ := f2 b hb
    exact ⟨⟨by rw [upd_ne (Nat.ne_of_lt hb')]; exact f0, f1⟩, by rw [hC, hsz]; exact Nat.lt_succ_of_lt hb'⟩
  have IC := comp_start (tk := s2.toks + ([] : List (Str × Value)).length) I0 hkind hcl hnm hf hl fp0 hk01 (by rw [hC]; exact hns₁)
  rw [hC] at IC
  have loop : ∀ s₄ : Shared, s₄ = { s2 with heap := h₁, toks := s2.toks + ([] : List (Str × Value)).length } →
      codeAny (model X.prog X.w) X.A (.compLoop (.ListComp elt [⟨tg, iter, ifs, 0⟩] scope pos) 0 (.ref ia) (.ref Dd) (compEnvC scope cl Cc X.env)) (compPost (model X.prog X.w) X.A X.xe use Q' (.ref Dd) Cc) s₄ := by
    rintro s₄ rfl
    refine codeAny_compLoopG (fun n s' => ∃ j Hj vs rj rest, n = ds.length + 1 - j ∧ j ≤ ds.length ∧ Inv (cxC X scope cl N' Cc { s2 with heap := P2 } (upd H2 Dd (.lst [])) fp) [] (σ ++ List.replicate m none) Hj s' ∧ tn j s'.heap ∧ (∀ b ∈ fp, Hj b = none) ∧
      Hj Dd = some (.lst vs) ∧ IsL X.K Hj rj vs ∧ immL rj = true ∧ rj.length ≤ j ∧ Same H2 Hj ∧ cmpL ks G ft fe (ds.drop j) (ext m (free ρ)) = ok rest ∧ rs = rj ++ rest) ?_ (ds.length + 1)
      ⟨0, _, [], [], rs, rfl, Nat.zero_le _, IC, T.keep _ _ _ st2 fun b hb o e => hk01 _ _ (hk2P _ _ e), fun b hb => (fp0 b hb).1.1, upd_same, .nil, rfl, Nat.le_refl _, sm0, by simpa using hrs, rfl⟩
    rintro n s' ⟨j, Hj, vs, rj, rest, rfl, hj, IJ, stj, frj, hDj, ilj, imj, hlj, smj, hrest, hrs'⟩
    have fpX : ∀ {H' : Hp}, (∀ b ∈ fp, H' b = none) → ∀ b ∈ fp, FpOk (cxC X scope cl N' Cc { s2 with heap := P2 } (upd H2 Dd (.lst [])) fp) [] H' b := fun hn b hb =>
      ⟨hn b hb, (IJ.ok.exf b hb).1, IJ.ok.exfs b hb, .inl hb, (IJ.ok.exf b hb).2, (fun p hp => by cases hp)⟩
    by_cases hlt : j < ds.length
    · have hd : ds.drop j = ds[j] :: ds.drop (j + 1) := List.drop_eq_getElem_cons hlt
      rw [hd] at hrest
      obtain ⟨q0, q1, q2, q3⟩ : (∃ es, G ds[j] = some es) ∧ True ∧ True ∧ True := by
        refine ⟨?_, trivial, trivial, trivial⟩
        cases q : G ds[j] with
        | none => unfold cmpL at hrest; rw [q] at hrest; cases hrest
        | some es => exact ⟨es, rfl⟩
      obtain ⟨es, hG⟩ := q0
      unfold cmpL at hrest
      rw [hG] at hrest
      dsimp only at hrest
      refine thn (T.item (cxC X scope cl N' Cc { s2 with heap := P2 } (upd H2 Dd (.lst [])) fp) rfl rfl rfl hcm j [] s' _ Hj (fun _ _ => False) IJ (fpX frj) stj (hJ.go j Hj smj hlt)) fun r s3 ⟨u, hr, h4⟩ => ?_
      subst hr
      refine thn h4 fun _ s5 ⟨xv, H5, I5, r5, y5, st5, fr5⟩ => ?_
      obtain ⟨e5, d, e6, e7⟩ := hJ.yld j Hj xv H5 smj y5 hlt
      replace hDj := e5 _ _ hDj
      replace ilj := IsL.mono e5 ilj
      replace smj := smj.trans e5
      have ed : ds[j] = d := by rw [List.getElem?_eq_getElem hlt] at e6; exact Option.some.inj e6
      rw [ed] at hG
      have I5' := I5.pinned (fpX fr5) (T.obj _ _ st5)
      rw [List.nil_append] at I5'
      refine thn (hg Cc { s2 with heap := P2 } (upd H2 Dd (.lst [])) fp _ s5 _ H5 xv u (fun σ6 H6 => H6 = H5 ∧ ∃ vs', IsL X.K H5 es vs' ∧ σ6 = setS (σ ++ List.replicate m none) ks vs') I5' r5 ⟨d, es, e7, hG, fun vs' iv' _ => ⟨rfl, vs', iv', rfl⟩⟩) fun _ s6 ⟨σ6, H6, I6, q6⟩ => ?_
      obtain ⟨rfl, vs', iv', rfl⟩ := q6
      have rel6 : Rel X.K H6 (setR (ext m (free ρ)) ks es) (setS (σ ++ List.replicate m none) ks vs') H6 := (Shr.setAll (shr2.mono smj) iv').rel
      have turn : ∀ (s7 : Shared) (H7 : Hp) (vs7 : List V) (r7 rest7 : List D), Inv (cxC X scope cl N' Cc { s2 with heap := P2 } (upd H2 Dd (.lst [])) fp) (pinsAt fp s5.heap) (setS (σ ++ List.replicate m none) ks vs') H7 s7 → H7 Dd = some (.lst vs7) → IsL X.K H7 r7 vs7 → immL r7 = true → r7.length ≤ j + 1 → Same H2 H7 →
          cmpL ks G ft fe (ds.drop (j + 1)) (ext m (free ρ)) = ok rest7 → rs = r7 ++ rest7 → ∃ k, k < ds.length + 1 - j ∧ ∃ j' Hj vs rj rest, k = ds.length + 1 - j' ∧ j' ≤ ds.length ∧ Inv (cxC X scope cl N' Cc { s2 with heap := P2 } (upd H2 Dd (.lst [])) fp) [] (σ ++ List.replicate m none) Hj s7 ∧ tn j' s7.heap ∧ (∀ b ∈ fp, Hj b = none) ∧
          Hj Dd = some (.lst vs) ∧ IsL X.K Hj rj vs ∧ immL rj = true ∧ rj.length ≤ j' ∧ Same H2 Hj ∧ cmpL ks G ft fe (ds.drop j') (ext m (free ρ)) = ok rest ∧ rs = rj ++ rest := by
        intro s7 H7 vs7 r7 rest7 I7 a1 a2 a3 a4 a5 a6 a7
        have pin : ∀ b ∈ fp, ∀ o, s5.heap.get? b = some o → s7.heap.get? b = some o ∧ H7 b = none := fun b hb o e =>
          let z := I7.pin (b, o) (List.mem_append_right _ (mem_pinsAt hb e)); ⟨z.1, z.2.1⟩
        refine ⟨ds.length + 1 - (j + 1), by omega, j + 1, H7, vs7, r7, rest7, rfl, hlt, ?_, T.keep _ _ _ st5 fun b hb o e => (pin b hb o e).1, fun b hb => ?_, a1, a2, a3, a4, a5, a6, a7⟩
        · have I8 : Inv (cxC X scope cl N' Cc { s2 with heap := P2 } (upd H2 Dd (.lst [])) fp) [] (setS (σ ++ List.replicate m none) ks vs') H7 s7 := I7.pins_of (fun p hp => by cases hp)
          refine I8.weak (by rw [setS_length]) fun i v e => ?_
          rw [setS_out]
          · exact e
          · intro hi
            have := hks i hi
            rw [List.getElem?_append_right (by rw [I2.len]; exact this), List.getElem?_replicate] at e
            split at e <;> cases e
        · obtain ⟨o, ho, _⟩ := T.obj _ _ st5 b hb
          exact (pin b hb o ho).2
      have tst : wpAny (model X.prog X.w) X.A (forIn ifs true fun c r => if r = true then do let ok ← isTrue c (compEnvC scope cl Cc X.env) (eval c (compEnvC scope cl Cc X.env)); pure (ForInStep.yield ok) else pure (ForInStep.yield r))
          (fun bb s7 => ∃ H7, Inv (cxC X scope cl N' Cc { s2 with heap := P2 } (upd H2 Dd (.lst [])) fp) (pinsAt fp s5.heap) (setS (σ ++ List.replicate m none) ks vs') H7 s7 ∧ Same H6 H7 ∧ ft (setR (ext m (free ρ)) ks es) = ok bb) (fun _ _ => False) s6 := by
        rcases ht Cc { s2 with heap := P2 } (upd H2 Dd (.lst [])) fp H6 with ⟨rfl, hft⟩ | ⟨c, rfl, hft⟩
        · exact wpAny_tests_nil ⟨H6, I6, Same.refl _, by rw [hft]⟩
        · cases qt : ft (setR (ext m (free ρ)) ks es) with
          | none => rw [qt] at hrest; cases hrest
          | some z =>
            cases z with
            | error ce => rw [qt] at hrest; cases hrest
            | ok bb =>
              refine wpAny_tests_one (thn (hft _ s6 _ H6 (fun b H7 => Same H6 H7 ∧ b = bb) I6 ⟨_, rel6, by rw [qt]; exact fun H7 e => ⟨e, rfl⟩⟩) fun b s7 ⟨H7, I7, e, eb⟩ => ?_)
              subst eb
              exact ⟨H7, I7, e, rfl⟩
      refine thn tst fun bb s7 ⟨H7, I7, sm7, hbb⟩ => ?_
      rw [hbb] at hrest
      cases bb with
      | false =>
        rw [if_neg (by decide)]
        exact turn s7 H7 vs rj rest I7 (sm7 _ _ hDj) (ilj.mono sm7) imj (by omega) (smj.trans sm7) hrest hrs'
      | true =>
        rw [if_pos rfl]
        dsimp only [ok] at hrest
        cases qe : fe (setR (ext m (free ρ)) ks es) with
        | none => rw [qe] at hrest; cases hrest
        | some z =>
          cases z with
          | error ce => rw [qe] at hrest; cases hrest
          | ok rr =>
            rw [qe] at hrest
            dsimp only at hrest
            split at hrest
            · rename_i him
              obtain ⟨rest', er, er2⟩ := bnd_eq_ok hrest
              have er3 := ok_inj er2
              refine thn (he Cc { s2 with heap := P2 } (upd H2 Dd (.lst [])) fp H6 _ s7 _ H7 (fun v H8 => Same H7 H8 ∧ Is X.K H8 rr v) I7 ⟨_, rel6.mono sm7, by rw [qe]; exact fun v H8 e i => ⟨e, i⟩⟩) fun u8 s8 ⟨v8, H8, I8, rv8, sm8, i8⟩ => ?_
              have hD8 : H8 Dd = some (.lst vs) := sm8 _ _ (sm7 _ _ hDj)
              have hlv : vs.length = rj.length := ilj.length.symm
              have il8 := (ilj.mono sm7).mono sm8
              have al : ∀ o, (∀ b xs, H8 b = some (.tup xs) → upd H8 Dd (.lst o) b = some (.tup xs)) ∧ (∀ b oo u, H8 b = some (.frz oo u) → upd H8 Dd (.lst o) b = some (.frz oo u)) := fun o =>
                ⟨fun b xs e => by rw [upd_ne (fun z => by subst z; rw [hD8] at e; cases e)]; exact e, fun b oo u e => by rw [upd_ne (fun z => by subst z; rw [hD8] at e; cases e)]; exact e⟩
              refine thn (mt_append _ s8 _ H8 (.ref Dd) [v8] (.ref Dd) [u8] (fun v9 H9 => H9 = upd H8 Dd (.lst (vs ++ [v8]))) I8 rfl (.cons rv8 .nil) ⟨Dd, vs, v8, rfl, rfl, hD8, by have := sizeLine_eq; omega, rfl⟩) fun u9 s9 ⟨v9, H9, I9, _, e9⟩ => ?_
              subst e9
              refine turn s9 _ (vs ++ [v8]) (rj ++ [rr]) rest' I9 upd_same ((IsL.alike (al _).1 (al _).2 imj il8).append (.cons (Is.alike (al _).1 (al _).2 him i8) .nil)) ?_ (by rw [List.length_append]; simp only [List.length_cons, List.length_nil]; omega) ?_ er (by rw [hrs', ← er3, List.append_assoc]; rfl)
              · rw [immL_append, imj]
                show (rr.imm && true) = true
                rw [him]
                rfl
              · intro b o e
                rw [upd_ne (ne_of_none e nD2)]
                exact sm8 _ _ (sm7 _ _ (smj _ _ e))
            · cases hrest
    · have ej : j = ds.length := by omega
      subst ej
      rw [List.drop_eq_nil_of_le (Nat.le_refl _)] at hrest
      have er := ok_inj hrest
      refine thn (T.done (cxC X scope cl N' Cc { s2 with heap := P2 } (upd H2 Dd (.lst [])) fp) rfl rfl rfl hcm ds.length [] s' _ Hj (fun _ _ => False) IJ (fpX frj) stj (hJ.stop _ Hj smj (Nat.le_refl _))) fun r s3 ⟨hr, I3⟩ => ?_
      subst hr
      obtain ⟨mm, hmm, _⟩ := I3.loc
      have nCj : Hj Cc = none := I3.free
      have zC := I2.fpOk (b := Cc) (H' := H2) (by rw [hD, hsz]; exact Nat.le_succ _) nC2
      have ers : rs = rj := by rw [hrs', ← er, List.append_nil]
      refine fin Dd Cc s3 Hj rs ?_ ⟨mm, hmm⟩ ⟨zC.2.2.2.1, zC.2.1, zC.2.2.2.2.1, zC.2.2.2.2.2⟩ nCj (e1.trans smj) (.lst (SqL.of hDj) (by rw [ers]; exact ilj)) hQ
      intro h' hsb
      have U1 : Un (frs X.stack) (Cc :: fp) H2 (upd H2 Dd (.lst [])) s2.heap P2 := Un.laid hk2P (by rw [hD]; exact Nat.le_refl _) nD2
      have U2 : Un (frs X.stack) (Cc :: fp) (upd H2 Dd (.lst [])) Hj P2 s3.heap := I3.base.mono (fun _ z => z) (fun b z => List.mem_cons_of_mem _ z)
      have kp : ∀ b o, b ≠ Cc → s3.heap.get? b = some o → h'.get? b = some o := fun b o hb e => hsb.extBut b o hb e
      have nc : ∀ b, b ∉ Cc :: fp → b ≠ Cc := fun b hb z => hb (by rw [z]; exact List.mem_cons_self)
      have U3 : Un (frs X.stack) (Cc :: fp) Hj Hj s3.heap h' := ⟨fun b o e _ _ hx => kp b o (nc b hx) e, fun b o e _ _ hx => ⟨o.slots, kp b o (nc b hx) e⟩, fun _ _ _ n _ => n, fun b o e hx => ⟨o, kp b o (nc b hx) e⟩, fun _ _ e => e, fun _ _ _ e => e, fun b ps e => ⟨#[], by rw [e]; simp⟩⟩
      have hok' : HOk X.prog X.w Hj h' := fun b u e => (I3.hok b u e).stay (fun c v hc q => kp c v (fun z => by
        rcases hc with hc | hc
        · rw [hc] at z; rw [z, nCj] at e; cases e
        · rw [z, nCj] at hc; cases hc) q) (fun _ q => q) fun _ _ q => q
      have IX : Inv X pins σ Hj { s3 with heap := h' } := I2.call' (ch := Cc :: fp) I3.os ((U1.trans U2).trans U3) hok' I3.bare fun b hb => by
        rcases List.mem_cons.mp hb with rfl | hb
        · have z := I2.fpOk (b := b) (H' := H2) (by rw [hD, hsz]; exact Nat.le_succ _) nC2
          exact ⟨z.2.2.2.1, z.2.1, z.2.2.2.2.1, z.2.2.2.2.2⟩
        · obtain ⟨z0, z1, z2, z3, z4, z5⟩ := f2 b hb
          exact ⟨z3, z1, z4, z5⟩
      exact IX
  exact codeAny_compStart_list (loop _ rfl) (T.self _ 0 _ _ _ (T.keep _ _ _ st2 fun b hb o e => hk01 _ _ (hk2P _ _ e)) (loop _ rfl))
theorem pd_comp (hclos : closureFor scope X.env = pure cl) (hcell : ∀ y ∈ scope.names, y.2 ≠ .cell) (hkind : scope.kind = .function) (hnames : ∀ y ∈ scope.names, y.2 = .local → scope.names.lookup y.1 = some .local) (hcl : lkAll cl X.env = true)
    (hnm : nmAll X.N N' (relabel scope X.env) = true) (hf : frAll cl (relabel scope X.env) = true) (hl : N'.length = X.N.length + m) (hks : ∀ k ∈ ks, X.N.length ≤ k) (hcm : X.calm = true) (hi : PIt X B tg iter it)
    (hg : ∀ C s₀ H₀ ex, PDH (cxC X scope cl N' C s₀ H₀ ex) tg ks G) (ht : ∀ C s₀ H₀ ex B, PIf (cxC X scope cl N' C s₀ H₀ ex) B ifs ft) (he : ∀ C s₀ H₀ ex B, PD (cxC X scope cl N' C s₀ H₀ ex) B elt fe)
    (hs : ∀ x, foldedSetIterable iter X.env x = pure x := by intro _; rfl) : PD X B (.ListComp elt [⟨tg, iter, ifs, 0⟩] scope pos) (cmp m it ks G ft fe) := by
  intro pins s σ H Q I h
  obtain ⟨ρ, r, h⟩ := h
  rw [eval_ListComp]
  refine comp_core (use := none) (Q' := EP X pins σ Q) (Kp := fun rs => ∀ v H', Same H H' → Is X.K H' (.lst rs) v → Q v H') hclos hcell hkind hnames hcl hnm hf hl hks hcm hi hg ht he hs I r (h.imp fun d q rs e v H' sm i => by subst e; exact q v H' sm i) ?_
  intro Dd Cc s3 Hj rs IX ⟨mm, hmm⟩ _ _ sm is hQ
  exact ⟨mm, hmm, fun h' hsb => ⟨.ref Dd, Hj, IX h' hsb, rfl, hQ _ Hj sm is⟩⟩
end
end L2.PU
namespace L2.PU
open PySem PySem.Spec PyProof.Rows
section
variable {l : List Env} {H1 H : Hp} {h1 h h5 Bs base : Heap}
theorem fly_un (un : Un (frs l) [] H1 H h1 h) (old : ∀ b o o', h1.get? b = some o' → b ∉ frs l → h.get? b = some o → Bs.get? b = some o) (st : Bs.StaysIn h5) (sl : h.UpToSlots h5) (ff : h1.FunFrames base l) (hf : ∀ b ∈ frs l, H1 b = none) :
    Un (frs l) [] H1 H h1 h5 where
  keep := fun b o q n hb hx => st b o (old b o o q hb (un.keep b o q n hb hx))
  slot := fun b o q n hb hx => by
    obtain ⟨s1, e1⟩ := un.slot b o q n hb hx
    obtain ⟨_, o2, e2, nf⟩ := ff.mem hb
    rw [q] at e2; cases e2
    obtain ⟨s2, e3⟩ := sl b _ e1 nf
    exact ⟨s2, e3⟩
  free := un.free
  there := fun b o q hx => by
    obtain ⟨o1, e1⟩ := un.there b o q hx
    by_cases hb : b ∈ frs l
    · obtain ⟨_, o2, e2, nf⟩ := ff.mem hb
      rw [q] at e2; cases e2
      obtain ⟨s1, e3⟩ := un.slot b o q (hf b hb) hb hx
      obtain ⟨s2, e4⟩ := sl b _ e3 nf
      exact ⟨_, e4⟩
    · exact ⟨o1, st b o1 (old b o1 o q hb e1)⟩
  tups := un.tups
  frzs := un.frzs
  tbls := un.tbls
end
section
variable {X : Cx} {pins : List (Addr × Obj)} {σ : St} {H H1 : Hp} {c ea : Addr} {e a0 : Value} {s s1 : Shared} {Bs h' : Heap}
theorem inv_flown (I : Inv X pins σ H1 s1) (os : s.os = s1.os) (bare : AllBare s.gens) (un : Un (frs X.stack) [] H1 H s1.heap s.heap) (old : ∀ b o o', s1.heap.get? b = some o' → b ∉ frs X.stack → s.heap.get? b = some o → Bs.get? b = some o)
    (hok : HOk X.prog X.w H Bs) (st : Bs.StaysIn h') (sl : s.heap.UpToSlots h') : Inv X pins σ H { s with heap := h' } :=
  Inv.call' (s' := { s with heap := h' }) (ch := []) I os (fly_un un old st sl I.stack I.stkFree) (hok.kept st) bare (fun b z => absurd z (by simp))
noncomputable def Left (X : Cx) (H : Hp) (c : Addr) (e : Value) (s' : Shared) : Prop :=
  ∃ ea, e = .ref ea ∧ s'.os = X.s₀.os ∧ AllBare s'.gens ∧ Un (frs X.outer) [] X.H₀ H X.s₀.heap s'.heap ∧ Fly X.prog X.w X.outer X.s₀ ea c H s'
theorem left_fin (hex : X.ex = []) (I : Inv X pins σ H1 s1) (os : s.os = s1.os) (bare : AllBare s.gens) (un : Un (frs X.stack) [] H1 H s1.heap s.heap) (old : ∀ b o o', s1.heap.get? b = some o' → b ∉ frs X.stack → s.heap.get? b = some o → Bs.get? b = some o)
    (hok : HOk X.prog X.w H Bs) (fl : Heap.FlyingW Bs X.outer ea (.ref c) a0 h') (sl : s.heap.UpToSlots h') : Left X H c (.ref ea) { s with heap := h' } := by
  have I' := inv_flown I os bare un old hok fl.1 sl
  have ib := I'.base
  rw [hex] at ib
  have ib1 := I.base
  rw [hex] at ib1
  refine ⟨ea, rfl, I'.os, I'.bare, ib, Bs, a0, fl, fun b o o' q nb eb => ?_, hok⟩
  obtain ⟨o1, e1⟩ := ib1.there b o' q (by simp)
  obtain ⟨o2, e2⟩ := un.there b o1 e1 (by simp)
  have nb' : b ∉ frs X.stack := fun z => by
    rcases List.mem_cons.mp (I.stkSub b z) with y | y
    · have := Nat.lt_of_lt_of_le (Heap.lt_size q) I.ok.above
      rw [y] at this
      exact absurd this (Nat.lt_irrefl _)
    · exact nb y
  have e3 := old b o2 o1 e1 nb' e2
  have e4 := fl.1 b o2 e3
  have eb' : h'.get? b = some o := eb
  rw [eb'] at e4
  cases e4
  exact e3
theorem leave_ok (hst : X.stack = X.env :: X.outer) (hf : X.env.frame = some X.env.locals) (hex : X.ex = []) {Q : Unit → Shared → Prop} {E : Value → Shared → Prop} (x : Exc X pins σ H c e s) (k : ∀ s', Left X H c e s' → Q () s') :
    wpAny (model X.prog X.w) X.A (leaving X.env e) Q E s := by
  obtain ⟨ea, rfl, ⟨h, args, hm, I⟩ | ⟨s1, H1, I, os, bare, un, Bs, a0, fl, old, hok⟩⟩ := x
  · have ff : h.FunFrames X.base X.stack := I.stack
    refine wpAny_leaves_madeW (base := PySem.W.hideAll h (frs X.stack)) (h := h) (by rw [I.ok.frames, hst]) hf (fun b o q => PySem.W.of_hideAll _ q) (by rw [← hst]; exact PySem.W.funFrames_hide ff fun env he a ha => List.mem_filterMap.mpr ⟨env, he, ha⟩) hm fun h' t x1 x2 x3 x4 => k _ ?_
    refine left_fin (s1 := { s with heap := h }) hex I rfl I.bare (Un.kept hm.keeps) (fun b o o' q nb eb => ?_) (fun a o ea' => ?_) x1 x4
    · have := hm.keeps b o' q
      rw [eb] at this
      cases this
      exact PySem.W.hideAll_get _ q nb
    · refine (I.hok a o ea').stay (fun b u hb q => PySem.W.hideAll_get _ q fun z => ?_) (fun _ q => q) fun _ _ q => q
      have hn := I.stkFree b z
      rcases hb with rfl | hb
      · rw [hn] at ea'; cases ea'
      · rw [hn] at hb; cases hb
  · have fl' : Heap.FlyingW Bs (X.env :: X.outer) ea (.ref c) a0 s.heap := by rw [← hst]; exact fl
    refine wpAny_leaves_onW (by rw [I.ok.frames, hst]) hf fl' fun h' x1 x2 => k _ (left_fin hex I os bare un old hok x1 x2)
end
section
variable {P : Program} {w : World} {K : PySem.W.Frag} {mg : Str → Option Value} {base : Heap}
noncomputable abbrev cxX (P : Program) (w : World) (K : PySem.W.Frag) (mg : Str → Option Value) (base : Heap) (N : List Str) (qual : Str) (scope : Scope) (f : Addr) (cd : Value) (A : Around) (outer : List Env) (s : Shared) (H : Hp) (E : XK) : Cx :=
  cxOf (CXD P w) P w K mg base N qual scope f cd A outer s H E
theorem xe_ok {N : List Str} {qual : Str} {scope : Scope} {f : Addr} {cd : Value} {A : Around} {outer : List Env} {s₀ : Shared} {H₀ : Hp} {E : XK} {pins : List (Addr × Obj)} {σ : St} {H : Hp} {c : Addr} {e : Value} {s : Shared}
    (x : Exc (cxX P w K mg base N qual scope f cd A outer s₀ H₀ E) pins σ H c e s) (hE : E (.ref c) none H) : (cxX P w K mg base N qual scope f cd A outer s₀ H₀ E).xe e s := by
  refine leave_ok (X := cxX P w K mg base N qual scope f cd A outer s₀ H₀ E) rfl rfl rfl x fun s' hl => ?_
  obtain ⟨ea, e1, e2, e3, e4, e5⟩ := hl
  exact ⟨c, ea, H, e1, e2, e3, e4, e5, hE⟩
noncomputable def iniResX (a C dx : Addr) : Option Out → M (List (Str × D))
  | some (.ex c _) => err c
  | o => iniRes a C dx o
theorem init_X {x qual : Str} {st : Stmt} {f C : Addr} {fd : FuncData} {N ps : List Str} {k : Nat} {F : List D → M (List (Str × D))} (Fu : Fun K x qual st f fd) (S : FnScope N ps (defScope st)) (hL : ∀ ds r, F ds = some r → ds.length + 1 = ps.length)
    (hbody : ∀ (cdv : Value) (A : Around) (outer : List Env) (s : Shared) (H : Hp) (E : XK), Room k (A.deeper (envOfC qual (defScope st) s.heap.objs.size f cdv)) →
      ∃ F', (∀ B, PDB (cxX P w K mg base N qual (defScope st) f cdv A outer s H E) B (defBody st) F') ∧ ∀ ds r a dx, F ds = some r → iniResX a C dx (F' (rhoI N a C dx ds)) = some r) : FnOk P w K mg base (CXD P w) (k + 1) f fd ps (spI K C ps.length F) := by
  obtain ⟨oc, od, kV, doc, pm, an, cdv, ct, osl, rfl, lk, hcd⟩ := Fu.ex
  refine fn_of lk hcd S (fun vs H Q E ⟨a, dx, ws, ds, _, _, _, _, hl, _⟩ => hl) fun A outer s H vs Q E hr hsp => ?_
  obtain ⟨F', hF, hq⟩ := hbody cdv A outer s H E hr
  obtain ⟨a, dx, ws, ds, rfl, ha, hd, i, hl, h⟩ := hsp
  refine ⟨_, hF (hid H a), ?_⟩
  have hn : ps.length ≤ N.length := by have := congrArg List.length S.pre; rw [List.length_take] at this; omega
  cases q : F ds with
  | none => rw [q] at h; exact False.elim h
  | some r =>
    rw [q] at h
    have e := hq ds r a dx q
    refine ⟨rhoI N a C dx ds, rel_startI ha hd i (by rw [i.length]; rw [List.length_cons] at hl; omega), ?_⟩
    cases qf : F' (rhoI N a C dx ds) with
    | none => rw [qf] at e; cases e
    | some o =>
      rw [qf] at e
      cases o with
      | ex c ρ => cases e; exact fun pins s' σ' H' ev r' x => xe_ok x (h H' r'.kept)
      | rt d => cases e
      | bk ρ => cases e
      | ct ρ => cases e
      | nx ρ =>
        change iniRes a C dx (some (.nx ρ)) = some r at e
        unfold iniRes at e
        split at e
        · rename_i a' C' dx' fs' rest qf'
          cases qf'
          split at e
          · rename_i hh
            obtain ⟨rfl, rfl, rfl⟩ := hh
            cases e
            intro σ' H' r'
            obtain ⟨O, g1, go, g2, gl, g3⟩ := r'
            obtain ⟨z1, z2, z3, vs', z4, z5⟩ := g3 0 _ rfl
            exact h H' vs' z4 (z5.mono (Off.same _ _)) (g2.trans (Off.same _ _))
          · cases e
        · cases e
end
theorem exc_obj {K : PySem.W.Frag} {h : Heap} {C : Addr} {bmB : List Value} {nid : String} (kin : K.In h) (q : PySem.W.excIn K C bmB nid = true) :
    ∃ tl N nm qn bs hd sn sub ab col dd k0 k1 k2 k3 k5 mN, h.get? C = some (excClassObj nm qn C N bs tl hd sn sub ab col dd k0 k1 k2 k3 k5 nid) ∧ h.Ns N mN ∧ mN "__init__" = none ∧ OwnTail h bmB tl := by
  unfold PySem.W.excIn at q
  split at q
  · rename_i d1 c1 s1 lk
    split at q
    · rename_i C2 tl j0 j1 j2 j3 n2 j5 em es
      rw [Bool.and_eq_true, Bool.and_eq_true, Bool.and_eq_true, Bool.and_eq_true, Bool.and_eq_true] at q
      obtain ⟨⟨⟨⟨⟨a1, a2⟩, a3⟩, a4⟩, a5⟩, a6⟩ := q
      have b1 := beq_iff_eq.mp a1
      have b2 := beq_iff_eq.mp a2
      have b6 := beq_iff_eq.mp a6
      have b3 : c1.hasDel = false := by simpa using a3
      cases c1 with
      | mk nm bs mro ns qn hd sn sub ab col del =>
        have b1' : C2 = C := b1
        have b2' : n2 = nid := b2
        have b3' : del = false := b3
        have em' : mro = .ref C2 :: tl := em
        have e5 : s1 = #[j0, j1, j2, j3, some (.builtin n2), j5] := by
          cases s1 with
          | mk li => exact congrArg Array.mk es
        rw [e5, em', b3', b1', b2'] at lk
        exact ⟨tl, ns, nm, qn, bs, hd, sn, sub, ab, col, d1, j0, j1, j2, j3, j5, _, kin _ _ lk, .of_isNs (PySem.W.isNs_of_in kin a5), PySem.W.nsMap_none_of_in kin a5 b6, PySem.W.tail_of_in kin a4⟩
    · exact nomatch q
  · exact nomatch q
section
variable {X : Cx} {B : Hp} {e : Expr} {es : List Expr} {ga : Rho → M (List D)} {np cpos pos : Pos} {x : Str} {C : Addr} {bmB : List Value} {nid iid B0 : String}
noncomputable def sRaise (C : Addr) (g : Rho → M (List D)) : Rho → Option Out := fun ρ => lft (g ρ) ρ fun ds => if ds.length ≤ 1000 then some (.ex C ρ) else none
theorem pds_raise (FB : ExcBaseFacts B0 nid iid bmB) (hq : PySem.W.excIn X.K C bmB nid = true) (hm : X.mg x = some (.ref C)) (hg : Gl X x) (hc : X.calm = true) (ha : PDA X B (e :: es) ga) (hdb : (x == ("__debug__" : Str)) = false := by decide)
    (he : starEach (e :: es) X.env = (false, eval e X.env) :: starEach es X.env := by exact star_ok rfl) (hpl : (backTo cpos (starEach es X.env)).any (·.1) = false := by rfl) : PDS X B (.Raise (some (.Call (.Name x np) (e :: es) [] cpos)) none pos) (sRaise C ga) := by
  intro pins s σ H E I h
  obtain ⟨ρ, r, h⟩ := h
  obtain ⟨tl, N, nm, q, bs, hd, sn, sub, ab, col, dd, k0, k1, k2, k3, k5, mN, hC, hN, hni, T⟩ := exc_obj (h := X.base) I.ok.mod.kin hq
  refine wpAny_Raise_call_subT (C := C) (nm := nm) (q := q) (N := N) (bs := bs) (bm := tl) (hdct := hd) (sn := sn) (sub := sub) (ab := ab) (col := col) (dd := dd) (k0 := k0) (k1 := k1) (k2 := k2) (k3 := k3) (k5 := k5)
    FB (mN := mN) (T.hasType FB.hasBase) (I.ok.hd hc) (by rw [he]; show (false || (backTo cpos (starEach es X.env)).any (·.1)) = false; rw [hpl]; rfl) hni (ld_glob I hg hm ⟨rfl, ?_⟩ hdb)
  have hx := ha cpos pins s σ H (fun vs H1 => vs.length ≤ 1000 ∧ Same H H1 ∧ Good X B E (.ex C ρ)) I ⟨ρ, r, (lft_red r h).imp fun ds h1 vs H1 e1 i1 => by
    split at h1
    · rename_i hl; exact ⟨by rw [← i1.length]; exact hl, e1, h1⟩
    · exact False.elim h1⟩
  rw [he] at hx ⊢
  refine Calls.evalArgs_plain (wpAny_mono hx (fun us s2 ⟨vs, H2, I2, rv, hl, e2, gd⟩ => ⟨rfl, by show us.length ≤ sizeLine; rw [← rv.length]; exact le_line hl, I2.bk _ _ hC, hN.keeps I2.bk, T.keeps I2.bk, fun h' ea hm' => ?_⟩) fun _ _ y => y)
  exact gd pins { s2 with heap := h' } σ H2 (.ref ea) (r.mono e2) ⟨ea, rfl, .inl ⟨s2.heap, us, hm', I2⟩⟩
end
end L2.PU
namespace L2.PU
open PySem PySem.Spec PyProof.Rows
theorem isx_true {K : PySem.W.Frag} {a C : Addr} {c : Value} (e : PySem.W.kitOne K (.ref C) c = some true) : Answers (fun s => K.In s.heap ∧ excAt a C s.heap) (.ref a) c true := by
  intro dp tk P w A R s ⟨⟨kin, o, ho, hc⟩, hq⟩
  cases s with
  | mk h0 g d tt os =>
    have lt : PySem.W.Looks (model P w) h0 (typeOf (.ref a)) (.ref C) := by rw [← hc]; exact (PySem.W.Looks.ld ho).andThen .now
    unfold PySem.W.kitOne at e
    by_cases q : (Value.ref C == c) = true
    · unfold Builtin.«isinstance.nested»
      refine wpAny_bind (lt.at ?_)
      simp only [q, if_true]
      first | exact wpAny_bind (wpAny_rule (wpAny_pure (hq tt))) | exact wpAny_bind (wpAny_rule (hq tt)) | exact wpAny_pure (hq tt)
    · simp only [q] at e
      obtain ⟨h1, h2, h3⟩ := PySem.W.kit_cls (M := model P w) kin e
      have li : PySem.W.Looks (model P w) h0 (isInstance (.ref a) c) true := lt.andThen h3
      unfold Builtin.«isinstance.nested»
      refine wpAny_bind (lt.at ?_)
      simp only [q]
      refine wpAny_bind (h1.at ?_)
      simp only [beq_self_eq_true, if_true]
      k_delta "plainIsInstance"
      refine wpAny_bind (wpAny_bind (h2.at ?_))
      simp only [Bool.not_true, Bool.false_eq_true, if_false]
      refine wpAny_bind (li.at ?_)
      simp only [if_true]
      first | exact wpAny_pure (hq tt) | exact wpAny_pure (wpAny_pure (hq tt)) | exact wpAny_bind (wpAny_pure (wpAny_pure (hq tt)))
section
variable {X : Cx} {B : Hp} {e : Expr} {fa : Rho → M D} {pos p p2 : Pos}
noncomputable def exs (m : Addr → Bool) (f : Rho → M D) : Rho → M D := fun ρ => bnd (f ρ) fun d => match d with
  | .exc C => if m C = true then ok (.bl true) else none
  | _ => none
theorem call_exs {cv : Value} {c : V} {m : Addr → Bool} (rc : RelV c cv) (hu : ∀ u, RelV c u → u = cv) (hm : ∀ C, m C = true → PySem.W.kitOne X.K (.ref C) cv = some true) :
    CallR X (.builtin "isinstance") (fun xs H Q => ∃ C y, xs = [y, c] ∧ Is X.K H (.exc C) y ∧ m C = true ∧ Q (.bl true) H) := by
  intro pins s σ H xs us Q I r h
  obtain ⟨C, y, rfl, i, hC, q⟩ := h
  obtain ⟨u, w', rfl, r1, r2⟩ := vals2 r
  rw [hu _ r2]
  cases i with
  | exc hh =>
    cases r1
    obtain ⟨hx, _, _⟩ := (show ObjOk X.prog X.w H s.heap _ (.ext _) from I.hok _ _ hh)
    exact call_isinstance (S := fun _ R s => (X.K.In s.heap ∧ excAt _ C s.heap) ∧ ∀ tk, R (.ok (.ret (.bool true))) { s with toks := tk })
      (fun P w A R s hs => isinstance_outer (isx_true (hm C hC) 0 _ P w A R s hs) (fun z => nomatch z)) ⟨⟨I.kIn, hx⟩, fun tk => ⟨.bl true, H, I.tok _, rfl, q⟩⟩
theorem pd_exsT {x : Str} {T : String} {m : Addr → Bool} (hg : Gl X "isinstance") (hb : X.mg "isinstance" = none) (hg2 : Gl X x) (hm2 : X.mg x = none) (hv : bootBuiltins x = some (.type T)) (hm : ∀ C, m C = true → PySem.W.kitOne X.K (.ref C) (.type T) = some true) (ha : PD X B e fa) (hn : x ≠ "__name__" := by decide) (hd : (x == ("__debug__" : Str)) = false := by decide)
    (he : starEach [e, .Name x p2] X.env = [(false, eval e X.env), (false, eval (.Name x p2) X.env)] := by exact star2 rfl rfl) (he2 : starEach [.Name x p2] X.env = [(false, eval (.Name x p2) X.env)] := by exact star1 rfl) : PD X B (.Call (.Name "isinstance" p) [e, .Name x p2] [] pos) (exs m fa) := by
  refine PE.of (pe_callB (call_exs (c := V.ty T) rfl (fun u r => r) hm) hg hb boot_isinstance (pa_cons ha (pa_cons (pe_bltn hg2 hm2 hv (v := V.ty T) rfl hn hd) pa_nil he2) (by rw [he, he2])) (he := by rw [he, he2]) (hpl := by rw [he2]; rfl)) fun σ H Q h => ?_
  obtain ⟨ρ, r1, h⟩ := h
  refine ⟨ρ, r1, (Res.bind h).imp fun d h1 v H1 e1 i1 => ?_⟩
  split at h1
  · rename_i C
    split at h1
    · rename_i hC; exact ⟨C, v, rfl, i1, hC, h1 _ H1 e1 (.bl _)⟩
    · exact False.elim h1
  · exact False.elim h1
theorem pd_exsC {x : Str} {D : Addr} {m : Addr → Bool} (hg : Gl X "isinstance") (hb : X.mg "isinstance" = none) (hg2 : Gl X x) (hm2 : X.mg x = some (.ref D)) (hm : ∀ C, m C = true → PySem.W.kitOne X.K (.ref C) (.ref D) = some true) (ha : PD X B e fa) (hd : (x == ("__debug__" : Str)) = false := by decide)
    (he : starEach [e, .Name x p2] X.env = [(false, eval e X.env), (false, eval (.Name x p2) X.env)] := by exact star2 rfl rfl) (he2 : starEach [.Name x p2] X.env = [(false, eval (.Name x p2) X.env)] := by exact star1 rfl) : PD X B (.Call (.Name "isinstance" p) [e, .Name x p2] [] pos) (exs m fa) := by
  refine PE.of (pe_callB (call_exs (c := V.ref D) rfl (fun u r => r) hm) hg hb boot_isinstance (pa_cons ha (pa_cons (pe_glob hg2 hm2 (v := V.ref D) rfl hd) pa_nil he2) (by rw [he, he2])) (he := by rw [he, he2]) (hpl := by rw [he2]; rfl)) fun σ H Q h => ?_
  obtain ⟨ρ, r1, h⟩ := h
  refine ⟨ρ, r1, (Res.bind h).imp fun d h1 v H1 e1 i1 => ?_⟩
  split at h1
  · rename_i C
    split at h1
    · rename_i hC; exact ⟨C, v, rfl, i1, hC, h1 _ H1 e1 (.bl _)⟩
    · exact False.elim h1
  · exact False.elim h1
end
noncomputable def FlyX (X : Cx) (pins : List (Addr × Obj)) (σ : St) (H : Hp) (ea c : Addr) (s : Shared) : Prop :=
  ∃ s1 H1, Inv X pins σ H1 s1 ∧ s.os = s1.os ∧ AllBare s.gens ∧ Un (frs X.stack) [] H1 H s1.heap s.heap ∧ Fly X.prog X.w X.stack s1 ea c H s
noncomputable abbrev Cx.hand (X : Cx) (e : Value) : Cx := { X with A := X.A.mark (some e), calm := false, xe := fun _ _ => False }
section
variable {X : Cx} {pins : List (Addr × Obj)} {σ : St} {H : Hp} {c ea : Addr} {s : Shared} {e : Value}
theorem inv_hand (I : Inv X pins σ H s) (e : Value) : Inv (Cx.hand X e) pins σ H s :=
  ⟨⟨I.ok.mod, I.ok.kind, I.ok.glob, I.ok.blt, I.ok.above, I.ok.inj, I.ok.has, I.ok.cab, (fun z => Bool.noConfusion z), I.ok.frames, I.ok.stk, I.ok.exf, I.ok.bs, I.ok.bsz, I.ok.noex, I.ok.exfs, I.ok.funs, I.ok.frf⟩, I.os, I.bare, I.base, I.loc, I.cell, I.free, I.freeC, I.pin, I.hok, I.len⟩
theorem inv_unhand (h0 : X.Ok) (I : Inv (Cx.hand X e) pins σ H s) : Inv X pins σ H s := ⟨h0, I.os, I.bare, I.base, I.loc, I.cell, I.free, I.freeC, I.pin, I.hok, I.len⟩
theorem FlyX.inv (f : FlyX X pins σ H ea c s) : Inv X pins σ H s := by
  obtain ⟨s1, H1, I, os, bare, un, Bs, a0, fl, old, hok⟩ := f
  exact Inv.call' (ch := []) I os un (hok.kept fl.1) bare (fun b z => absurd z (by simp))
theorem FlyX.moved {h' : Heap} {s1 : Shared} {H1 : Hp} {Bs : Heap} {a0 : Value} (I : Inv X pins σ H1 s1) (os : s.os = s1.os) (bare : AllBare s.gens) (un : Un (frs X.stack) [] H1 H s1.heap s.heap)
    (old : ∀ b o o', s1.heap.get? b = some o' → b ∉ frs X.stack → s.heap.get? b = some o → Bs.get? b = some o) (hok : HOk X.prog X.w H Bs) (fl : Heap.FlyingW Bs X.stack ea (.ref c) a0 h') (sl : s.heap.UpToSlots h') : FlyX X pins σ H ea c { s with heap := h' } := by
  refine ⟨s1, H1, I, os, bare, fly_un un old fl.1 sl I.stack I.stkFree, Bs, a0, fl, fun b o o' q nb eb => ?_, hok⟩
  obtain ⟨o2, e2⟩ := un.there b o' q (by simp)
  have e3 := old b o2 o' q nb e2
  have e4 := fl.1 b o2 e3
  have eb' : h'.get? b = some o := eb
  rw [eb'] at e4
  cases e4
  exact e3
theorem FlyX.lands (f : FlyX X pins σ H ea c s) {A : Around} {Q : Unit → Shared → Prop} {E : Value → Shared → Prop} (k : ∀ h', FlyX X pins σ H ea c { s with heap := h' } → Q () { s with heap := h' }) : wpAny (model X.prog X.w) A (setFlight (.ref ea) none) Q E s := by
  obtain ⟨s1, H1, I, os, bare, un, Bs, a0, fl, old, hok⟩ := f
  exact lands_againW fl fun h' x1 x2 => k h' (FlyX.moved I os bare un old hok x1 x2)
theorem FlyX.looks (hst : X.stack = X.env :: X.outer) (hf : X.env.frame = some X.env.locals) (f : FlyX X pins σ H ea c s) {Q : Unit → Shared → Prop} {E : Value → Shared → Prop} (k : ∀ h', FlyX X pins σ H ea c { s with heap := h' } → Q () { s with heap := h' }) :
    wpAny (model X.prog X.w) X.A (noteFrame (.ref ea) X.env) (fun _ s2 => wpAny (model X.prog X.w) X.A (setFlight (.ref ea) none) Q E s2) E s := by
  obtain ⟨s1, H1, I, os, bare, un, Bs, a0, fl, old, hok⟩ := f
  have fl' : Heap.FlyingW Bs (X.env :: X.outer) ea (.ref c) a0 s.heap := by rw [← hst]; exact fl
  refine wpAny_looks_onW (by rw [I.ok.frames, hst]) hf fl' fun h4 x1 x2 => wpAny_landsW x1 fun h5 y1 y2 => k h5 ?_
  rw [← hst] at y1
  exact FlyX.moved I os bare un old hok y1 (x2.trans y2)
theorem FlyX.at_ (f : FlyX X pins σ H ea c s) : excAt ea c s.heap := by
  obtain ⟨s1, H1, I, os, bare, un, Bs, a0, fl, old, hok⟩ := f
  exact fl.there
theorem objOk_there {P : Program} {w : World} {H : Hp} {h : Heap} {a : Addr} {o : HO} (x : ObjOk P w H h a o) : ∃ u, h.get? a = some u := by
  cases o with
  | lst xs => obtain ⟨_, _, _, _, e⟩ := x; exact ⟨_, e⟩
  | tup xs => obtain ⟨_, _, _, o, e, _⟩ := x; exact ⟨_, e⟩
  | dK kvs => obtain ⟨_, _, _, _, o, _, _, e, _⟩ := x; exact ⟨_, e⟩
  | dT kvs => obtain ⟨_, _, _, _, o, _, _, e, _⟩ := x; exact ⟨_, e⟩
  | set S n => obtain ⟨⟨o, _, _, _, e, _⟩, _⟩ := x; exact ⟨_, e⟩
  | ins C dx fs => obtain ⟨_, _, _, e, _⟩ := x; exact ⟨_, e⟩
  | own y => exact x
  | xd fs => obtain ⟨_, ⟨_, _, _, e, _⟩, _⟩ := x; exact ⟨_, e⟩
  | rng lo hi => obtain ⟨_, _, _, e⟩ := x; exact ⟨_, e⟩
  | frz ob u => obtain ⟨e, _⟩ := x; exact ⟨_, e⟩
  | tbl ps => exact ⟨_, x⟩
  | met f y => exact ⟨_, x⟩
  | ext φ => obtain ⟨_, e, _⟩ := x; exact e
theorem FlyX.track (f : FlyX X pins σ H ea c s) : H ea = none ∧ Inv X pins σ (upd H ea (.ext (excAt ea c))) s := by
  have ha := f.at_
  obtain ⟨s1, H1, I, os, bare, un, Bs, a0, fl, old, hok⟩ := f
  have hn : H ea = none := by
    cases q : H ea with
    | none => rfl
    | some o =>
      obtain ⟨u, eu⟩ := objOk_there (hok ea o q)
      rw [fl.2.1] at eu
      cases eu
  have hf : ea ∉ frs X.stack := fun z => by
    obtain ⟨_, o, eo, nf⟩ := fl.2.2.1.mem z
    obtain ⟨oe, vs, he, _, hd, _⟩ := fl.first
    rw [eo] at he
    cases he
    exact nf _ hd
  have h1 : ∀ o, s1.heap.get? ea = some o → False := fun o q => by
    obtain ⟨oe, _, he, _⟩ := fl.first
    have := old ea oe o q hf he
    rw [fl.2.1] at this
    cases this
  have sm := same_new hn (.ext (excAt ea c))
  refine ⟨hn, Inv.call' (ch := []) I os ⟨un.keep, un.slot, fun b o q n hx => ?_, un.there, fun b xs q => sm _ _ (un.tups b xs q), fun b o u q => sm _ _ (un.frzs b o u q), fun b ps q => ?_⟩ (fun b o q => ?_) bare (fun b z => absurd z (by simp))⟩
  · have nb : b ≠ ea := fun z => h1 o (by rw [← z]; exact q)
    rw [upd_ne nb]
    exact un.free b o q n hx
  · obtain ⟨more, e⟩ := un.tbls b ps q
    exact ⟨more, sm _ _ e⟩
  · by_cases nb : b = ea
    · subst nb
      rw [upd_same] at q
      cases q
      obtain ⟨o, e1, e2⟩ := ha
      exact ⟨⟨o, e1, e2⟩, ⟨o, e1⟩, fun h1 h2 ⟨o', z1, z2⟩ k => ⟨o', k o' z1, z2⟩⟩
    · rw [upd_ne nb] at q
      exact ((hok.kept fl.1) b o q).stay (fun _ _ _ z => z) (fun _ z => sm _ _ z) fun _ _ z => sm _ _ z
end
end L2.PU
namespace L2.PU
open PySem PySem.Spec PyProof.Rows
structure HD where
  m : Addr → Option Bool
  i : Nat
  G : Rho → Option Out
noncomputable def aft (i : Nat) : Option Out → Option Out
  | some (.nx ρ) => some (.nx (ρ.set i none))
  | some (.bk ρ) => some (.bk (ρ.set i none))
  | some (.ct ρ) => some (.ct (ρ.set i none))
  | some (.rt d) => some (.rt d)
  | _ => none
noncomputable def hands : List HD → Addr → Rho → Option Out
  | [], _, _ => none
  | h :: r, c, ρ => match h.m c with
    | some true => aft h.i (h.G (ρ.set h.i (some (.sh (.exc c)))))
    | some false => hands r c ρ
    | none => none
noncomputable def sTry (F : Rho → Option Out) (hs : List HD) : Rho → Option Out := fun ρ => match F ρ with
  | some (.ex c ρ') => hands hs c ρ'
  | o => o
section
variable {X : Cx} {pins : List (Addr × Obj)} {σ : St} {H B : Hp} {s : Shared} {ρ : Rho}
theorem Rel.unset {K : PySem.W.Frag} {i : Nat} (r : Rel K B ρ σ H) : Rel K B (ρ.set i none) (σ.set i none) H := by
  obtain ⟨O, h1, ho, h2, hl, h3⟩ := r
  have hO : ∀ (j : Nat) (a : Addr), (if j = i then none else O j) = some a → O j = some a := fun j a q => by
    split at q
    · cases q
    · exact q
  have less : Same (Off H O) (Off H fun j => if j = i then none else O j) := Off.less fun j a q => ⟨j, hO j a q⟩
  refine ⟨fun j => if j = i then none else O j, fun j k a q1 q2 => h1 j k a (hO j a q1) (hO k a q2), fun j a q => ho j a (hO j a q), h2.trans less, by rw [List.length_set, List.length_set, hl], fun j sv q => ?_⟩
  have e : j ≠ i := fun e => by
    subst e
    by_cases hj : j < ρ.length
    · rw [List.getElem?_set_self hj] at q; cases q
    · rw [List.getElem?_eq_none (by rw [List.length_set]; omega)] at q; cases q
  rw [List.getElem?_set_ne (Ne.symm e)] at q
  have z := h3 j sv q
  cases sv with
  | sh d' => obtain ⟨v', e1, e2⟩ := z; exact ⟨v', by rw [List.getElem?_set_ne (Ne.symm e)]; exact e1, e2.mono less⟩
  | own ds => obtain ⟨a, vs, e1, e2, e3, e4⟩ := z; exact ⟨a, vs, by show (if j = i then none else O j) = some a; rw [if_neg e]; exact e1, by rw [List.getElem?_set_ne (Ne.symm e)]; exact e2, e3, e4.mono less⟩
  | oin a C dx fs => obtain ⟨e1, e2, e3, vs, e4, e5⟩ := z; exact ⟨by show (if j = i then none else O j) = some a; rw [if_neg e]; exact e1, by rw [List.getElem?_set_ne (Ne.symm e)]; exact e2, e3, vs, e4, e5.mono less⟩
  | ow o => obtain ⟨a, w, e1, e2, e3, e4⟩ := z; exact ⟨a, w, by show (if j = i then none else O j) = some a; rw [if_neg e]; exact e1, by rw [List.getElem?_set_ne (Ne.symm e)]; exact e2, e3, e4.mono less⟩
  | tk ks => obtain ⟨a, e1, e2⟩ := z; exact ⟨a, by rw [List.getElem?_set_ne (Ne.symm e)]; exact e1, less _ _ e2⟩
theorem unb_ok {i : Nat} {n : Str} {pos : Pos} {E : Value → Shared → Prop} {Q : Unit → Shared → Prop} (I : Inv X pins σ H s) (hN : X.N.Nodup) (hi : X.N[i]? = some n) (hloc : X.env.scope.names.lookup n = some .local) (k : ∀ s', Inv X pins (σ.set i none) H s' → Q () s') :
    wpAny (model X.prog X.w) X.A (do bindName X.env n .none; unbindBehindTheSuite X.env n pos) Q E s := by
  have hcls : (X.env.scope.kind == .class || (X.env.scope.kind == .module && X.env.locals != X.env.globals)) = false := by rw [I.ok.kind]; rfl
  refine wpAny_bind (wpAny_bindName (store_ok I hN hi (.inl hloc) (v := .non) rfl (fun s1 I1 => ?_) (.inr hloc)))
  have hiσ : i < σ.length := by rw [I.len]; exact (List.getElem?_eq_some_iff.mp hi).1
  obtain ⟨m, hn, hl⟩ := id I1.loc
  obtain ⟨u, ru, l⟩ := hl i n .non hi (List.getElem?_set_self hiσ) (.inl hloc)
  have hv : m n = some u := by
    rcases l with ⟨_, e⟩ | ⟨k, _⟩
    · exact e
    · have k' : X.env.scope.names.lookup n = some .cell ∨ X.env.scope.names.lookup n = some .free := k
      rw [hloc] at k'
      rcases k' with z | z <;> cases z
  unfold unbindBehindTheSuite
  refine wpAny_onRaise (wpAny_unbindName_local hloc hn hv hcls fun h' u' hn' hs => k _ ?_)
  have neL : ∀ b o, X.s₀.heap.get? b = some o → b ≠ X.env.locals := fun b o e => Nat.ne_of_lt (Nat.lt_of_lt_of_le (Heap.lt_size e) I1.ok.above)
  refine ⟨I1.ok, I1.os, I1.bare, ⟨fun b o e n hb hx => (hs.2 b (neL b o e)).trans (I1.base.keep b o e n hb hx), fun b o e n hb hx => ?_, I1.base.free, fun b o e hx => ?_, I1.base.tups, I1.base.frzs, I1.base.tbls⟩,
    ⟨_, hn', fun j y v' e1 e2 e3 => ?_⟩, fun y c e => ?_, I1.free, I1.freeC, fun p hp => ?_, fun b ob e => ?_, by rw [List.length_set]; exact I.len⟩
  · obtain ⟨sl, e1⟩ := I1.base.slot b o e n hb hx
    exact ⟨sl, (hs.2 b (neL b o e)).trans e1⟩
  · obtain ⟨o', e1⟩ := I1.base.there b o e hx
    exact ⟨o', (hs.2 b (neL b o e)).trans e1⟩
  · have hj : j ≠ i := fun z => by
      subst z
      rw [List.getElem?_set_self hiσ] at e2
      cases e2
    rw [List.getElem?_set_ne (Ne.symm hj)] at e2
    obtain ⟨w', r', q⟩ := hl j y v' e1 (by rw [List.getElem?_set_ne (Ne.symm hj)]; exact e2) e3
    refine ⟨w', r', ?_⟩
    rcases q with ⟨k1, e⟩ | ⟨k1, c, e, z⟩
    · have ny : y ≠ n := fun z => hj (nodup_ix hN e1 (z ▸ hi))
      exact .inl ⟨k1, by show (if y = n then u' else m y) = some w'; rw [if_neg ny]; exact e⟩
    · exact .inr ⟨k1, c, e, z.sameBut hs (I1.cne y c e)⟩
  · obtain ⟨w', z⟩ := I1.cell y c e
    exact ⟨w', z.sameBut hs (I1.cne y c e)⟩
  · obtain ⟨e, n0, ne, nf, d⟩ := I1.pin p hp
    exact ⟨(hs.2 p.1 ne).trans e, n0, ne, nf, d⟩
  · refine (I1.hok b ob e).stay (fun c' w' hc q => (hs.2 c' ?_).trans q) (fun _ q => q) fun _ _ q => q
    rintro rfl
    have hf := I1.free
    rcases hc with z | z
    · rw [← z, hf] at e; cases e
    · rw [hf] at z; cases z
end
noncomputable def PDHs (X : Cx) (B : Hp) (hl : List ExceptHandler) (hs : List HD) : Prop := ∀ (pins : List (Addr × Obj)) (σ : St) (H : Hp) (c ea : Addr) (s : Shared) (E : Ends) (ρ : Rho), FlyX X pins σ H ea c s → Rel X.K B ρ σ H → GoodO X B E (hands hs c ρ) →
  wpAny (model X.prog X.w) X.A (handleBy (.ref ea) X.env hl) (SP X pins E) X.xe s
section
variable {X : Cx} {B : Hp} {x n : Str} {i : Nat} {C : Addr} {np pos : Pos} {b₀ : Stmt} {body : List Stmt} {rest : List ExceptHandler} {m : Addr → Option Bool} {G : Rho → Option Out} {hs : List HD}
theorem pdh_nil : PDHs X B [] [] := fun _ _ _ _ _ _ _ _ _ _ h => False.elim h
theorem pdh_cons (hg : Gl X x) (hm2 : X.mg x = some (.ref C)) (hm : ∀ c b, m c = some b → PySem.W.exmOne X.K (.ref c) (.ref C) = some b) (hN : X.N.Nodup) (hi : X.N[i]? = some n) (hloc : X.env.scope.names.lookup n = some .local) (hb : ∀ e B, PDB (Cx.hand X e) B (b₀ :: body) G) (hr : PDHs X B rest hs)
    (hdb : (x == ("__debug__" : Str)) = false := by decide) : PDHs X B (.ExceptHandler (some (.Name x np)) (some n) (b₀ :: body) pos :: rest) (⟨m, i, G⟩ :: hs) := by
  intro pins σ H c ea s E ρ f r h
  have I := f.inv
  refine wpAny_handleBy_cons (codeAny_handlers_test (ld_glob (inv_hand I (.ref ea)) hg hm2 ?_ hdb)) (by intro q; cases q)
  unfold hands at h
  dsimp only at h
  cases q : m c with
  | none => rw [q] at h; exact False.elim h
  | some b =>
    rw [q] at h
    have lt : PySem.W.Looks (model X.prog X.w) s.heap (typeOf (.ref ea)) (.ref c) := by
      obtain ⟨o, ho, hc⟩ := f.at_
      rw [← hc]
      exact (PySem.W.Looks.ld ho).andThen .now
    refine (PySem.W.exm_one (M := model X.prog X.w) I.kIn lt (hm c b q)).here ?_
    cases b with
    | false => exact hr pins σ H c ea s E ρ f r h
    | true =>
      refine codeAny_handlers_suite_as ?_
      refine f.lands fun h6 f6 => ?_
      obtain ⟨hn, I6⟩ := f6.track
      refine store_ok (X := Cx.hand X (.ref ea)) (inv_hand I6 _) hN hi (.inl hloc) (v := V.ref ea) rfl (fun s7 I7 => ?_) (.inr hloc)
      have rel7 : Rel X.K B (ρ.set i (some (.sh (.exc c)))) (σ.set i (some (.ref ea))) (upd H ea (.ext (excAt ea c))) := by
        obtain ⟨O, h1, ho, h2, hl, h3⟩ := r.mono (same_new hn (.ext (excAt ea c)))
        refine Rel.set_sh O h1 ho h2 hl (fun j sv e _ => h3 j sv e) (.exc (Off.of upd_same fun j z => ?_))
        obtain ⟨u, w, m⟩ := ho j ea z; rw [upd_same] at w; cases w; cases m
      refine wpAny_mono (hb (.ref ea) B pins s7 _ _ { nx := fun σ' H' => E.nx (σ'.set i none) H', rt := E.rt, bk := fun σ' H' => E.bk (σ'.set i none) H', ct := fun σ' H' => E.ct (σ'.set i none) H' } I7 ⟨_, rel7, ?_⟩) (fun fl s8 hq => ?_) (fun _ _ z => False.elim z)
      · dsimp only at h
        cases qg : G (ρ.set i (some (.sh (.exc c)))) with
        | none => rw [qg] at h; exact False.elim h
        | some o =>
          rw [qg] at h
          cases o with
          | nx ρ' => exact fun σ' H' r' => h _ H' r'.unset
          | bk ρ' => exact fun σ' H' r' => h _ H' r'.unset
          | ct ρ' => exact fun σ' H' r' => h _ H' r'.unset
          | rt d => exact h
          | ex c' ρ' => exact False.elim h
      · have ok := I.ok
        show wpAny (model X.prog X.w) X.A (do bindName X.env n .none; unbindBehindTheSuite X.env n pos) (fun _ s3 => SP X pins E fl s3) X.xe s8
        cases fl with
        | next => obtain ⟨σ', H', I8, q8⟩ := hq; exact unb_ok (inv_unhand ok I8) hN hi hloc fun s9 I9 => ⟨_, _, I9, q8⟩
        | brk => obtain ⟨σ', H', I8, q8⟩ := hq; exact unb_ok (inv_unhand ok I8) hN hi hloc fun s9 I9 => ⟨_, _, I9, q8⟩
        | cont => obtain ⟨σ', H', I8, q8⟩ := hq; exact unb_ok (inv_unhand ok I8) hN hi hloc fun s9 I9 => ⟨_, _, I9, q8⟩
        | ret u => obtain ⟨v, σ', H', I8, rv, q8⟩ := hq; exact unb_ok (inv_unhand ok I8) hN hi hloc fun s9 I9 => ⟨v, _, _, I9, rv, q8⟩
noncomputable abbrev Cx.tri (X : Cx) (pins : List (Addr × Obj)) (hl : List ExceptHandler) (Q : Flow → Shared → Prop) : Cx :=
  { X with pn := X.pn ++ pins, xe := fun e s => wpAny (model X.prog X.w) X.A (noteFrame e X.env) (fun _ s2 => wpAny (model X.prog X.w) X.A (setFlight e none) (fun _ s3 => wpAny (model X.prog X.w) X.A (handleBy e X.env hl) Q X.xe s3) X.xe s2) X.xe s }
variable {pins pins' : List (Addr × Obj)} {σ : St} {H : Hp} {s : Shared} {hl : List ExceptHandler} {Q : Flow → Shared → Prop} {c ea : Addr} {e : Value}
theorem ok_tri (ok : X.Ok) : (Cx.tri X pins hl Q).Ok :=
  ⟨ok.mod, ok.kind, ok.glob, ok.blt, ok.above, ok.inj, ok.has, ok.cab, ok.hd, ok.frames, ok.stk, ok.exf, ok.bs, ok.bsz, ok.noex, ok.exfs, ok.funs, ok.frf⟩
theorem ok_untri (ok : (Cx.tri X pins hl Q).Ok) : X.Ok :=
  ⟨ok.mod, ok.kind, ok.glob, ok.blt, ok.above, ok.inj, ok.has, ok.cab, ok.hd, ok.frames, ok.stk, ok.exf, ok.bs, ok.bsz, ok.noex, ok.exfs, ok.funs, ok.frf⟩
theorem inv_tri (I : Inv X pins σ H s) : Inv (Cx.tri X pins hl Q) [] σ H s := ⟨ok_tri I.ok, I.os, I.bare, I.base, I.loc, I.cell, I.free, I.freeC, fun p hp => I.pin p (by rwa [List.append_nil] at hp), I.hok, I.len⟩
theorem inv_untri (I : Inv (Cx.tri X pins hl Q) pins' σ H s) : Inv X pins σ H s := ⟨ok_untri I.ok, I.os, I.bare, I.base, I.loc, I.cell, I.free, I.freeC, fun p hp => I.pin p (List.mem_append_left _ hp), I.hok, I.len⟩
theorem exc_looks (hst : X.stack = X.env :: X.outer) (hf : X.env.frame = some X.env.locals) (x : Exc (Cx.tri X pins hl Q) pins' σ H c e s) {R : Unit → Shared → Prop} {E : Value → Shared → Prop}
    (k : ∀ ea h', e = .ref ea → FlyX X pins σ H ea c { s with heap := h' } → R () { s with heap := h' }) :
    wpAny (model X.prog X.w) X.A (noteFrame e X.env) (fun _ s2 => wpAny (model X.prog X.w) X.A (setFlight e none) R E s2) E s := by
  obtain ⟨ea, rfl, ⟨h, args, hm, I'⟩ | ⟨s1, H1, I', os, bare, un, fl⟩⟩ := x
  · have I := inv_untri I'
    have ff : h.FunFrames X.base X.stack := I.stack
    obtain ⟨t, he, htn, ht⟩ := hm.there
    have fresh : ∀ b, h.get? b = none → (PySem.W.hideAll h (frs X.stack)).get? b = none := fun b hb => by
      cases q : (PySem.W.hideAll h (frs X.stack)).get? b with
      | none => rfl
      | some o => have := PySem.W.of_hideAll _ q; rw [hb] at this; cases this
    have fh : h.FunFrames (PySem.W.hideAll h (frs X.stack)) X.stack := PySem.W.funFrames_hide ff fun env he a ha => List.mem_filterMap.mpr ⟨env, he, ha⟩
    have fs : s.heap.FunFrames (PySem.W.hideAll h (frs X.stack)) X.stack := fh.of_keeps fun b o hb _ => ⟨o, hm.keeps b o hb, rfl⟩
    unfold noteFrame
    simp only [hf]
    refine wpAny_bind (wpAny_field he rfl (x := Value.none) rfl ?_)
    rw [if_neg (by decide)]
    have fs' : s.heap.FunFrames (PySem.W.hideAll h (frs X.stack)) (X.env :: X.outer) := hst ▸ fs
    refine wpAny_entryW (base := PySem.W.hideAll h (frs X.stack)) (a0 := .ref t) (by rw [I.ok.frames, hst]) fs' hf he (fun b o hb => hm.keeps b o (PySem.W.of_hideAll _ hb)) (fresh ea hm.new) rfl (by show 1 < 6; decide) rfl fun h4 hN => ?_
    obtain ⟨n1, n2, n3, n4⟩ := hN
    refine wpAny_landsW ⟨n1, fresh ea hm.new, n2, n3⟩ fun h5 y1' y2 => k ea h5 rfl ?_
    have y1 : Heap.FlyingW (PySem.W.hideAll h (frs X.stack)) X.stack ea (.ref c) (.ref t) h5 := by
      obtain ⟨z1, z2, z3, z4⟩ := y1'
      exact ⟨z1, z2, by rw [hst]; rw [hst] at z3; exact z3, z4⟩
    refine FlyX.moved (s1 := { s with heap := h }) I rfl I.bare (Un.kept hm.keeps) (fun b o o' q nb eb => ?_) (fun a o ea' => ?_) y1 (Heap.UpToSlots.trans n4 y2)
    · have := hm.keeps b o' q
      rw [eb] at this
      cases this
      exact PySem.W.hideAll_get _ q nb
    · refine (I.hok a o ea').stay (fun b u hb q => PySem.W.hideAll_get _ q fun z => ?_) (fun _ q => q) fun _ _ q => q
      have hn := I.stkFree b z
      rcases hb with rfl | hb
      · rw [hn] at ea'; cases ea'
      · rw [hn] at hb; cases hb
  · exact FlyX.looks hst hf ⟨s1, H1, inv_untri I', os, bare, un, fl⟩ fun h' f => k ea h' rfl f
theorem pds_try {tb : List Stmt} {F : Rho → Option Out} {h₀ : ExceptHandler} {pos : Pos} (hst : X.stack = X.env :: X.outer) (hf : X.env.frame = some X.env.locals) (hb : ∀ pins Q, PDB (Cx.tri X pins (h₀ :: hl) Q) B tb F) (hh : PDHs X B (h₀ :: hl) hs) :
    PDS X B (.Try tb (h₀ :: hl) [] [] pos) (sTry F hs) := by
  intro pins s σ H E I h
  obtain ⟨ρ, r, h⟩ := h
  refine wpAny_Try_except (wpAny_mono (hb pins (SP X pins E) [] s σ H E (inv_tri I) ⟨ρ, r, ?_⟩) (fun fl s1 q => ?_) fun e s1 z => z)
  · unfold sTry at h
    cases q : F ρ with
    | none => rw [q] at h; exact False.elim h
    | some o =>
      rw [q] at h
      cases o with
      | nx ρ' => exact h
      | rt d => exact h
      | bk ρ' => exact h
      | ct ρ' => exact h
      | ex c ρ' => exact fun pins' s' σ' H' e r' x => exc_looks hst hf x fun ea h' ee f => by subst ee; exact hh pins σ' H' c ea _ E ρ' f r' h
  · cases fl with
    | next => obtain ⟨σ', H', I', q'⟩ := q; exact wpAny_execs_nil ⟨σ', H', inv_untri I', q'⟩
    | brk => obtain ⟨σ', H', I', q'⟩ := q; exact ⟨σ', H', inv_untri I', q'⟩
    | cont => obtain ⟨σ', H', I', q'⟩ := q; exact ⟨σ', H', inv_untri I', q'⟩
    | ret u => obtain ⟨v, σ', H', I', rv, q'⟩ := q; exact ⟨v, σ', H', inv_untri I', rv, q'⟩
end
end L2.PU
namespace L2.PU
open PySem PySem.Spec PyProof.Rows
section
variable {X : Cx} {B : Hp} {k v : Expr} {fk fv : Rho → M D} {pos : Pos}
end
end L2.PU
namespace L2.PU
open PySem PySem.Spec PyProof.Rows
section
variable {X : Cx} {B : Hp} {tg iter c : Expr} {fa : Rho → M D} {ft : Rho → M Bool} {pos p : Pos} {x y : Str} {k k2 : Nat}
noncomputable def itE (f : Rho → M D) : Rho → M (List D) := fun ρ => bnd (f ρ) itD
theorem pit_D (h : PD X B iter fa) : PIt X B tg iter (itE fa) := by
  intro pins s σ H R ρ I r q
  refine pi_D (tg := tg) h pins s σ H R I ⟨ρ, r, (Res.bind q).imp fun d q1 v H1 e1 i1 => ?_⟩
  cases i1 with
  | lst hh rr => exact .inl ⟨_, rfl, ⟨_, hh⟩, q1 _ H1 e1 (itd_list hh rr)⟩
  | tup hh rr => exact .inr ⟨_, rfl, ⟨_, hh.sq⟩, q1 _ H1 e1 (itd_tup hh rr)⟩
  | _ => exact False.elim q1
noncomputable def h1 : D → Option (List D) := fun d => some [d]
theorem pdn_1 (hN : X.N.Nodup) (hi : X.N[k]? = some x) (hx : Loc X.env.scope x) (hf : X.fn x = true ∨ X.env.scope.names.lookup x = some .local := by first | exact .inl rfl | exact .inr rfl | assumption) : PDH X (.Name x pos) [k] h1 := by
  intro pins s σ H v u Q I r h
  obtain ⟨d, es, i, e, q⟩ := h
  cases e
  exact pg_name hN hi hx hf pins s σ H v u Q I r (q [v] (.cons i .nil) rfl)
noncomputable def h2 : D → Option (List D)
  | .tup [a, b] => some [a, b]
  | _ => none
theorem pif_none : PIf X B [] (fun _ => ok true) := .inl ⟨rfl, rfl⟩
end
section
variable {X : Cx} {B : Hp} {e : Expr} {fa : Rho → M D} {pos p : Pos}
noncomputable def toT : D → M D
  | .lst ds => ok (.tup ds)
  | .tup ds => ok (.tup ds)
  | _ => none
theorem pd_tuple (hg : Gl X "tuple") (hm : X.mg "tuple" = none) (ha : PD X B e fa) (hs : nostar e = true := by rfl) : PD X B (.Call (.Name "tuple" p) [e] [] pos) (f1 toT fa) := by
  refine PE.of (pe_callTy call_tuple_of hg hm boot_tuple (pa_cons ha pa_nil (star_ok hs)) (he := star_ok hs) (hpl := by rfl)) fun σ H Q h => ?_
  obtain ⟨ρ, r1, h⟩ := h
  refine ⟨ρ, r1, (Res.bind h).imp fun d q1 v H1 e1 i1 => ?_⟩
  cases i1 with
  | lst hh rr => exact ⟨_, _, rfl, .inl ⟨hh, fun l hl => q1 _ _ (e1.trans (same_new hl _)) (.tup (TQ.of upd_same) (rr.mono (same_new hl _)))⟩⟩
  | tup hh rr => exact ⟨_, _, rfl, .inr ⟨hh.sq, q1 _ H1 e1 (.tup hh rr)⟩⟩
  | _ => exact False.elim q1
end
end L2.PU
namespace L2.PU
open PySem PySem.Spec PyProof.Rows
section
variable {K : PySem.W.Frag} {H : Hp}
end
section
variable {X : Cx} {B : Hp} {a b : Expr} {fa fb : Rho → M D} {pos : Pos}
end
end L2.PU
namespace L2.PU
open PySem PySem.Spec PyProof.Rows
theorem lk_nil {env : Env} : lkAll [] env = true := rfl
theorem lk_cons {env : Env} {x : Str} {c : Addr} {cl : List (Str × Addr)} (h1 : env.cells.lookup x = some c) (h2 : env.kindOf x = some .cell ∨ env.kindOf x = some .free) (r : lkAll cl env = true) : lkAll ((x, c) :: cl) env = true := by
  unfold lkAll at r ⊢
  rw [List.all_cons, r, Bool.and_true]
  dsimp only
  rw [h1]
  rcases h2 with h2 | h2 <;> rw [h2] <;> simp
section
variable {X : Cx} {B : Hp} {scope : Scope} {cl : List (Str × Addr)} {N' : List Str} {m : Nat} {tg iter elt : Expr} {ifs : List Expr} {pos : Pos} {ks : List Nat} {G : D → Option (List D)} {ft : Rho → M Bool} {fe : Rho → M D} {it : Rho → M (List D)}
theorem pd_comp1 (hclos : closureFor scope X.env = pure cl) (hcell : scope.names.all (fun y => y.2 != .cell) = true) (hkind : scope.kind = .function) (hnames : scope.names.all (fun y => y.2 != .local || scope.names.lookup y.1 == some .local) = true) (hcl : lkAll cl X.env = true)
    (hnm : nmAll X.N N' (relabel scope X.env) = true) (hf : frAll cl (relabel scope X.env) = true) (hl : N'.length = X.N.length + m) (hks : ks.all (fun k => decide (X.N.length ≤ k)) = true) (hcm : X.calm = true) (hi : PIt X B tg iter it)
    (hg : ∀ C s₀ H₀ ex, PDH (cxC X scope cl N' C s₀ H₀ ex) tg ks G) (ht : ∀ C s₀ H₀ ex B, PIf (cxC X scope cl N' C s₀ H₀ ex) B ifs ft) (he : ∀ C s₀ H₀ ex B, PD (cxC X scope cl N' C s₀ H₀ ex) B elt fe)
    (hs : ∀ x, foldedSetIterable iter X.env x = pure x := by intro _; rfl) : PD X B (.ListComp elt [⟨tg, iter, ifs, 0⟩] scope pos) (cmp m it ks G ft fe) :=
  pd_comp hclos (fun y hy => by have := List.all_eq_true.mp hcell y hy; simpa using this) hkind
    (fun y hy z => by have := List.all_eq_true.mp hnames y hy; rw [z] at this; simpa using this) hcl hnm hf hl
    (fun k hk => of_decide_eq_true (List.all_eq_true.mp hks k hk)) hcm hi hg ht he hs
end
end L2.PU
namespace L2.PU
open PySem PySem.Spec PyProof.Rows
section
variable {X : Cx} {B : Hp} {a b : Expr} {fa fb : Rho → M D} {pos : Pos}
theorem OpR.or {f : Value → Value → Sem Value} {r r' : R2} (h : OpR X f r) (h' : OpR X f r') : OpR X f (fun x y H Q => r x y H Q ∨ r' x y H Q) := by
  intro pins s σ H x y v u Q I rx ry q
  rcases q with q | q
  · exact h pins s σ H x y v u Q I rx ry q
  · exact h' pins s σ H x y v u Q I rx ry q
noncomputable def rCat0 (K : PySem.W.Frag) : R2 := fun x y H Q => ∃ a b ys, x = .ref a ∧ y = .ref b ∧ SqT K H a [] ∧ SqT K H b ys ∧ Q (.ref b) H
theorem op_cat0 : OpR X (binaryOp .Add) (rCat0 X.K) := by
  intro pins s σ H x y v u Q I rx ry h
  obtain ⟨a, b, ys, rfl, rfl, ha, hb, q⟩ := h
  cases rx
  cases ry
  obtain ⟨its, r1, p1, _⟩ := I.tuple ha
  obtain ⟨its2, r2, p2, _⟩ := I.tuple hb
  have e1 : its = [] := r1.nil_iff.mpr rfl
  subst e1
  obtain ⟨⟨c1, d1, x1, l1⟩, o1, k1, n1, z1⟩ := p1
  obtain ⟨⟨c2, d2, x2, l2⟩, o2, k2, n2, z2⟩ := p2
  dsimp only at k1 z1 k2 z2
  subst k1 z1 k2 z2
  exact concat_meets ⟨_, o1, rfl⟩ ⟨_, o2, rfl⟩ noFill_tuple_add seq_tuple_add PySem.F.slot_tuple_add PySem.F.entry_tuple_add (PySem.F.args_tuple_add_2 _ _)
    (tuple_addW0 a b _ _ n1 n2 d1 d2 l1 l2 rfl) ⟨o1, o2, ⟨.ref b, H, I, rfl, q⟩⟩
noncomputable def rCatG (K : PySem.W.Frag) : R2 := fun x y H Q => ∃ a b xs ys, x = .ref a ∧ y = .ref b ∧ SqL K H a xs ∧ SqL K H b ys ∧ xs.length + ys.length ≤ sizeLine ∧ ∀ p, H p = none → Q (.ref p) (upd H p (.lst (xs ++ ys)))
theorem op_catG : OpR X (binaryOp .Add) (rCatG X.K) := by
  intro pins s σ H x y v u Q I rx ry h
  obtain ⟨a, b, xs, ys, rfl, rfl, ha, hb, hz, q⟩ := h
  cases rx
  cases ry
  obtain ⟨its, r1, p1, _⟩ := I.list ha
  obtain ⟨its2, r2, p2, _⟩ := I.list hb
  have hl1 := r1.length
  have hl2 := r2.length
  obtain ⟨⟨c1, d1, x1, l1⟩, n1, o1, k1, _, z1⟩ := p1
  obtain ⟨⟨c2, d2, x2, l2⟩, n2, o2, k2, _, z2⟩ := p2
  dsimp only at k1 z1 k2 z2
  subst k1 z1 k2 z2
  refine concat_meets ⟨_, o1, rfl⟩ ⟨_, o2, rfl⟩ noFill_list_add seq_list_add PySem.F.slot_list_add PySem.F.entry_list_add (PySem.F.args_list_add_2 _ _)
    (list_addW a b _ _ n1 n2 d1 d2 l1 l2 (by rw [List.size_toArray, List.size_toArray, ← hl1, ← hl2]; exact hz)) ⟨o1, o2, ?_⟩
  have ea : its.toArray ++ its2.toArray = (its ++ its2).toArray := by simp
  rw [ea]
  exact ⟨.ref _, _, I.lnew (t' := s.toks) (r1.append r2) (by rw [List.length_append]; exact hz), rfl, q _ I.fresh⟩
noncomputable def gPlus : D → D → M D
  | .int i, .int j => ok (.int (i + j))
  | .str i, .str j => if i.length + j.length ≤ 100000 then ok (.str (i ++ j)) else none
  | .tup xs, .tup ys => if xs.length + ys.length ≤ 100000 then ok (.tup (xs ++ ys)) else none
  | .lst xs, .lst ys => if xs.length + ys.length ≤ 100000 then ok (.lst (xs ++ ys)) else none
  | _, _ => none
theorem n_plus : NoErr gPlus := by
  intro x y c h
  unfold gPlus at h
  (repeat' split at h) <;> cases h
theorem line5 {n : Nat} (h : n ≤ 100000) : n ≤ sizeLine := Nat.le_trans h (by decide)
noncomputable def rPlus (K : PySem.W.Frag) : R2 := fun x y H Q => (∃ i j, x = .int i ∧ y = .int j ∧ Q (.int (i + j)) H) ∨ (∃ i j, x = .str i ∧ y = .str j ∧ i.length + j.length ≤ sizeLine ∧ Q (.str (i ++ j)) H) ∨ rCat0 K x y H Q ∨ rCatT K x y H Q ∨ rCatG K x y H Q
theorem op_plus : OpR X (binaryOp .Add) (rPlus X.K) := OpR.or op_add (OpR.or op_add_str (OpR.or op_cat0 (OpR.or op_catT op_catG)))
theorem r_plus : R2ok X (rPlus X.K) gPlus := by
  intro H x y dx dy d Q ix iy e q
  unfold gPlus at e
  split at e
  · cases ix; cases iy; cases e
    exact .inl ⟨_, _, rfl, rfl, q _ H (Same.refl H) (.int _)⟩
  · split at e
    · rename_i hz
      cases ix; cases iy; cases e
      exact .inr (.inl ⟨_, _, rfl, rfl, line5 hz, q _ H (Same.refl H) (.str _)⟩)
    · cases e
  · split at e
    · rename_i hz
      cases ix with
      | tup h1 r1 =>
        cases iy with
        | tup h2 r2 =>
          cases e
          rw [r1.length, r2.length] at hz
          cases r1 with
          | nil => exact .inr (.inr (.inl ⟨_, _, _, rfl, rfl, h1, h2.sq, q _ H (Same.refl H) (.tup h2 r2)⟩))
          | cons i1 r1 =>
            refine .inr (.inr (.inr (.inl ⟨_, _, _, _, rfl, rfl, h1, h2, by simp, line5 hz, fun z => ?_, fun z p hp => ?_⟩)))
            · subst z
              cases r2
              exact q _ H (Same.refl H) (by rw [List.append_nil]; exact .tup h1 (.cons i1 r1))
            · exact q _ _ (same_new hp _) (.tup (TQ.of upd_same) ((IsL.append (.cons i1 r1) r2).mono (same_new hp _)))
    · cases e
  · split at e
    · rename_i hz
      cases ix with
      | lst h1 r1 =>
        cases iy with
        | lst h2 r2 =>
          cases e
          rw [r1.length, r2.length] at hz
          exact .inr (.inr (.inr (.inr ⟨_, _, _, _, rfl, rfl, h1, h2, line5 hz, fun p hp => q _ _ (same_new hp _) (.lst (SqL.of upd_same) ((IsL.append r1 r2).mono (same_new hp _)))⟩)))
    · cases e
  · cases e
theorem pd_plus (ha : PD X B a fa) (hb : PD X B b fb) : PD X B (.BinOp a .Add b pos) (b2 gPlus fa fb) := pd_op op_plus r_plus n_plus ha hb
end
section
variable {X : Cx} {B : Hp} {a b : Expr} {fa fb : Rho → M D} {pos : Pos}
noncomputable def repS (x : Str) (n : Nat) : Str := ⟨(List.replicate n x.cps).foldl (· ++ ·) #[]⟩
noncomputable def rMulS : R2 := fun x y H Q => ∃ z k, x = .str z ∧ y = .int k ∧ 0 ≤ k ∧ z.length ≤ 1000 ∧ k ≤ 1000 ∧ Q (.str (repS z k.toNat)) H
theorem rep0 (x : Str) : repS x 0 = Str.empty := rfl
theorem rep1 (x : Str) : repS x 1 = x := by
  unfold repS
  simp
theorem repE {x : Str} (h : x.length = 0) (n : Nat) : repS x n = x := by
  obtain ⟨c⟩ := x
  have e : c = #[] := Array.size_eq_zero_iff.mp h
  subst e
  unfold repS
  congr 1
  induction n with
  | zero => rfl
  | succ n ih => rw [List.replicate_succ, List.foldl_cons]; exact ih
theorem rep_len (x : Str) (n : Nat) : (repS x n).length = n * x.length := by
  have g : ∀ (m : Nat) (a : Array Nat), ((List.replicate m x.cps).foldl (· ++ ·) a).size = a.size + m * x.cps.size := by
    intro m
    induction m with
    | zero => intro a; simp
    | succ m ih => intro a; rw [List.replicate_succ, List.foldl_cons, ih, Array.size_append, Nat.succ_mul]; omega
  show ((List.replicate n x.cps).foldl (· ++ ·) #[]).size = n * x.cps.size
  rw [g]
  simp
theorem op_mulS : OpR X (binaryOp .Mult) rMulS := by
  intro pins s σ H x y v u Q I rx ry h
  obtain ⟨z, k, rfl, rfl, h0, hz, hk, q⟩ := h
  obtain ⟨t, rfl⟩ := rx
  obtain ⟨t', rfl⟩ := ry
  refine P.mul_str ?_ (fun h1 h2 => ?_) (fun h1 h2 => ?_) ?_
  · have e1 : decide (k < -(2 ^ 63 : Int)) = false := decide_eq_false (by omega)
    have e2 : decide (k ≥ 2 ^ 63) = false := decide_eq_false (by omega)
    rw [e1, e2]; rfl
  · have h3 : (1001 : Int) ≤ (2 ^ 63 - 1) / k := by
      refine Int.le_ediv_of_mul_le (by omega) ?_
      have : (1001 : Int) * k ≤ 1001 * 1000 := by omega
      omega
    omega
  · have h3 : z.length * k.toNat ≤ 1000 * 1000 := Nat.mul_le_mul hz (by omega)
    exact decide_eq_false (by unfold sizeLine; omega)
  · by_cases k0 : k < 1
    · have ek : k.toNat = 0 := by omega
      rw [if_pos k0]
      rw [ek, rep0] at q
      exact ⟨by decide, ⟨.str Str.empty, H, I.tok _, ⟨_, rfl⟩, q⟩⟩
    · rw [if_neg k0]
      split
      · rename_i hh
        have e : repS z k.toNat = z := by
          simp only [Bool.or_eq_true, beq_iff_eq] at hh
          rcases hh with hh | hh
          · have ek : k.toNat = 1 := by omega
            rw [ek, rep1]
          · exact repE hh _
        rw [e] at q
        exact ⟨.str z, H, I, ⟨t, rfl⟩, q⟩
      · have hl : (repS z k.toNat).length ≤ sizeLine := by
          rw [rep_len]
          have : k.toNat * z.length ≤ 1000 * 1000 := Nat.mul_le_mul (by omega) hz
          unfold sizeLine
          omega
        exact ⟨hl, ⟨.str (repS z k.toNat), H, I.tok _, ⟨_, rfl⟩, q⟩⟩
noncomputable def gTimes : D → D → M D
  | .int i, .int j => gMul (.int i) (.int j)
  | .str z, .int k => if 0 ≤ k ∧ z.length ≤ 1000 ∧ k ≤ 1000 then ok (.str (repS z k.toNat)) else none
  | _, _ => none
theorem n_times : NoErr gTimes := by
  intro x y c h
  unfold gTimes gMul at h
  (repeat' split at h) <;> cases h
theorem pd_times (ha : PD X B a fa) (hb : PD X B b fb) : PD X B (.BinOp a .Mult b pos) (b2 gTimes fa fb) := by
  refine pd_op (OpR.or op_mulB op_mulS) ?_ n_times ha hb
  intro H x y dx dy d Q ix iy e q
  unfold gTimes at e
  split at e
  · dsimp only [gMul] at e
    split at e
    · rename_i h
      cases ix; cases iy; cases e
      exact .inl ⟨_, _, rfl, rfl, h, q _ H (Same.refl H) (.int _)⟩
    · cases e
  · split at e
    · rename_i h
      cases ix; cases iy; cases e
      exact .inr ⟨_, _, rfl, rfl, h.1, h.2.1, h.2.2, q _ H (Same.refl H) (.str _)⟩
    · cases e
  · cases e
end
end L2.PU
namespace L2.PU
open PySem PySem.Spec PyProof.Rows
section
variable {K : PySem.W.Frag} {H₀ H : Hp} {ρ : Rho} {σ : St}
theorem Rel.own_new {i : Nat} {a : Addr} {ds : List D} {vs : List V} (r : Rel K H₀ ρ σ H) (hf : H a = none) (im : immL ds = true) (iv : IsL K H ds vs) : Rel K H₀ (ρ.set i (some (.own ds))) (σ.set i (some (.ref a))) (upd H a (.lst vs)) := by
  obtain ⟨O, h1, ho, h2, hl, h3⟩ := r
  have na : ∀ j b, O j = some b → b ≠ a := fun j b q e => by
    subst e
    obtain ⟨u, w, m⟩ := ho j b q; rw [w] at hf; cases hf
  let O' : Nat → Option Addr := fun j => if j = i then some a else O j
  have Oi : O' i = some a := if_pos rfl
  have On : ∀ j, j ≠ i → O' j = O j := fun j e => if_neg e
  have hO' : OwnK (upd H a (.lst vs)) O' := fun j b q => by
    by_cases e : j = i
    · subst e
      rw [Oi] at q
      cases q
      exact ⟨_, upd_same, rfl⟩
    · rw [On j e] at q
      have nb := na j b q
      obtain ⟨u, w, m⟩ := ho j b q
      exact ⟨u, by rw [upd_ne nb]; exact w, m⟩
  have sm : Same (Off H O) (Off (upd H a (.lst vs)) O') := fun b o q => by
    have qh := Off.same H O b o q
    have nb : b ≠ a := fun e => by subst e; rw [hf] at qh; cases qh
    refine Off.of (by rw [upd_ne nb]; exact qh) fun j z => ?_
    by_cases e : j = i
    · subst e
      rw [Oi] at z
      cases z
      exact nb rfl
    · rw [On j e] at z
      exact Off.not q j z
  refine ⟨O', fun j k b q1 q2 => ?_, hO', h2.trans sm, by rw [List.length_set, List.length_set, hl], fun j sv q => ?_⟩
  · by_cases e1 : j = i
    · by_cases e2 : k = i
      · rw [e1, e2]
      · subst e1
        rw [Oi] at q1
        cases q1
        rw [On k e2] at q2
        exact absurd rfl (na k _ q2)
    · by_cases e2 : k = i
      · subst e2
        rw [Oi] at q2
        cases q2
        rw [On j e1] at q1
        exact absurd rfl (na j _ q1)
      · rw [On j e1] at q1
        rw [On k e2] at q2
        exact h1 j k b q1 q2
  · by_cases e : j = i
    · subst e
      have hj : j < ρ.length := by
        have := (List.getElem?_eq_some_iff.mp q).1
        rwa [List.length_set] at this
      rw [List.getElem?_set_self hj] at q
      have q' := Option.some.inj (Option.some.inj q)
      subst q'
      exact ⟨a, vs, Oi, List.getElem?_set_self (by rw [← hl]; exact hj), upd_same, offL_imm hO' im (iv.mono (same_new hf _))⟩
    · rw [List.getElem?_set_ne (Ne.symm e)] at q
      have z := h3 j sv q
      cases sv with
      | sh d' => obtain ⟨v', e1, e2⟩ := z; exact ⟨v', by rw [List.getElem?_set_ne (Ne.symm e)]; exact e1, e2.mono sm⟩
      | own ds' =>
        obtain ⟨b, ws, e1, e2, e3, e4⟩ := z
        exact ⟨b, ws, by rw [On j e]; exact e1, by rw [List.getElem?_set_ne (Ne.symm e)]; exact e2, by rw [upd_ne (na j b e1)]; exact e3, e4.mono sm⟩
      | oin b C dx fs =>
        obtain ⟨e1, e2, e3, ws, e4, e5⟩ := z
        exact ⟨by rw [On j e]; exact e1, by rw [List.getElem?_set_ne (Ne.symm e)]; exact e2, e3, ws, by rw [upd_ne (na j b e1)]; exact e4, e5.mono sm⟩
      | ow o =>
        obtain ⟨b, u, e1, e2, e3, e4⟩ := z
        exact ⟨b, u, by rw [On j e]; exact e1, by rw [List.getElem?_set_ne (Ne.symm e)]; exact e2, by rw [upd_ne (na j b e1)]; exact e3, e4.mono sm⟩
      | tk ks => obtain ⟨b, e1, e2⟩ := z; exact ⟨b, by rw [List.getElem?_set_ne (Ne.symm e)]; exact e1, sm _ _ e2⟩
theorem Rel.own_put {i : Nat} {a : Addr} {ds ds' : List D} {vs' : List V} (O : Nat → Option Addr) (h1 : ∀ i j a, O i = some a → O j = some a → i = j) (ho : OwnK H O) (h2 : Same H₀ (Off H O)) (hl : ρ.length = σ.length)
    (h3 : ∀ i sv, ρ[i]? = some (some sv) → Slot K H O σ i sv) (q : ρ[i]? = some (some (.own ds))) (z1 : O i = some a) (z2 : σ[i]? = some (some (.ref a))) (iv : IsL K (Off H O) ds' vs') : Rel K H₀ (ρ.set i (some (.own ds'))) σ (upd H a (.lst vs')) := by
  have eo : Off (upd H a (.lst vs')) O = Off H O := Off.upd z1
  refine ⟨O, h1, fun j b qj => ?_, by rw [eo]; exact h2, by rw [List.length_set, hl], fun j sv qj => ?_⟩
  · by_cases e : b = a
    · subst e; exact ⟨_, upd_same, rfl⟩
    · obtain ⟨u, w, m⟩ := ho j b qj
      exact ⟨u, by rw [upd_ne e]; exact w, m⟩
  · by_cases e : j = i
    · subst e
      have hj : j < ρ.length := (List.getElem?_eq_some_iff.mp q).1
      rw [List.getElem?_set_self hj] at qj
      have q' := Option.some.inj (Option.some.inj qj)
      subst q'
      exact ⟨a, vs', z1, z2, upd_same, by rw [eo]; exact iv⟩
    · rw [List.getElem?_set_ne (Ne.symm e)] at qj
      have z := h3 j sv qj
      cases sv with
      | sh d' => obtain ⟨v', e1, e2⟩ := z; exact ⟨v', e1, by rw [eo]; exact e2⟩
      | own es =>
        obtain ⟨b, ws, e1, e2, e3, e4⟩ := z
        have nb : b ≠ a := fun w => e (h1 j i a (by rw [← w]; exact e1) z1)
        exact ⟨b, ws, e1, e2, by rw [upd_ne nb]; exact e3, by rw [eo]; exact e4⟩
      | oin b C' dx' fs' =>
        obtain ⟨e1, e2, e3, ws, e4, e5⟩ := z
        have nb : b ≠ a := fun w => e (h1 j i a (by rw [← w]; exact e1) z1)
        exact ⟨e1, e2, e3, ws, by rw [upd_ne nb]; exact e4, by rw [eo]; exact e5⟩
      | ow o =>
        obtain ⟨b, u, e1, e2, e3, e4⟩ := z
        have nb : b ≠ a := fun w => e (h1 j i a (by rw [← w]; exact e1) z1)
        exact ⟨b, u, e1, e2, by rw [upd_ne nb]; exact e3, by rw [eo]; exact e4⟩
      | tk ks => obtain ⟨b, e1, e2⟩ := z; exact ⟨b, e1, by rw [eo]; exact e2⟩
end
section
variable {X : Cx} {B : Hp} {e e' : Expr} {es : List Expr} {fa fb : Rho → M D} {ga : Rho → M (List D)} {pos pos' p p2 apos cpos : Pos} {x : Str} {i : Nat}
noncomputable def sNew (i : Nat) (g : Rho → M (List D)) : Rho → Option Out := fun ρ => lft (g ρ) ρ fun ds => if immL ds = true ∧ ds.length ≤ 1000 then some (.nx (ρ.set i (some (.own ds)))) else none
theorem pds_new (hN : X.N.Nodup) (hi : X.N[i]? = some x) (hx : Loc X.env.scope x) (he : PDA X B es ga) (hs : swapsWith (.List es p) (some (.Name x pos')) pos.line X.env = pure false := by rfl) (hf : X.fn x = true ∨ X.env.scope.names.lookup x = some .local := by first | exact .inl rfl | exact .inr rfl | assumption) :
    PDS X B (.Assign [.Name x pos'] (.List es p) pos) (sNew i ga) := by
  refine PS.of (ps_set hN hi hx (pe_lst he) hs hf) fun E σ H h => ?_
  obtain ⟨ρ, r, h⟩ := h
  refine ⟨ρ, r, (lft_red r h).imp fun ds h1 vs H1 e1 i1 => ?_⟩
  split at h1
  · rename_i hh
    refine ⟨by rw [← i1.length]; exact Nat.le_trans hh.2 (by decide), fun l hl => ?_⟩
    exact h1 _ _ ((r.mono e1).own_new hl hh.1 i1)
  · exact False.elim h1
noncomputable def sOwn (G : List D → List D → Option (List D)) (i : Nat) (g : Rho → M (List D)) : Rho → Option Out := fun ρ => match ρ[i]? with
  | some (some (.own ds)) => lft (g ρ) ρ fun as => if immL as = true ∧ ds.length < 100000 then (match G ds as with | some ds' => some (.nx (ρ.set i (some (.own ds')))) | none => none) else none
  | _ => none
noncomputable def LMok (r : V → List V → Hp → VK → Prop) (G : List D → List D → Option (List D)) : Prop :=
  ∀ (K : PySem.W.Frag) (H0 H1 : Hp) (l : Addr) (ds as ds' : List D) (vs us : List V) (Q : VK), IsL K H0 ds vs → IsL K H0 as us → H1 l = some (.lst vs) → ds.length < 100000 → G ds as = some ds' → (∀ vs', IsL K H0 ds' vs' → Q .non (upd H1 l (.lst vs'))) → r (.ref l) us H1 Q
theorem pds_own {id : String} {name : Str} {r : V → List V → Hp → VK → Prop} {G : List D → List D → Option (List D)} (slot : PySem.Slot "list" name id) (hty : typeOf (.builtin id) = pure (.type "method_descriptor")) (hm : MtM X id r) (hr : LMok r G)
    (hN : X.N[i]? = some x) (hv : Vis X.env.scope x) (ha : PDA X B (e :: es) ga)
    (hfew : ((backTo cpos (starEach (e :: es) X.env)).all (fun x => !x.1) && (backToKw cpos (keywordEach [] X.env)).all (fun x => x.1.isSome)
      && decide ((e :: es).length + ([] : List Keyword).length + (if ([] : List Keyword).isEmpty then 0 else 1) < 30)) = true)
    (hs : starEach (e :: es) X.env = (false, eval e X.env) :: starEach es X.env) (hplain : (backTo cpos (starEach es X.env)).any (·.1) = false)
    (hline : (apos.endLine == cpos.line) = true := by rfl)
    (hsw : swapsWith (.Call (.Attribute (.Name x p) name apos) (e :: es) [] cpos) none pos.line X.env = pure false := by rfl)
    (hd : (x == ("__debug__" : Str)) = false := by decide) (hcd : (x == ("__classdict__" : Str)) = false := by decide) :
    PDS X B (.Expr (.Call (.Attribute (.Name x p) name apos) (e :: es) [] cpos) pos) (sOwn G i ga) := by
  refine PS.of (ps_expr (pe_bm PySem.F.plainAttrs_list slot hty hm (pe_var hN hv hd hcd) ha (hbase := rfl) (hfew := hfew) (hline := hline) (hs := hs) (hplain := hplain)) hsw) fun E σ H h => ?_
  obtain ⟨ρ, r1, h⟩ := h
  unfold sOwn at h
  split at h
  · rename_i ds q
    obtain ⟨O, h1, ho, h2, hl, h3⟩ := (show Rel X.K B ρ σ H from r1)
    obtain ⟨a, vs, z1, z2, z3, z4⟩ := h3 i _ q
    refine ⟨.ref a, z2, .inl ⟨rfl, _, SqL.of z3⟩, ρ, r1, (lft_red r1 h).imp fun as k1 us H1 e1 i1 => ?_⟩
    split at k1
    · rename_i hh
      split at k1
      · rename_i ds' hG
        have ho1 := ho.mono e1
        refine hr X.K (Off H1 O) H1 a ds as ds' vs us _ (z4.mono (Off.mono e1)) (offL_imm ho1 hh.1 i1) (e1 _ _ z3) hh.2 hG fun vs' i' => ?_
        exact k1 _ _ (Rel.own_put O h1 ho1 (h2.trans (Off.mono e1)) hl (fun j sv qj => (h3 j sv qj).mono e1) q z1 z2 i')
      · exact False.elim k1
    · exact False.elim k1
  · exact False.elim h
noncomputable def lApp (ds : List D) : List D → Option (List D)
  | [d] => some (ds ++ [d])
  | _ => none
theorem lm_app : LMok rAppend lApp := by
  intro K H0 H1 l ds as ds' vs us Q i1 i2 hl hn hG q
  unfold lApp at hG
  split at hG
  · cases hG
    cases i2 with
    | cons id1 rest =>
      cases rest
      exact ⟨l, vs, _, rfl, rfl, hl, by rw [← i1.length]; exact Nat.lt_of_lt_of_le hn (by decide), q _ (i1.append (.cons id1 .nil))⟩
  · cases hG
theorem pds_append (hN : X.N[i]? = some x) (hv : Vis X.env.scope x) (ha : PD X B e fa) (hs : nostar e = true := by rfl) (hline : (apos.endLine == cpos.line) = true := by rfl)
    (hsw : swapsWith (.Call (.Attribute (.Name x p) "append" apos) [e] [] cpos) none pos.line X.env = pure false := by rfl)
    (hd : (x == ("__debug__" : Str)) = false := by decide) (hcd : (x == ("__classdict__" : Str)) = false := by decide) :
    PDS X B (.Expr (.Call (.Attribute (.Name x p) "append" apos) [e] [] cpos) pos) (sOwn lApp i (aCons fa aNil)) :=
  pds_own PySem.F.slot_list_append PySem.F.type_list_append mt_append lm_app hN hv (pda_cons ha pda_nil (star_ok hs)) (by rw [star1 hs]; rfl) (star_ok hs) rfl hline hsw hd hcd
end
section
variable {X : Cx} {B : Hp} {e : Expr} {fa : Rho → M D} {pos p : Pos}
end
end L2.PU
namespace L2.PU
open PySem PySem.Spec PyProof.Rows
section
variable {X : Cx} {B : Hp} {e : Expr} {es : List Expr} {fa : Rho → M D} {pos p : Pos}
end
end L2.PU
namespace L2.PU
open PySem PySem.Spec PyProof.Rows
section
variable {X : Cx} {B : Hp} {e a b : Expr} {fa fb : Rho → M D} {pos p p2 pos2 : Pos}
noncomputable def strL : List D → Option (List Str)
  | [] => some []
  | .str x :: ds => match strL ds with | some xs => some (x :: xs) | none => none
  | _ :: _ => none
theorem strL_map (xs : List Str) : strL (xs.map D.str) = some xs := by
  induction xs with
  | nil => rfl
  | cons x r ih => rw [List.map_cons]; unfold strL; rw [ih]
theorem IsL.reverse {K : PySem.W.Frag} {H : Hp} : ∀ {ds : List D} {vs : List V}, IsL K H ds vs → IsL K H ds.reverse vs.reverse
  | _, _, .nil => .nil
  | _, _, .cons i r => by rw [List.reverse_cons, List.reverse_cons]; exact IsL.append (IsL.reverse r) (.cons i .nil)
end
end L2.PU
namespace L2.PU
open PySem PySem.Spec PyProof.Rows
section
variable {X : Cx} {B : Hp} {e a b : Expr} {fa fb : Rho → M D} {pos p apos cpos : Pos}
end
section
variable {X : Cx} {B : Hp} {e a b : Expr} {fa fb : Rho → M D} {pos : Pos}
end
end L2.PU
namespace L2.PU
open PySem PySem.Spec PyProof.Rows
section
variable {X : Cx} {B : Hp} {e a b : Expr} {fa fb : Rho → M D} {pos p p2 pos2 : Pos}
theorem inv_drew {pins : List (Addr × Obj)} {σ : List (Option V)} {H : Hp} {s : Shared} (I : Inv X pins σ H s) (d : Drawn) : Inv X pins σ H { s with drawn := d } := ⟨I.ok, I.os, I.bare, I.base, I.loc, I.cell, I.free, I.freeC, I.pin, I.hok, I.len⟩
theorem boot_sorted : bootBuiltins "sorted" = some (.builtin "sorted") := by decide +kernel
end
end L2.PU
namespace L2.PU
open PySem PySem.Spec PyProof.Rows
section
variable {X : Cx} {B : Hp} {e e' : Expr} {es : List Expr} {fa fb : Rho → M D} {ga : Rho → M (List D)} {pos pos' p p2 apos cpos : Pos} {x : Str} {i : Nat}
end
end L2.PU
namespace L2.PU
open PySem PySem.Spec PyProof.Rows
noncomputable def viaD (n : Nat) (f : List D → M D) : List D → M D := fun ds => if ds.length = n then (match f ds with | some (.ok d) => some (.ok d) | _ => none) else none
theorem viaD_len {n : Nat} {f : List D → M D} : ∀ ds r, viaD n f ds = some r → ds.length = n := fun ds r h => by
  unfold viaD at h
  split at h
  · assumption
  · cases h
theorem viaD_q {n : Nat} {f : List D → M D} : ∀ ds r, viaD n f ds = some r → ∃ d, r = .ok d ∧ f ds = ok d := fun ds r h => by
  unfold viaD at h
  split at h
  · split at h
    · rename_i d hd
      cases h
      exact ⟨d, rfl, hd⟩
    · cases h
  · cases h
theorem viaD_of {n : Nat} {f : List D → M D} {ds : List D} {d : D} (hl : ds.length = n) (h : f ds = ok d) : viaD n f ds = ok d := by unfold viaD; rw [if_pos hl, h]; rfl
noncomputable abbrev tS (xs : List Str) : D := .tup (xs.map D.str)
theorem immL_strs (xs : List Str) : immL (xs.map D.str) = true := by
  induction xs with
  | nil => rfl
  | cons x r ih => rw [List.map_cons, immL, ih]; rfl
theorem imm_tS (xs : List Str) : (tS xs).imm = true := immL_strs xs
theorem orB_ok {f g : Rho → M Bool} {ρ : Rho} {a b : Bool} (h1 : f ρ = ok a) (h2 : g ρ = ok b) : orB f g ρ = ok (a || b) := by
  unfold orB
  rw [h1, bnd_ok]
  cases a
  · rw [if_neg (by decide), h2]; rfl
  · rfl
noncomputable abbrev L (s : Str) : List Nat := s.cps.toList
theorem mulB_int {i j : Int} (h1 : 0 ≤ i) (h2 : i < 1000000000000000000000000000000) (h3 : 0 ≤ j) (h4 : j < 1000000000000000000000000000000) : mulB i j = true := by
  have q : ∀ z : Int, 0 ≤ z → z < 1000000000000000000000000000000 → z.natAbs < 2 ^ 1048576 := fun z a b => pow_line (m := 100) (by omega) (by decide)
  exact mulB_of (q i h1 h2) (q j h3 h4)
theorem at_app {ns : List Int} {rest : Rho} (k : Nat) : app fAt (aCons (look 0) (aCons (con (.int (k : Int))) aNil)) (some (.sh (.lst (ns.map D.int))) :: rest) = ok (.int (atZ ns k)) := by
  rw [app_ok (aCons_ok (d := .lst (ns.map D.int)) rfl (aCons_ok (d := .int (k : Int)) rfl aNil_ok))]
  exact fAt_ints ns k
theorem mod_ok {f g : Rho → M D} {ρ : Rho} {i j : Int} (h1 : f ρ = ok (.int i)) (h2 : g ρ = ok (.int j)) (hj : 0 < j) : b2 gMod f g ρ = ok (.int (i % j)) := by
  refine b2_ok h1 h2 ?_
  show (if 0 < j then ok (D.int (i % j)) else none) = _
  rw [if_pos hj]
theorem fdiv_ok {f g : Rho → M D} {ρ : Rho} {i j : Int} (h1 : f ρ = ok (.int i)) (h2 : g ρ = ok (.int j)) (hj : 0 < j) (hj2 : j < 1073741824) : b2 gFdiv f g ρ = ok (.int (i / j)) := by
  refine b2_ok h1 h2 ?_
  simp [gFdiv, hj, hj2]
theorem add_ok {f g : Rho → M D} {ρ : Rho} {i j : Int} (h1 : f ρ = ok (.int i)) (h2 : g ρ = ok (.int j)) : b2 gPlus f g ρ = ok (.int (i + j)) := b2_ok h1 h2 rfl
theorem sSet_imm {i : Nat} {f : Rho → M D} {ρ : Rho} {d : D} (h : f ρ = ok d) (hd : d.imm = true) : sSet i f ρ = some (.nx (ρ.set i (some (.sh d)))) := by rw [sSet_ok h, setV_imm hd]
theorem sSet_any {i : Nat} {f : Rho → M D} {ρ : Rho} {d : D} (h : f ρ = ok d) (hf : free ρ = ρ) : sSet i f ρ = some (.nx (ρ.set i (some (.sh d)))) := by
  rw [sSet_ok h]
  unfold setV
  split
  · rfl
  · rw [hf]
end L2.PU
namespace L2.PU
open PySem PySem.Spec PyProof.Rows
end L2.PU
namespace L2.PU
open PySem PySem.Spec PyProof.Rows
noncomputable def git (m : Nat) : Nat → Nat → Nat
  | 0, i => i
  | t + 1, i => git m t ((i * 5 + 1) % m)
theorem git_add (m : Nat) : ∀ (a b i : Nat), git m (a + b) i = git m b (git m a i)
  | 0, b, i => by rw [Nat.zero_add]; rfl
  | a + 1, b, i => by rw [Nat.add_right_comm]; exact git_add m a b _
noncomputable def orb (m : Nat) : Nat → Nat → List Nat
  | 0, _ => []
  | t + 1, i => i :: orb m t ((i * 5 + 1) % m)
theorem orb_mem (m : Nat) : ∀ (n i j : Nat), j ∈ orb m n i → ∃ a, a < n ∧ git m a i = j
  | 0, i, j, h => by cases h
  | n + 1, i, j, h => by
    rcases List.mem_cons.mp h with rfl | h
    · exact ⟨0, Nat.succ_pos n, rfl⟩
    · obtain ⟨a, h1, h2⟩ := orb_mem m n _ j h
      exact ⟨a + 1, Nat.succ_lt_succ h1, h2⟩
noncomputable def Pw (m : Nat) : Prop := m = 8 ∨ m = 16 ∨ m = 32 ∨ m = 64 ∨ m = 128
theorem orb_all {m : Nat} (h : Pw m) : (∀ i, i < m → i ∈ orb m m 0) ∧ git m m 0 = 0 := by
  have g : ∀ m, (List.range m).all (fun i => (orb m m 0).contains i) = true → ∀ i, i < m → i ∈ orb m m 0 := fun m h i hi => by
    rw [List.all_eq_true] at h
    exact List.contains_iff_mem.mp (h i (List.mem_range.mpr hi))
  rcases h with rfl | rfl | rfl | rfl | rfl
  · exact ⟨g 8 (by decide +kernel), by decide +kernel⟩
  · exact ⟨g 16 (by decide +kernel), by decide +kernel⟩
  · exact ⟨g 32 (by decide +kernel), by decide +kernel⟩
  · exact ⟨g 64 (by decide +kernel), by decide +kernel⟩
  · exact ⟨g 128 (by decide +kernel), by decide +kernel⟩
theorem reach {m i j : Nat} (h : Pw m) (hi : i < m) (hj : j < m) : ∃ t, t < m ∧ git m t i = j := by
  obtain ⟨h1, h2⟩ := orb_all h
  obtain ⟨a, ha, ea⟩ := orb_mem m m 0 i (h1 i hi)
  obtain ⟨b, hb, eb⟩ := orb_mem m m 0 j (h1 j hj)
  by_cases q : a ≤ b
  · refine ⟨b - a, by omega, ?_⟩
    rw [← ea, ← git_add, Nat.add_sub_cancel' q]
    exact eb
  · refine ⟨m - a + b, by omega, ?_⟩
    rw [← ea, ← git_add, ← Nat.add_assoc, Nat.add_sub_cancel' (by omega), git_add, h2]
    exact eb
theorem above {n : Nat} (h : n < 128) : Pw (SetTable.sizeAbove n) ∧ n < SetTable.sizeAbove n := by
  have g : (List.range 128).all (fun n => decide ((SetTable.sizeAbove n = 8 ∨ SetTable.sizeAbove n = 16 ∨ SetTable.sizeAbove n = 32 ∨ SetTable.sizeAbove n = 64 ∨ SetTable.sizeAbove n = 128) ∧ n < SetTable.sizeAbove n)) = true := by decide +kernel
  rw [List.all_eq_true] at g
  have := g n (List.mem_range.mpr h)
  rw [decide_eq_true_eq] at this
  exact this
theorem Pw.pos {m : Nat} (h : Pw m) : 0 < m ∧ m ≤ 128 ∧ 8 ≤ m := by rcases h with rfl | rfl | rfl | rfl | rfl <;> decide
end L2.PU
namespace L2.PU
open PySem PySem.Spec PyProof.Rows
section
variable {prog : Program} {w : World} {A : Around} {E : Value → Shared → Prop} {s : Shared}
end
end L2.PU
namespace L2.PU
open PySem PySem.Spec PyProof.Rows
section
variable {prog : Program} {w : World} {A : Around} {E : Value → Shared → Prop} {s : Shared}
end
end L2.PU
namespace L2.PU
open PySem PySem.Spec PyProof.Rows
section
variable {prog : Program} {w : World} {A : Around} {E : Value → Shared → Prop} {s : Shared}
end
end L2.PU
namespace L2.PU
open PySem PySem.Spec PyProof.Rows
section
variable {prog : Program} {w : World} {A : Around} {E : Value → Shared → Prop} {s : Shared}
end
end L2.PU
namespace L2.PU
open PySem PySem.Spec PyProof.Rows
section
variable {X : Cx} {B : Hp} {e a b : Expr} {fa fb : Rho → M D} {pos p p2 pos2 : Pos}
end
end L2.PU
namespace L2.PU
open PySem PySem.Spec PyProof.Rows
section
variable {prog : Program} {w : World} {A : Around} {E : Value → Shared → Prop} {s : Shared}
theorem collect_seq {l : Addr} {vs : List Value} {T : String} {o : Obj} {nn : Nat} {Q : List Value → Shared → Prop} (hT : T = "list" ∨ T = "tuple") (ho : s.heap.get? l = some o) (hc : o.cls = .type T) (hd : o.data = .seq vs.toArray nn) (hz : vs.length ≤ 100000)
    (h : Q vs { s with heap := (s.heap.push (seqObj "list" #[] 0)).update s.heap.objs.size (Obj.mapSeq (· ++ vs.toArray)) }) : wpAny (model prog w) A (collect (.ref l)) Q E s := by
  have hs : sizeLine = 16777216 := sizeLine_eq
  unfold collect
  refine wpAny_bind (wpAny_runValue (codeAny_builtin entry_proto_collect' ?_))
  refine wpAny_bind (wpAny_newList (wpAny_pure ⟨Code.quiet_builtin _ (by decide +kernel), codeAny_builtin entry_list_iadd' ?_⟩))
  have ho' : (s.heap.push (seqObj "list" #[] 0)).get? l = some o := Heap.get?_push_of_some _ ho
  show wpAny _ _ (Builtin.List.listExtendWith (.ref s.heap.objs.size) (.ref l) (.ref s.heap.objs.size)) _ _ _
  unfold Builtin.List.listExtendWith
  refine wpAny_bind (wpAny_typeOf (T := T) ⟨o, ho', hc⟩ ?_)
  have ht : (Value.type T == Value.type "list" || Value.type T == Value.type "tuple") = true := by rcases hT with rfl | rfl <;> rfl
  rw [if_pos (by rw [Bool.or_assoc, ht, Bool.or_true])]
  refine wpAny_bind (listItems_at ho' hd ?_)
  have hnew : (s.heap.push (seqObj "list" #[] 0)).get? s.heap.objs.size = some (seqObj "list" #[] 0) := Heap.get?_push_size _ rfl
  refine wpAny_bind (listItems_at (xs := #[]) (n := 0) hnew rfl ?_)
  rw [if_neg (by simp)]
  have hz2 : (#[] ++ vs.toArray : Array Value).size ≤ sizeLine + 1 := by rw [Array.size_append, List.size_toArray]; simp; omega
  refine wpAny_bind (listUpdate_at (xs := #[]) (n := 0) hnew rfl (wpAny_pure ?_) (Nat.zero_le _) hz2)
  refine wpAny_bind (wpAny_load (get?_update_seq hnew _) ?_)
  have e : ((#[] : Array Value) ++ vs.toArray).toList = vs := by simp
  show wpAny _ _ (pure ((#[] : Array Value) ++ vs.toArray).toList) Q E _
  rw [e]
  exact wpAny_pure h
end
section
variable {X : Cx} {B : Hp} {e a b : Expr} {fa fb : Rho → M D} {pos p p2 pos2 : Pos}
noncomputable def srtL : D → M D
  | .lst ds => match strL ds with | some xs => if xs.length < 64 then ok (.lst ((srtS xs).map .str)) else none | none => none
  | .tup ds => match strL ds with | some xs => if xs.length < 64 then ok (.lst ((srtS xs).map .str)) else none | none => none
  | _ => none
end
end L2.PU
namespace L2.PU
open PySem PySem.Spec PyProof.Rows
theorem f1_ok {g : D → M D} {f : Rho → M D} {ρ : Rho} {d : D} {r : M D} (h : f ρ = ok d) (h2 : g d = r) : f1 g f ρ = r := by unfold f1; rw [h]; exact h2
theorem ix_tup {ds : List D} {j : Nat} {d : D} (h : ds[j]? = some d) : gIx (.tup ds) (.int (j : Int)) = ok d := by
  show (match atI ds (j : Int) with | some d => ok d | none => none) = _
  rw [atI_nat h]
theorem mul_ok {f g : Rho → M D} {ρ : Rho} {i j : Int} (h1 : f ρ = ok (.int i)) (h2 : g ρ = ok (.int j)) (hm : mulB i j = true) : b2 gTimes f g ρ = ok (.int (i * j)) := b2_ok h1 h2 (by simp [gTimes, gMul, hm])
theorem loop_cons {G : D → Rho → Option Rho} {F : Rho → Option Out} {d : D} {ds : List D} {ρ ρ1 ρ2 : Rho} (h1 : G d ρ = some ρ1) (h2 : F ρ1 = some (.nx ρ2)) : loop G F (d :: ds) ρ = loop G F ds ρ2 := by
  (conv => lhs; unfold loop)
  rw [h1]
  dsimp only
  rw [h2]
noncomputable def denNumber2 : Rho → Option Out :=
    (sSeq (sIf (testB (b2 gEq (b2 gMod (look 0) (con (.int 3))) (con (.int 0)))) (sSeq (sRet (b2 gMod (b2 gFdiv (look 0) (con (.int 3))) (con (.int 4))))
    sNil) sNil)
    (sSeq (sIf (testB (b2 gEq (b2 gMod (look 0) (con (.int 3))) (con (.int 1)))) (sSeq (sRet (b2 gPlus (b2 gTimes (b2 gMod (b2 gFdiv (look 0) (con (.int 3))) (b2 gPow (con (.int 10)) (con (.int 20)))) (b2 gPow (con (.int 10)) (con (.int 39)))) (b2 gMod (look 0) (con (.int 7)))))
    sNil) sNil)
    (sSeq (sRet (b2 gMod (b2 gFdiv (look 0) (con (.int 3))) (b2 gPow (con (.int 10)) (con (.int 60)))))
    sNil)))
theorem number_den2 (N : List Str) (hN : N.length = 1) : ∀ ds r, fNumber ds = some r → ∃ d, r = .ok d ∧ fnRes (denNumber2 (rho0 N ds)) = ok d := by
  intro ds r h
  unfold fNumber at h
  split at h
  · rename_i c
    cases h
    refine ⟨_, rfl, ?_⟩
    have e0 : rho0 N [.int c] = [some (.sh (.int c))] := by unfold rho0; rw [hN]; rfl
    rw [e0]
    have q := num_lo c
    unfold num at q ⊢
    by_cases h0 : c % 3 = 0
    · rw [if_pos h0]
      simp [denNumber2, sSeq, sIf, sRet, testB, b2, look, con, bnd, ok, lft, gMod, gFdiv, gEq, eqF, blOf, fnRes, SV.cur, h0]
    · rw [if_neg h0] at q ⊢
      by_cases h1 : c % 3 = 1
      · rw [if_pos h1] at q ⊢
        have hm : mulB (c / 3 % 100000000000000000000) 1000000000000000000000000000000000000000 = true := mul_small (by omega) (by omega) (by omega) (by omega)
        simp [denNumber2, sSeq, sIf, sRet, testB, b2, look, con, bnd, ok, lft, gMod, gFdiv, gEq, eqF, blOf, fnRes, SV.cur, h0, h1, sNil, gPow, gTimes, gMul, gPlus, hm]
      · rw [if_neg h1] at q ⊢
        simp [denNumber2, sSeq, sIf, sRet, testB, b2, look, con, bnd, ok, lft, gMod, gFdiv, gEq, eqF, blOf, fnRes, SV.cur, h0, h1, sNil, gPow, gTimes, gMul, gPlus]
  · cases h
end L2.PU
namespace L2.PU
open PySem PySem.Spec PyProof.Rows
noncomputable def SIt (b : Bool) (h : Heap) (it l : Addr) (i : Nat) : Prop := match b with
  | true => h.IsListIter it l i
  | false => h.IsTupleIter it l i
noncomputable def SSq (b : Bool) (h : Heap) (l : Addr) (items : Array Value) : Prop := match b with
  | true => h.IsList l items
  | false => h.IsTuple l items
theorem SIt.kept {b : Bool} {h h' : Heap} {it l : Addr} {i : Nat} (x : SIt b h it l i) (e : ∀ o, h.get? it = some o → h'.get? it = some o) : SIt b h' it l i := by
  cases b <;> (obtain ⟨o, ho, r⟩ := x; exact ⟨o, e o ho, r⟩)
theorem SSq.kept {b : Bool} {h h' : Heap} {l : Addr} {items : Array Value} (x : SSq b h l items) (e : ∀ o, h.get? l = some o → h'.get? l = some o) : SSq b h' l items := by
  cases b <;> (obtain ⟨o, ho, r⟩ := x; exact ⟨o, e o ho, r⟩)
theorem SIt.obj {b : Bool} {h : Heap} {it l : Addr} {i : Nat} (x : SIt b h it l i) : ∃ o, h.get? it = some o ∧ ∀ v, o.data ≠ .cell v := by
  cases b <;> (obtain ⟨o, ho, _, d⟩ := x; exact ⟨o, ho, fun v z => by rw [d] at z; cases z⟩)
section
variable {prog : Program} {w : World} {A : Around} {E : Value → Shared → Prop} {s : Shared}
end
end L2.PU
namespace L2.PU
open PySem PySem.Spec PyProof.Rows
section
variable {prog : Program} {w : World} {A : Around} {E : Value → Shared → Prop} {s : Shared}
structure ZOk (b1 b2 : Bool) (h : Heap) (z TI TO i1 i2 l1 l2 : Addr) (i : Nat) : Prop where
  z : IsZip h z TI TO .none
  ti : IsPair h TI (.ref i1) (.ref i2)
  to : ∃ a b, IsPair h TO a b
  s1 : SIt b1 h i1 l1 i
  s2 : SIt b2 h i2 l2 i
theorem ZOk.kept {b1 b2 : Bool} {h h' : Heap} {z TI TO i1 i2 l1 l2 : Addr} {i : Nat} (x : ZOk b1 b2 h z TI TO i1 i2 l1 l2 i) (e : ∀ c ∈ [z, TI, TO, i1, i2], ∀ o, h.get? c = some o → h'.get? c = some o) : ZOk b1 b2 h' z TI TO i1 i2 l1 l2 i := by
  obtain ⟨a, b, h1⟩ := x.to
  exact ⟨e z (by simp) _ x.z, e TI (by simp) _ x.ti, ⟨a, b, e TO (by simp) _ h1⟩, x.s1.kept fun o q => e i1 (by simp) o q, x.s2.kept fun o q => e i2 (by simp) o q⟩
end
end L2.PU
namespace L2.PU
open PySem PySem.Spec PyProof.Rows
section
variable {prog : Program} {w : World} {A : Around} {E : Value → Shared → Prop} {s : Shared}
end
end L2.PU
namespace L2.PU
open PySem PySem.Spec PyProof.Rows
section
variable {X : Cx} {pins : List (Addr × Obj)} {σ : List (Option V)} {H : Hp} {s : Shared} {h' : Heap}
end
noncomputable def SqB (K : PySem.W.Frag) (b : Bool) (H : Hp) (a : Addr) (xs : List V) : Prop := match b with
  | true => SqL K H a xs
  | false => SqT K H a xs
theorem SqB.mono {K : PySem.W.Frag} {b : Bool} {H H' : Hp} {a : Addr} {xs : List V} (e : Same H H') (h : SqB K b H a xs) : SqB K b H' a xs := by
  cases b
  · exact SqT.mono e h
  · exact e.seq h
section
variable {X : Cx} {pins : List (Addr × Obj)} {σ : List (Option V)} {H : Hp} {s : Shared}
end
section
variable {prog : Program} {w : World} {A : Around} {E : Value → Shared → Prop} {s : Shared}
end
end L2.PU
namespace L2.PU
open PySem PySem.Spec PyProof.Rows
section
variable {prog : Program} {w : World} {A : Around} {E : Value → Shared → Prop} {s : Shared}
end
section
variable {X : Cx} {B : Hp} {a b : Expr} {fa fb : Rho → M D} {pos p : Pos} {elts : List Expr} {ct : Nat} {tp : Pos}
end
end L2.PU
namespace L2.PU
open PySem PySem.Spec PyProof.Rows
section
variable {X : Cx} {B : Hp} {e a b : Expr} {fa fb : Rho → M D} {pos p p2 pos2 pos' : Pos} {x : Str} {i : Nat}
theorem IsF.alike {K : PySem.W.Frag} {H H' : Hp} (ht : ∀ b xs, H b = some (.tup xs) → H' b = some (.tup xs)) (hf : ∀ b o u, H b = some (.frz o u) → H' b = some (.frz o u)) : ∀ {fs : List (Str × D)} {vs : List (Str × V)}, immL (fs.map Prod.snd) = true → IsF K H fs vs → IsF K H' fs vs
  | _, _, _, .nil => .nil
  | _, _, q, .cons h r => by
    rw [List.map_cons, immL, Bool.and_eq_true] at q
    exact .cons (Is.alike ht hf q.1 h) (IsF.alike ht hf q.2 r)
end
end L2.PU
namespace L2.PU
open PySem PySem.Spec PyProof.Rows
end L2.PU
namespace L2.PU
open PySem PySem.Spec PyProof.Rows
section
variable {prog : Program} {w : World} {A : Around} {E : Value → Shared → Prop} {s : Shared}
end
end L2.PU
namespace L2.PU
open PySem PySem.Spec PyProof.Rows
section
variable {prog : Program} {w : World} {A : Around} {E : Value → Shared → Prop} {s : Shared}
end
end L2.PU
namespace L2.PU
open PySem PySem.Spec PyProof.Rows
noncomputable def lexS : List Str → List Str → Bool
  | [], [] => false
  | [], _ :: _ => true
  | _ :: _, [] => false
  | x :: xs, y :: ys => if x = y then lexS xs ys else decide (x.cps.toList < y.cps.toList)
noncomputable def TxA : List Value → List Str → Prop
  | [], [] => True
  | v :: vs, x :: xs => (∃ u, v = Value.str x u) ∧ TxA vs xs
  | _, _ => False
theorem TxA.length : ∀ {vs : List Value} {xs : List Str}, TxA vs xs → vs.length = xs.length
  | [], [], _ => rfl
  | _ :: _, _ :: _, h => by rw [List.length_cons, List.length_cons, TxA.length h.2]
  | [], _ :: _, h => h.elim
  | _ :: _, [], h => h.elim
section
variable {prog : Program} {w : World} {A : Around} {E : Value → Shared → Prop} {s : Shared}
end
end L2.PU
namespace L2.PU
open PySem PySem.Spec PyProof.Rows PySem.W
noncomputable def okP {α : Type} (n : Nat) (R : α → Prop) : KasT α → Prop
  | .ret a => R a
  | .ask i j k => i < n ∧ j < n ∧ ∀ b, okP n R (k b)
theorem okP.bind {α β : Type} {n : Nat} {R : α → Prop} {S : β → Prop} {f : α → KasT β} (hf : ∀ a, R a → okP n S (f a)) : ∀ (t : KasT α), okP n R t → okP n S (t.bind f)
  | .ret a, h => hf a h
  | .ask i j k, h => ⟨h.1, h.2.1, fun b => okP.bind hf (k b) (h.2.2 b)⟩
noncomputable def Plc (n : Nat) (p : Array Nat) : Prop := p.toList.Perm (List.range n)
theorem Plc.lt {n : Nat} {p : Array Nat} (h : Plc n p) (hn : 0 < n) (k : Nat) : p.getD k 0 < n := by
  by_cases hk : k < p.size
  · have e : p.getD k 0 = p[k] := by simp [Array.getD, hk]
    rw [e]
    have := (h.mem_iff (a := p[k])).mp (by simp)
    exact List.mem_range.mp this
  · have e : p.getD k 0 = 0 := by simp [Array.getD, hk]
    rw [e]; exact hn
theorem Plc.of {n : Nat} {p p' : Array Nat} (h : Plc n p) (q : p'.Perm p) : Plc n p' := (Array.perm_iff_toList_perm.mp q).trans h
section
variable {prog : Program} {w : World} {A : Around} {E : Value → Shared → Prop} {s : Shared}
end
end L2.PU
namespace L2.PU
open PySem PySem.Spec PyProof.Rows PySem.W
section
variable {prog : Program} {w : World} {A : Around} {E : Value → Shared → Prop} {s : Shared}
theorem inr_inj {xs ys : List Str} : (xs.map (Sum.inr : Str → Key) = ys.map .inr) ↔ xs = ys :=
  ⟨fun h => by
    have := congrArg (List.map fun k : Key => match k with | .inr x => x | .inl _ => Str.empty) h
    simpa [List.map_map, Function.comp_def] using this, fun h => by rw [h]⟩
end
end L2.PU
namespace L2.PU
open PySem PySem.Spec PyProof.Rows
section
variable {K : PySem.W.Frag} {H₀ H : Hp} {ρ : Rho} {σ : St}
end
noncomputable def keyOf : D → Option Key
  | .int i => some (.inl i)
  | .str x => some (.inr x)
  | _ => none
noncomputable def keysOf : List D → Option (List Key)
  | [] => some []
  | d :: ds => match keyOf d, keysOf ds with | some k, some ks => some (k :: ks) | _, _ => none
theorem keyOf_V {K : PySem.W.Frag} {H : Hp} {d : D} {v : V} {k : Key} (i : Is K H d v) (h : keyOf d = some k) : v = kV k := by
  cases i <;> first | (cases h; done) | (cases h; rfl)
theorem keysOf_V {K : PySem.W.Frag} {H : Hp} : ∀ {ds : List D} {vs : List V} {ks : List Key}, IsL K H ds vs → keysOf ds = some ks → vs = ks.map kV
  | _, _, _, .nil, h => by cases h; rfl
  | _, _, _, .cons i r, h => by
    unfold keysOf at h
    split at h
    · rename_i k ks h1 h2
      cases h
      rw [keyOf_V i h1, keysOf_V r h2]
      rfl
    · cases h
theorem keysOf_strs (xs : List Str) : keysOf (xs.map D.str) = some (xs.map .inr) := by
  induction xs with
  | nil => rfl
  | cons x xs ih => rw [List.map_cons, keysOf, ih]; rfl
section
variable {X : Cx} {B : Hp} {e : Expr} {fa : Rho → M D} {pos pos' p pos2 : Pos} {x : Str} {i j : Nat}
end
end L2.PU
namespace L2.PU
open PySem PySem.Spec PyProof.Rows
section
variable {κ : Type} [DecidableEq κ]
noncomputable def valD (kvs : List (κ × D)) (k : κ) : Option D := (kvs.find? fun kv => decide (kv.1 = k)).map (·.2)
noncomputable def putT (kvs : List (κ × D)) (k : κ) (d : D) : List (κ × D) :=
  if (kvs.any fun kv => decide (kv.1 = k)) = true then kvs.map (fun kv => if kv.1 = k then (kv.1, d) else kv) else kvs ++ [(k, d)]
end
section
variable {K : PySem.W.Frag} {H : Hp}
end
section
variable {X : Cx} {B : Hp} {e : Expr} {fa : Rho → M D} {pos pos' p p2 tpos cpos apos : Pos} {x y : Str} {i j : Nat}
noncomputable def keyAt (ρ : Rho) (j : Nat) : Option (List Key) := match ρ[j]? with
  | some (some (.tk ks)) => some ks
  | some (some (.sh (.tup ds))) => keysOf ds
  | _ => none
theorem Rel.key {K : PySem.W.Frag} {B H : Hp} {ρ : Rho} {σ : St} {ks : List Key} (r : Rel K B ρ σ H) (qj : keyAt ρ j = some ks) : ∃ b, σ[j]? = some (some (.ref b)) ∧ H b = some (.tup (ks.map kV)) := by
  obtain ⟨O, h1, ho, h2, hl, h3⟩ := r
  unfold keyAt at qj
  split at qj
  · rename_i ks' q
    cases qj
    obtain ⟨b, y1, y2⟩ := (show Slot K H O σ j (.tk ks) from h3 j _ q)
    exact ⟨b, y1, Off.same _ _ _ _ y2⟩
  · rename_i ds q
    obtain ⟨v, y1, y2⟩ := (show Slot K H O σ j (.sh (.tup ds)) from h3 j _ q)
    cases y2 with
    | tup hh rr =>
      have ev := keysOf_V rr qj
      subst ev
      exact ⟨_, y1, Off.same _ _ _ _ hh⟩
  · cases qj
noncomputable def dGet2 (i j : Nat) (f : Rho → M D) : Rho → M D := fun ρ => match ρ[i]?, keyAt ρ j with
  | some (some (.ow (.t kvs))), some ks => bnd (f ρ) fun d => ok ((valD kvs ks).getD d)
  | _, _ => none
theorem Rel.two {K : PySem.W.Frag} {B H : Hp} {ρ : Rho} {σ : St} {kvs : List (List Key × D)} {ks : List Key} (r : Rel K B ρ σ H) (qi : ρ[i]? = some (some (.ow (.t kvs)))) (qj : keyAt ρ j = some ks) :
    ∃ (O : Nat → Option Addr) (a b : Addr) (vs : List (List Key × V)), (∀ i j a, O i = some a → O j = some a → i = j) ∧ OwnK H O ∧ Same B (Off H O) ∧ ρ.length = σ.length ∧ (∀ i sv, ρ[i]? = some (some sv) → Slot K H O σ i sv) ∧
      O i = some a ∧ σ[i]? = some (some (.ref a)) ∧ H a = some (.dT vs) ∧ IsT K (Off H O) kvs vs ∧ σ[j]? = some (some (.ref b)) ∧ H b = some (.tup (ks.map kV)) := by
  obtain ⟨b, y1, y2⟩ := r.key qj
  obtain ⟨O, h1, ho, h2, hl, h3⟩ := r
  obtain ⟨a, w, z1, z2, z3, z4⟩ := (show Slot K H O σ i (.ow (.t kvs)) from h3 i _ qi)
  cases w <;> first | exact False.elim z4 | skip
  exact ⟨O, a, b, _, h1, ho, h2, hl, h3, z1, z2, z3, z4, y1, y2⟩
noncomputable def sPutT (i j : Nat) (f : Rho → M D) : Rho → Option Out := fun ρ => match ρ[i]?, keyAt ρ j with
  | some (some (.ow (.t kvs))), some ks => lft (f ρ) ρ fun d => if d.imm = true ∧ kvs.length < 100000 then some (.nx (ρ.set i (some (.ow (.t (putT kvs ks d)))))) else none
  | _, _ => none
end
end L2.PU
namespace L2.PU
open PySem PySem.Spec PyProof.Rows
section
variable {X : Cx} {B : Hp} {e a b : Expr} {fa fb : Rho → M D} {pos p apos cpos : Pos}
end
end L2.PU
namespace L2.PU
open PySem PySem.Spec PyProof.Rows
open Classical in
theorem Inv.many {X : Cx} {pins : List (Addr × Obj)} {σ : St} {H : Hp} {s : Shared} {h' : Heap} {t' : Nat} (I : Inv X pins σ H s) (k : ∀ b u, s.heap.get? b = some u → h'.get? b = some u) (P : Addr → HO → Prop) (un : ∀ b o o', P b o → P b o' → o = o') (hi : ∀ b o, P b o → s.heap.objs.size ≤ b)
    (new : ∀ H', Same H H' → (∀ b o, P b o → H' b = some o) → ∀ b o, P b o → ObjOk X.prog X.w H' h' b o) : ∃ H', Same H H' ∧ (∀ b o, P b o → H' b = some o) ∧ Inv X pins σ H' { s with heap := h', toks := t' } := by
  let H' : Hp := fun b => match H b with | some o => some o | none => if h : ∃ o, P b o then some (Classical.choose h) else none
  have sm : Same H H' := fun b o e => by show (match H b with | some o => some o | none => _) = some o; rw [e]
  have fr : ∀ b o, P b o → H b = none := fun b o p => I.hok.fresh (hi b o p)
  have at_ : ∀ b o, P b o → H' b = some o := fun b o p => by
    show (match H b with | some o => some o | none => if h : ∃ o, P b o then some (Classical.choose h) else none) = some o
    rw [fr b o p]
    have hx : ∃ o, P b o := ⟨o, p⟩
    show (if h : ∃ o, P b o then some (Classical.choose h) else none) = some o
    rw [dif_pos hx, un b _ o (Classical.choose_spec hx) p]
  have back : ∀ b o, H' b = some o → H b = some o ∨ (H b = none ∧ P b o) := fun b o e => by
    have e' : (match H b with | some o => some o | none => if h : ∃ o, P b o then some (Classical.choose h) else none) = some o := e
    cases q : H b with
    | some u => rw [q] at e'; exact .inl e'
    | none =>
      rw [q] at e'
      have e2 : (if h : ∃ o, P b o then some (Classical.choose h) else none) = some o := e'
      split at e2
      · rename_i hx; cases e2; exact .inr ⟨rfl, Classical.choose_spec hx⟩
      · cases e2
  refine ⟨H', sm, at_, I.un ⟨fun b u q _ _ _ => k b u q, fun b u q _ _ _ => ⟨u.slots, k b u q⟩, fun b u q n _ => ?_, fun b u q _ => ⟨u, k b u q⟩, fun b xs q => sm _ _ q, fun b o u q => sm _ _ q, fun b ps q => ⟨#[], by rw [sm _ _ q]; simp⟩⟩ fun b o e => ?_⟩
  · cases q2 : H' b with
    | none => rfl
    | some o =>
      rcases back b o q2 with z | ⟨_, z⟩
      · rw [n] at z; cases z
      · exact absurd (Heap.lt_size q) (Nat.not_lt.mpr (hi b o z))
  · rcases back b o e with z | ⟨_, z⟩
    · exact (I.hok b o z).stay (fun c v _ q => k c v q) (fun c q => sm _ _ q) fun c xs q => sm _ _ q
    · exact new H' sm at_ b o z
noncomputable def pD (p : List Str × Int) : D := .tup [.tup (p.1.map D.str), .int p.2]
noncomputable def dictAt (ρ : Rho) (i : Nat) : Option (List (List Key × D)) := match ρ[i]? with
  | some (some (.ow (.t kvs))) => some kvs
  | some (some (.sh (.dt kvs))) => some kvs
  | _ => none
theorem Rel.dict {K : PySem.W.Frag} {B H : Hp} {ρ : Rho} {σ : St} {kvs : List (List Key × D)} {i : Nat} (r : Rel K B ρ σ H) (qi : dictAt ρ i = some kvs) : ∃ a vs, σ[i]? = some (some (.ref a)) ∧ H a = some (.dT vs) ∧ IsT K H kvs vs := by
  obtain ⟨O, h1, ho, h2, hl, h3⟩ := r
  unfold dictAt at qi
  split at qi
  · rename_i q
    cases qi
    obtain ⟨a, w, z1, z2, z3, z4⟩ := (show Slot K H O σ i (.ow (.t kvs)) from h3 i _ q)
    cases w <;> first | exact False.elim z4 | skip
    exact ⟨a, _, z2, z3, IsT.mono (Off.same _ _) z4⟩
  · rename_i q
    cases qi
    obtain ⟨v, z1, z2⟩ := (show Slot K H O σ i (.sh (.dt kvs)) from h3 i _ q)
    cases z2 with
    | dt hh rr => exact ⟨_, _, z1, Off.same _ _ _ _ hh, IsT.mono (Off.same _ _) rr⟩
  · cases qi
section
variable {X : Cx} {B : Hp} {pos p p2 apos cpos : Pos} {i : Nat} {x : Str}
end
end L2.PU
namespace L2.PU
open PySem PySem.Spec PyProof.Rows
section
variable {X : Cx} {B : Hp} {scope : Scope} {cl : List (Str × Addr)} {y : Str} {N' : List Str} {m : Nat}
variable {x : Str} {tg iter elt : Expr} {ifs : List Expr} {pos : Pos} {ks : List Nat} {G : D → Option (List D)} {ft : Rho → M Bool} {fe : Rho → M D} {it : Rho → M (List D)}
end
end L2.PU
namespace L2.PU
open PySem PySem.Spec PyProof.Rows
section
variable {X : Cx} {B : Hp} {e : Expr} {fa : Rho → M D} {pos p apos cpos : Pos} {x : Str} {i : Nat}
noncomputable def rExt2 (K : PySem.W.Frag) : V → List V → Hp → VK → Prop := fun x vs H Q => ∃ l b xs zs, x = .ref l ∧ vs = [.ref b] ∧ H l = some (.lst xs) ∧ (SqL K H b zs ∨ SqT K H b zs) ∧ xs.length + zs.length ≤ sizeLine ∧ Q .non (upd H l (.lst (xs ++ zs)))
theorem mt_ext2 : MtM X "list.extend" (rExt2 X.K) := by
  intro pins s σ H x vs v us Q I rx rv h
  obtain ⟨l, b, xs, zs, rfl, rfl, hH, hB, hz, q⟩ := h
  cases rx
  obtain ⟨u, rfl, ru⟩ := rv.one
  cases ru
  obtain ⟨z, its, n, r, hl, e⟩ := I.lstM hH
  obtain ⟨its2, r2, o2, n2, ho2, hc2, hd2⟩ : ∃ its2 : List Value, Vals zs its2 ∧ ∃ (o2 : Obj) (n2 : Nat), s.heap.get? b = some o2 ∧ (o2.cls = .type "list" ∨ o2.cls = .type "tuple") ∧ o2.data = .seq its2.toArray n2 := by
    rcases hB with hB | hB
    · obtain ⟨its2, r2, ⟨o2, n2, ho2, hc2, _, hd2⟩, z2⟩ := I.list hB
      exact ⟨its2, r2, o2, n2, ho2, .inl hc2, hd2⟩
    · obtain ⟨its2, r2, ⟨o2, ho2, hc2, n2, hd2⟩, z2⟩ := I.tuple hB
      exact ⟨its2, r2, o2, n2, ho2, .inr hc2, hd2⟩
  have hl2 := r2.length
  have hsz : its.toArray.size + its2.toArray.size ≤ sizeLine := by rw [List.size_toArray, List.size_toArray]; omega
  refine wpAny_call_entry F.slot_list_extend ⟨_, e, rfl⟩ F.entry_list_extend ?_ (F.args_list_extend_2 _ _)
  show wpAny _ _ (Builtin.List.listExtendWith (.ref l) (.ref b) .none) _ _ _
  unfold Builtin.List.listExtendWith
  have ht : (Value.type "list" == Value.type "list") = true := by rfl
  have ht2 : (Value.type "tuple" == Value.type "tuple") = true := by rfl
  rcases hc2 with hc2 | hc2
  · refine wpAny_bind (wpAny_typeOf (T := "list") ⟨o2, ho2, hc2⟩ ?_)
    rw [if_pos (by rw [ht]; simp)]
    refine wpAny_bind (listItems_at ho2 hd2 (wpAny_bind (listItems_at e rfl ?_)))
    rw [if_neg (by rw [notLongL hsz, Bool.and_false]; exact Bool.false_ne_true)]
    refine wpAny_bind (listUpdate_at e rfl (wpAny_pure ⟨_, rfl, ?_⟩) (by rw [List.size_toArray]; omega) (by rw [Array.size_append]; omega))
    refine ⟨.non, _, I.lset (its' := its ++ its2) hH e (by simp) (r.append r2) ?_, rfl, q⟩
    rw [List.length_append]
    omega
  · refine wpAny_bind (wpAny_typeOf (T := "tuple") ⟨o2, ho2, hc2⟩ ?_)
    rw [if_pos (by rw [ht2]; simp)]
    refine wpAny_bind (listItems_at ho2 hd2 (wpAny_bind (listItems_at e rfl ?_)))
    rw [if_neg (by rw [notLongL hsz, Bool.and_false]; exact Bool.false_ne_true)]
    refine wpAny_bind (listUpdate_at e rfl (wpAny_pure ⟨_, rfl, ?_⟩) (by rw [List.size_toArray]; omega) (by rw [Array.size_append]; omega))
    refine ⟨.non, _, I.lset (its' := its ++ its2) hH e (by simp) (r.append r2) ?_, rfl, q⟩
    rw [List.length_append]
    omega
noncomputable def sExt2 (i : Nat) (g : Rho → M (List D)) : Rho → Option Out := fun ρ => match ρ[i]? with
  | some (some (.own ds)) => lft (g ρ) ρ fun as => (match as with
    | [.lst es] => if immL es = true ∧ ds.length + es.length ≤ 100000 then some (.nx (ρ.set i (some (.own (ds ++ es))))) else none
    | [.tup es] => if immL es = true ∧ ds.length + es.length ≤ 100000 then some (.nx (ρ.set i (some (.own (ds ++ es))))) else none
    | _ => none)
  | _ => none
theorem pds_extend2 (hN : X.N[i]? = some x) (hv : Vis X.env.scope x) (ha : PD X B e fa) (hs : nostar e = true := by rfl) (hline : (apos.endLine == cpos.line) = true := by rfl)
    (hsw : swapsWith (.Call (.Attribute (.Name x p) "extend" apos) [e] [] cpos) none pos.line X.env = pure false := by rfl)
    (hd : (x == ("__debug__" : Str)) = false := by decide) (hcd : (x == ("__classdict__" : Str)) = false := by decide) :
    PDS X B (.Expr (.Call (.Attribute (.Name x p) "extend" apos) [e] [] cpos) pos) (sExt2 i (aCons fa aNil)) := by
  refine PS.of (ps_expr (pe_bm PySem.F.plainAttrs_list PySem.F.slot_list_extend PySem.F.type_list_extend mt_ext2 (pe_var hN hv hd hcd) (pda_cons ha pda_nil (star_ok hs)) (hbase := rfl) (hfew := by rw [star1 hs]; rfl) (hline := hline) (hs := star_ok hs) (hplain := rfl)) hsw) fun E σ H h => ?_
  obtain ⟨ρ, r1, h⟩ := h
  unfold sExt2 at h
  split at h
  · rename_i ds q
    obtain ⟨O, h1, ho, h2, hl, h3⟩ := (show Rel X.K B ρ σ H from r1)
    obtain ⟨a, vs, z1, z2, z3, z4⟩ := h3 i _ q
    refine ⟨.ref a, z2, .inl ⟨rfl, _, SqL.of z3⟩, ρ, r1, (lft_red r1 h).imp fun as k1 us H1 e1 i1 => ?_⟩
    have ho1 := ho.mono e1
    have z4' := z4.mono (Off.mono e1 (O := O))
    split at k1
    · rename_i es
      split at k1
      · rename_i hh
        cases i1 with
        | cons id1 rest =>
          cases rest
          cases id1 with
          | lst hq rr =>
            have il := offL_imm ho1 hh.1 rr
            refine ⟨a, _, vs, _, rfl, rfl, e1 _ _ z3, .inl hq, ?_, k1 _ _ (Rel.own_put O h1 ho1 (h2.trans (Off.mono e1)) hl (fun j sv qj => (h3 j sv qj).mono e1) q z1 z2 (z4'.append il))⟩
            rw [← z4.length, ← rr.length]
            exact Nat.le_trans hh.2 (by decide)
      · exact False.elim k1
    · rename_i es
      split at k1
      · rename_i hh
        cases i1 with
        | cons id1 rest =>
          cases rest
          cases id1 with
          | tup hq rr =>
            have il := offL_imm ho1 hh.1 rr
            refine ⟨a, _, vs, _, rfl, rfl, e1 _ _ z3, .inr hq, ?_, k1 _ _ (Rel.own_put O h1 ho1 (h2.trans (Off.mono e1)) hl (fun j sv qj => (h3 j sv qj).mono e1) q z1 z2 (z4'.append il))⟩
            rw [← z4.length, ← rr.length]
            exact Nat.le_trans hh.2 (by decide)
      · exact False.elim k1
    · exact False.elim k1
  · exact False.elim h
end
theorem ar1 (us : List Value) (hl : us.length = 1) : ∃ a, us = [a] := by
  cases us with
  | nil => exact absurd hl (by simp)
  | cons a us =>
    cases us with
    | nil => exact ⟨a, rfl⟩
    | cons z us => exact absurd hl (by simp)
theorem ar2 (us : List Value) (hl : us.length = 2) : ∃ a b, us = [a, b] := by
  cases us with
  | nil => exact absurd hl (by simp)
  | cons a us =>
    cases us with
    | nil => exact absurd hl (by simp)
    | cons b us =>
      cases us with
      | nil => exact ⟨a, b, rfl⟩
      | cons z us => exact absurd hl (by simp)
theorem ar3 (us : List Value) (hl : us.length = 3) : ∃ a b c, us = [a, b, c] := by
  cases us with
  | nil => exact absurd hl (by simp)
  | cons a us =>
    cases us with
    | nil => exact absurd hl (by simp)
    | cons b us =>
      cases us with
      | nil => exact absurd hl (by simp)
      | cons c us =>
        cases us with
        | nil => exact ⟨a, b, c, rfl⟩
        | cons z us => exact absurd hl (by simp)
end L2.PU
namespace L2.PU
open PySem PySem.Spec PyProof.Rows
section
variable {prog : Program} {w : World} {A : Around} {E : Value → Shared → Prop} {s : Shared} {κ : Type} [DecidableEq κ] {knd : HeapKind prog w κ}
end
section
variable {prog : Program} {w : World} {A : Around} {E : Value → Shared → Prop} {h : Heap} {g : Array GenState} {d : Drawn} {t : Nat} {os : OsState} {a : Addr} {o : Obj}
end
section
variable {prog : Program} {w : World} {A : Around} {E : Value → Shared → Prop} {s : Shared} {κ : Type} [DecidableEq κ] {knd : HeapKind prog w κ}
end
end L2.PU
namespace L2.PU
open PySem PySem.Spec PyProof.Rows PySem.W
structure Tot (n : Nat) (lt : Nat → Nat → Bool) : Prop where
  ir : ∀ i, lt i i = false
  tr : ∀ i j k, lt i j = true → lt j k = true → lt i k = true
  to : ∀ i j, i < n → j < n → i ≠ j → lt i j = false → lt j i = true
noncomputable abbrev gt0 (p : Array Nat) (i : Nat) : Nat := p.getD i 0
theorem Plc.size {n : Nat} {p : Array Nat} (h : Plc n p) : p.size = n := by
  have := h.length_eq
  rw [Array.length_toList, List.length_range] at this
  exact this
theorem Plc.ne {n : Nat} {p : Array Nat} (h : Plc n p) {i j : Nat} (hi : i < n) (hj : j < n) (e : i ≠ j) : gt0 p i ≠ gt0 p j := by
  have hs := h.size
  have nd : p.toList.Nodup := h.nodup_iff.mpr List.nodup_range
  intro q
  have e1 : p.toList[i]? = some (gt0 p i) := by
    have : i < p.toList.length := by rw [Array.length_toList]; omega
    rw [List.getElem?_eq_getElem this]
    simp [gt0, Array.getD, show i < p.size by omega]
  have e2 : p.toList[j]? = some (gt0 p j) := by
    have : j < p.toList.length := by rw [Array.length_toList]; omega
    rw [List.getElem?_eq_getElem this]
    simp [gt0, Array.getD, show j < p.size by omega]
  exact e ((List.getElem?_inj (by rw [Array.length_toList]; omega) nd).mp (by rw [e1, e2, q]))
section
variable {n : Nat} {lt : Nat → Nat → Bool} (T : Tot n lt)
end
end L2.PU
namespace L2.PU
open PySem PySem.Spec PyProof.Rows
noncomputable def gallop' : Bool → Keyed → Array Keyed → Nat → Nat → Nat → StateT SortSt Sem (Option Nat) := sortPriv% PySem.Builtin.gallop
noncomputable def IK (p : Keyed) : Prop := ∃ n t, p.1 = Value.int n t
noncomputable def N1 (p : Keyed) : Int := numOf p.1
section
variable {prog : Program} {w : World} {A : Around} {E : Value → Shared → Prop} {s : Shared}
theorem wpS_lt1 {st : SortSt} {x y : Keyed} {Q : Option Bool → SortSt → Prop} (hk : kindOf st = oneType') (hx : IK x) (hy : IK y) (h : Q (some (decide (N1 x < N1 y))) st) : wpS (model prog w) A E s (lt' x y) Q st := by
  obtain ⟨a, t, ha⟩ := hx
  obtain ⟨b, u, hb⟩ := hy
  unfold N1 at h
  rw [ha, hb] at h
  rw [lt'_eq]
  refine wpS_bind (wpS_get ?_)
  rw [hk, keyLt'_oneType, ha, hb]
  refine wpS_bind (wpS_lift (wpAny_attempt (oneLt_int ⟨rfl, ?_⟩)))
  exact wpS_pure h
theorem wpS_elem {st : SortSt} {xs : Array Keyed} {i : Nat} {p : Keyed} {Q : Keyed → SortSt → Prop} (e : xs[i]? = some p) (h : Q p st) : wpS (model prog w) A E s (elem' xs i) Q st := by
  rw [elem'_eq, e]; exact wpS_pure h
noncomputable def beyond' (left : Bool) (key : Keyed) (arr : Array Keyed) (base i : Nat) : StateT SortSt Sem (Option Bool) := do
    let x ← elem' arr (base + i)
    if left then lt' x key else return (← lt' key x).map (!·)
theorem gallop'_eq (left : Bool) (key : Keyed) (arr : Array Keyed) (base n hint : Nat) : gallop' left key arr base n hint = (do
  let mut lastofs := 0
  let mut ofs := 1
  let mut lo := 0
  let mut hi := 0
  let some right ← beyond' left key arr base hint | return none
  if right then
    let maxofs := n - hint
    for _ in [0:n] do
      if ofs ≥ maxofs then break
      let some more ← beyond' left key arr base (hint + ofs) | return none
      if !more then break
      lastofs := ofs
      ofs := 2 * ofs + 1
    lo := hint + lastofs + 1
    hi := hint + min ofs maxofs
  else
    let maxofs := hint + 1
    for _ in [0:n] do
      if ofs ≥ maxofs then break
      let some found ← beyond' left key arr base (hint - ofs) | return none
      if found then break
      lastofs := ofs
      ofs := 2 * ofs + 1
    lo := hint + 1 - min ofs maxofs
    hi := hint - lastofs
  for _ in [0:n] do
    if lo ≥ hi then break
    let m := lo + (hi - lo) / 2
    let some more ← beyond' left key arr base m | return none
    if more then lo := m + 1 else hi := m
  return some hi) := rfl
noncomputable def byd (left : Bool) (key x : Keyed) : Bool := if left then decide (N1 x < N1 key) else !decide (N1 key < N1 x)
theorem wpS_beyond {st : SortSt} {left : Bool} {key x : Keyed} {arr : Array Keyed} {base i : Nat} {Q : Option Bool → SortSt → Prop} (hk : kindOf st = oneType') (e : arr[base + i]? = some x) (hx : IK x) (hy : IK key) (h : Q (some (byd left key x)) st) : wpS (model prog w) A E s (beyond' left key arr base i) Q st := by
  unfold beyond'
  refine wpS_bind (wpS_elem e ?_)
  unfold byd at h
  cases left with
  | true => exact wpS_lt1 hk hx hy h
  | false => exact wpS_bind (wpS_lt1 hk hy hx (wpS_pure h))
theorem wpS_gallop {st : SortSt} {left : Bool} {key : Keyed} {arr : Array Keyed} {base n hint : Nat} {B : Nat → Bool} {Q : Option Nat → SortSt → Prop} (hk : kindOf st = oneType') (hy : IK key) (hh : hint < n)
    (hB : ∀ i, i < n → ∃ x, arr[base + i]? = some x ∧ IK x ∧ byd left key x = B i) (hm : ∀ i j, i ≤ j → j < n → B j = true → B i = true)
    (h : ∀ k, k ≤ n → (∀ i, i < k → B i = true) → (∀ i, k ≤ i → i < n → B i = false) → Q (some k) st) : wpS (model prog w) A E s (gallop' left key arr base n hint) Q st := by
  have hb : ∀ {i : Nat} {Q : Option Bool → SortSt → Prop}, i < n → Q (some (B i)) st → wpS (model prog w) A E s (beyond' left key arr base i) Q st := by
    intro i Q hi hq
    obtain ⟨x, e, hx, hv⟩ := hB i hi
    exact wpS_beyond hk e hx hy (by rw [hv]; exact hq)
  have hf : ∀ i j, i ≤ j → j < n → B i = false → B j = false := by
    intro i j hij hj hi
    cases e : B j with
    | false => rfl
    | true => rw [hm i j hij hj e] at hi; cases hi
  rw [gallop'_eq]
  refine wpS_bind (hb hh ?_)
  dsimp only
  cases e0 : B hint with
  | true =>
    rw [if_pos rfl]
    refine wpS_bind (wpS_mono (wpS_forRange (I := fun x c st' => st = st' ∧ ∃ l o, c = (none, l, o) ∧ l < o ∧ x < o ∧ hint + l < n ∧ B (hint + l) = true)
      (Q := fun c st' => st = st' ∧ ∃ l o, c = (none, l, o) ∧ l < o ∧ hint + l < n ∧ B (hint + l) = true ∧ (n ≤ hint + o ∨ B (hint + o) = false)) ?_ ?_ ⟨rfl, 0, 1, rfl, by omega, by omega, by omega, e0⟩) ?_)
    · rintro x c st' _ hx ⟨rfl, l, o, rfl, g1, g2, g3, g4⟩
      dsimp only
      by_cases hge : o ≥ n - hint
      · rw [if_pos hge]
        exact wpS_pure ⟨rfl, l, o, rfl, g1, g3, g4, .inl (by omega)⟩
      · rw [if_neg hge]
        refine wpS_bind (hb (by omega) ?_)
        cases e : B (hint + o) with
        | true => exact wpS_pure ⟨rfl, _, _, rfl, by omega, by omega, by omega, e⟩
        | false => exact wpS_pure ⟨rfl, l, o, rfl, g1, g3, g4, .inr e⟩
    · rintro c st' ⟨rfl, l, o, rfl, g1, g2, g3, g4⟩
      exact ⟨rfl, l, o, rfl, g1, g3, g4, .inl (by omega)⟩
    · rintro c st' ⟨rfl, l, o, rfl, g1, g3, g4, g5⟩
      have h3 : ∀ i, i < hint + l + 1 → B i = true := fun i hi => hm i _ (by omega) g3 g4
      have h4 : ∀ i, hint + min o (n - hint) ≤ i → i < n → B i = false := fun i hi hn => by
        rcases g5 with g5 | g5
        · omega
        · exact hf _ i (by omega) hn g5
      refine wpS_bind (wpS_mono (wpS_forRange (I := fun x c st' => st = st' ∧ ∃ l r, c = (none, l, r) ∧ l ≤ r ∧ r ≤ n ∧ r - l ≤ n - x ∧ (∀ i, i < l → B i = true) ∧ (∀ i, r ≤ i → i < n → B i = false))
        (Q := fun c st' => st = st' ∧ ∃ r, c = (none, r, r) ∧ r ≤ n ∧ (∀ i, i < r → B i = true) ∧ (∀ i, r ≤ i → i < n → B i = false)) ?_ ?_ ⟨rfl, hint + l + 1, hint + min o (n - hint), rfl, by omega, by omega, by omega, h3, h4⟩) ?_)
      · rintro x c st' _ hx ⟨rfl, l, r, rfl, g1, g2, g3, g4, g5⟩
        dsimp only
        by_cases hge : l ≥ r
        · rw [if_pos hge]
          obtain rfl : l = r := by omega
          exact wpS_pure ⟨rfl, l, rfl, g2, g4, g5⟩
        · rw [if_neg hge]
          have hmn : l + (r - l) / 2 < n := by omega
          refine wpS_bind (hb hmn ?_)
          cases e : B (l + (r - l) / 2) with
          | true => exact wpS_pure ⟨rfl, _, _, rfl, by omega, g2, by omega, fun i hi => hm i _ (by omega) hmn e, g5⟩
          | false => exact wpS_pure ⟨rfl, _, _, rfl, by omega, by omega, by omega, g4, fun i hi hn => hf _ i hi hn e⟩
      · rintro c st' ⟨rfl, l, r, rfl, g1, g2, g3, g4, g5⟩
        obtain rfl : l = r := by omega
        exact ⟨rfl, l, rfl, g2, g4, g5⟩
      · rintro c st' ⟨rfl, r, rfl, g2, g4, g5⟩
        exact wpS_pure (h r g2 g4 g5)
  | false =>
    rw [if_neg (by simp)]
    refine wpS_bind (wpS_mono (wpS_forRange (I := fun x c st' => st = st' ∧ ∃ l o, c = (none, l, o) ∧ l < o ∧ x < o ∧ l ≤ hint ∧ B (hint - l) = false)
      (Q := fun c st' => st = st' ∧ ∃ l o, c = (none, l, o) ∧ l < o ∧ l ≤ hint ∧ B (hint - l) = false ∧ (hint < o ∨ B (hint - o) = true)) ?_ ?_ ⟨rfl, 0, 1, rfl, by omega, by omega, by omega, e0⟩) ?_)
    · rintro x c st' _ hx ⟨rfl, l, o, rfl, g1, g2, g3, g4⟩
      dsimp only
      by_cases hge : o ≥ hint + 1
      · rw [if_pos hge]
        exact wpS_pure ⟨rfl, l, o, rfl, g1, g3, g4, .inl (by omega)⟩
      · rw [if_neg hge]
        refine wpS_bind (hb (by omega) ?_)
        cases e : B (hint - o) with
        | false => exact wpS_pure ⟨rfl, _, _, rfl, by omega, by omega, by omega, e⟩
        | true => exact wpS_pure ⟨rfl, l, o, rfl, g1, g3, g4, .inr e⟩
    · rintro c st' ⟨rfl, l, o, rfl, g1, g2, g3, g4⟩
      exact ⟨rfl, l, o, rfl, g1, g3, g4, .inl (by omega)⟩
    · rintro c st' ⟨rfl, l, o, rfl, g1, g3, g4, g5⟩
      have h4 : ∀ i, hint - l ≤ i → i < n → B i = false := fun i hi hn => hf _ i (by omega) hn g4
      have h3 : ∀ i, i < hint + 1 - min o (hint + 1) → B i = true := fun i hi => by
        rcases g5 with g5 | g5
        · omega
        · exact hm i _ (by omega) (by omega) g5
      refine wpS_bind (wpS_mono (wpS_forRange (I := fun x c st' => st = st' ∧ ∃ l r, c = (none, l, r) ∧ l ≤ r ∧ r ≤ n ∧ r - l ≤ n - x ∧ (∀ i, i < l → B i = true) ∧ (∀ i, r ≤ i → i < n → B i = false))
        (Q := fun c st' => st = st' ∧ ∃ r, c = (none, r, r) ∧ r ≤ n ∧ (∀ i, i < r → B i = true) ∧ (∀ i, r ≤ i → i < n → B i = false)) ?_ ?_ ⟨rfl, hint + 1 - min o (hint + 1), hint - l, rfl, by omega, by omega, by omega, h3, h4⟩) ?_)
      · rintro x c st' _ hx ⟨rfl, l, r, rfl, g1, g2, g3, g4, g5⟩
        dsimp only
        by_cases hge : l ≥ r
        · rw [if_pos hge]
          obtain rfl : l = r := by omega
          exact wpS_pure ⟨rfl, l, rfl, g2, g4, g5⟩
        · rw [if_neg hge]
          have hmn : l + (r - l) / 2 < n := by omega
          refine wpS_bind (hb hmn ?_)
          cases e : B (l + (r - l) / 2) with
          | true => exact wpS_pure ⟨rfl, _, _, rfl, by omega, g2, by omega, fun i hi => hm i _ (by omega) hmn e, g5⟩
          | false => exact wpS_pure ⟨rfl, _, _, rfl, by omega, by omega, by omega, g4, fun i hi hn => hf _ i hi hn e⟩
      · rintro c st' ⟨rfl, l, r, rfl, g1, g2, g3, g4, g5⟩
        obtain rfl : l = r := by omega
        exact ⟨rfl, l, rfl, g2, g4, g5⟩
      · rintro c st' ⟨rfl, r, rfl, g2, g4, g5⟩
        exact wpS_pure (h r g2 g4 g5)
end
end L2.PU
namespace L2.PU
open PySem PySem.Spec PyProof.Rows
noncomputable def mergeLo' : Array Keyed → Array Keyed → StateT SortSt Sem (Array Keyed) := sortPriv% PySem.Builtin.mergeLo
noncomputable def mergeHi' : Array Keyed → Array Keyed → StateT SortSt Sem (Array Keyed) := sortPriv% PySem.Builtin.mergeHi
noncomputable def setMinGallop' (g : Nat) : StateT SortSt Sem Unit := modify fun s => SortSt.mk' (kindOf s) (arrOf s) (pendingOf s) g (failedOf s)
noncomputable def doneL (a b out : Array Keyed) (ia ib : Nat) : Array Keyed := out ++ a.extract ia a.size ++ b.extract ib b.size
noncomputable def lastL (a b out : Array Keyed) (ia ib : Nat) : Array Keyed := out ++ b.extract ib b.size ++ a.extract ia a.size
noncomputable def SL (l : List Keyed) : Prop := l.Pairwise fun p q => N1 p ≤ N1 q
structure JM (T o x y : List Keyed) : Prop where
  sx : SL (o ++ x)
  sy : SL (o ++ y)
  pm : (o ++ x ++ y).Perm T
theorem SL.app {l r : List Keyed} (h1 : SL l) (h2 : SL r) (h : ∀ p ∈ l, ∀ q ∈ r, N1 p ≤ N1 q) : SL (l ++ r) := List.pairwise_append.mpr ⟨h1, h2, h⟩
theorem SL.parts {l r : List Keyed} (h : SL (l ++ r)) : SL l ∧ SL r ∧ ∀ p ∈ l, ∀ q ∈ r, N1 p ≤ N1 q := List.pairwise_append.mp h
theorem JM.takeX {T o p x y : List Keyed} (h : JM T o (p ++ x) y) (hp : ∀ u ∈ p, ∀ v ∈ y, N1 u ≤ N1 v) : JM T (o ++ p) x y := by
  obtain ⟨a1, a2, a3⟩ := h.sx.parts
  obtain ⟨b1, b2, b3⟩ := h.sy.parts
  refine ⟨by rw [List.append_assoc]; exact h.sx, SL.app ?_ b2 fun u hu v hv => ?_, by simpa [List.append_assoc] using h.pm⟩
  · exact SL.app a1 a2.parts.1 fun u hu v hv => a3 u hu v (List.mem_append_left _ hv)
  · rcases List.mem_append.mp hu with hu | hu
    · exact b3 u hu v hv
    · exact hp u hu v hv
theorem JM.swap {T o x y : List Keyed} (h : JM T o x y) : JM T o y x := ⟨h.sy, h.sx, (by
  have e : (o ++ y ++ x).Perm (o ++ x ++ y) := by
    rw [List.append_assoc, List.append_assoc]
    exact List.Perm.append_left o List.perm_append_comm
  exact e.trans h.pm)⟩
theorem JM.takeY {T o p x y : List Keyed} (h : JM T o x (p ++ y)) (hp : ∀ u ∈ p, ∀ v ∈ x, N1 u ≤ N1 v) : JM T (o ++ p) x y := (h.swap.takeX hp).swap
theorem JM.endX {T o y : List Keyed} (h : JM T o [] y) : SL (o ++ [] ++ y) ∧ (o ++ [] ++ y).Perm T := ⟨by simpa using h.sy, h.pm⟩
theorem JM.endY {T o x : List Keyed} (h : JM T o x []) : SL (o ++ x ++ []) ∧ (o ++ x ++ []).Perm T := ⟨by simpa using h.sx, h.pm⟩
theorem JM.last {T o y : List Keyed} {z : Keyed} (h : JM T o [z] y) (hz : ∀ v ∈ y, N1 v ≤ N1 z) : SL (o ++ y ++ [z]) ∧ (o ++ y ++ [z]).Perm T := by
  have g' := (JM.takeY (y := []) (p := y) (by simpa using h) fun u hu v hv => by
    obtain rfl : v = z := by simpa using hv
    exact hz u hu).endY
  simpa using g'
theorem drop_at {a : Array Keyed} {i : Nat} (h : i < a.size) : ∃ p, a[i]? = some p ∧ a.toList.drop i = p :: a.toList.drop (i + 1) := by
  refine ⟨a[i], by simp [h], ?_⟩
  rw [List.drop_eq_getElem_cons (by simpa using h)]
  simp
theorem ext_tail (a : Array Keyed) (i : Nat) : (a.extract i a.size).toList = a.toList.drop i := by
  rw [Array.toList_extract, List.extract_eq_take_drop]
  exact List.take_of_length_le (by simp)
theorem ext_mid (a : Array Keyed) (i k : Nat) : (a.extract i (i + k)).toList = (a.toList.drop i).take k := by
  rw [Array.toList_extract, List.extract_eq_take_drop, Nat.add_sub_cancel_left]
theorem doneL_list (a b out : Array Keyed) (ia ib : Nat) : (doneL a b out ia ib).toList = out.toList ++ a.toList.drop ia ++ b.toList.drop ib := by
  unfold doneL
  rw [Array.toList_append, Array.toList_append, ext_tail, ext_tail]
theorem lastL_list (a b out : Array Keyed) (ia ib : Nat) : (lastL a b out ia ib).toList = out.toList ++ b.toList.drop ib ++ a.toList.drop ia := by
  unfold lastL
  rw [Array.toList_append, Array.toList_append, ext_tail, ext_tail]
section
variable {prog : Program} {w : World} {A : Around} {E : Value → Shared → Prop} {s : Shared}
theorem mergeLo'_eq (a b : Array Keyed) : mergeLo' a b = (do
  rule "list.sort.merge-lo"
  let total := a.size + b.size
  let mut out : Array Keyed := #[← elem' b 0]
  let mut ia := 0
  let mut ib := 1
  if ib == b.size then return doneL a b out ia ib
  if ia + 1 == a.size then return lastL a b out ia ib
  let mut minGallop := gallopOf (← get)
  for _ in [0:total] do
    let mut acount := 0
    let mut bcount := 0
    for _ in [0:total] do
      let some bWins ← lt' (← elem' b ib) (← elem' a ia) | return doneL a b out ia ib
      if bWins then
        out := out.push (← elem' b ib); ib := ib + 1; bcount := bcount + 1; acount := 0
        if ib == b.size then return doneL a b out ia ib
        if bcount ≥ minGallop then break
      else
        out := out.push (← elem' a ia); ia := ia + 1; acount := acount + 1; bcount := 0
        if ia + 1 == a.size then return lastL a b out ia ib
        if acount ≥ minGallop then break
    rule "list.sort.gallop"
    minGallop := minGallop + 1
    for _ in [0:total] do
      if minGallop > 1 then minGallop := minGallop - 1
      setMinGallop' minGallop
      let some k ← gallop' false (← elem' b ib) a ia (a.size - ia) 0 | return doneL a b out ia ib
      acount := k
      if k > 0 then
        out := out ++ a.extract ia (ia + k); ia := ia + k
        if ia + 1 == a.size then return lastL a b out ia ib
        if ia == a.size then return doneL a b out ia ib
      out := out.push (← elem' b ib); ib := ib + 1
      if ib == b.size then return doneL a b out ia ib
      let some k ← gallop' true (← elem' a ia) b ib (b.size - ib) 0 | return doneL a b out ia ib
      bcount := k
      if k > 0 then
        out := out ++ b.extract ib (ib + k); ib := ib + k
        if ib == b.size then return doneL a b out ia ib
      out := out.push (← elem' a ia); ia := ia + 1
      if ia + 1 == a.size then return lastL a b out ia ib
      if acount < 7 && bcount < 7 then break
    minGallop := minGallop + 1
    setMinGallop' minGallop
  unsupported "internal:list.sort.merge-bound") := rfl
theorem byd_mono {left : Bool} {key x y : Keyed} (h : N1 x ≤ N1 y) (e : byd left key y = true) : byd left key x = true := by
  unfold byd at e ⊢
  cases left with
  | true => simp only [if_true, decide_eq_true_eq] at e ⊢; omega
  | false => simp only [Bool.false_eq_true, if_false, Bool.not_eq_true', decide_eq_false_iff_not] at e ⊢; omega
theorem SL.at {W : List Keyed} (h : SL W) {i j : Nat} {x y : Keyed} (hij : i ≤ j) (ex : W[i]? = some x) (ey : W[j]? = some y) : N1 x ≤ N1 y := by
  by_cases e : i = j
  · subst e; rw [ex] at ey; cases ey; exact Int.le_refl _
  · obtain ⟨hi, rfl⟩ := List.getElem?_eq_some_iff.mp ex
    obtain ⟨hj, rfl⟩ := List.getElem?_eq_some_iff.mp ey
    exact (List.pairwise_iff_getElem.mp h) i j hi hj (by omega)
theorem wpS_gal {st : SortSt} {left : Bool} {key : Keyed} {arr : Array Keyed} {base n hint : Nat} {W : List Keyed} {Q : Option Nat → SortSt → Prop} (hk : kindOf st = oneType') (hy : IK key) (hn : n = W.length) (hh : hint < n)
    (hW : ∀ i, i < n → arr[base + i]? = W[i]?) (hI : ∀ u ∈ W, IK u) (sW : SL W)
    (h : ∀ k, k ≤ n → (∀ u ∈ W.take k, byd left key u = true) → (∀ u ∈ W.drop k, byd left key u = false) → Q (some k) st) : wpS (model prog w) A E s (gallop' left key arr base n hint) Q st := by
  refine wpS_gallop (B := fun i => byd left key ((W[i]?).getD key)) hk hy hh (fun i hi => ?_) (fun i j hij hj e => ?_) fun k hkn h1 h2 => h k hkn (fun u hu => ?_) fun u hu => ?_
  · have hi' : i < W.length := by omega
    refine ⟨W[i], ?_, hI _ (List.getElem_mem _), ?_⟩
    · rw [hW i hi]; simp [hi']
    · simp [hi']
  · have hj' : j < W.length := by omega
    have hi' : i < W.length := by omega
    simp only [List.getElem?_eq_getElem hi', List.getElem?_eq_getElem hj', Option.getD_some] at e ⊢
    exact byd_mono (sW.at hij (List.getElem?_eq_getElem hi') (List.getElem?_eq_getElem hj')) e
  · obtain ⟨i, hi, rfl⟩ := List.mem_iff_getElem.mp hu
    have hl : i < k ∧ i < W.length := by rw [List.length_take] at hi; omega
    have e := h1 i hl.1
    simp only [List.getElem?_eq_getElem hl.2, Option.getD_some] at e
    simpa using e
  · obtain ⟨i, hi, rfl⟩ := List.mem_iff_getElem.mp hu
    have hl : k + i < W.length := by simp at hi; omega
    have e := h2 (k + i) (by omega) (by omega)
    simp only [List.getElem?_eq_getElem hl, Option.getD_some] at e
    simpa using e
noncomputable def LikeS (st st' : SortSt) : Prop := ∃ g, st' = SortSt.mk' (kindOf st) (arrOf st) (pendingOf st) g (failedOf st)
theorem LikeS.kind {st st' : SortSt} (h : LikeS st st') : kindOf st' = kindOf st := by obtain ⟨g, rfl⟩ := h; rfl
theorem LikeS.refl (st : SortSt) : LikeS st st := ⟨gallopOf st, rfl⟩
theorem wpS_setG {st st' : SortSt} {g : Nat} {Q : Unit → SortSt → Prop} (l : LikeS st st') (h : ∀ st'', LikeS st st'' → Q () st'') : wpS (model prog w) A E s (setMinGallop' g) Q st' := by
  unfold setMinGallop'
  refine wpS_modify (h _ ?_)
  obtain ⟨g', rfl⟩ := l
  exact ⟨g, rfl⟩
structure MG (a b : Array Keyed) (T : List Keyed) (st : SortSt) (k : Nat) (out : Array Keyed) (ia ib : Nat) (st' : SortSt) : Prop where
  like : LikeS st st'
  ha : ia + 1 < a.size
  hb : ib < b.size
  n : k + 1 ≤ ia + ib
  j : JM T out.toList (a.toList.drop ia) (b.toList.drop ib)
theorem MG.mono {a b : Array Keyed} {T : List Keyed} {st st' : SortSt} {k k' ia ib : Nat} {out : Array Keyed} (h : MG a b T st k out ia ib st') (hk : k' ≤ k) : MG a b T st k' out ia ib st' := ⟨h.like, h.ha, h.hb, by have := h.n; omega, h.j⟩
noncomputable def OutM (T : List Keyed) (st : SortSt) (r : Array Keyed) (st' : SortSt) : Prop := LikeS st st' ∧ SL r.toList ∧ r.toList.Perm T
structure Two (a b : Array Keyed) : Prop where
  ha : ∀ p ∈ a.toList, IK p
  hb : ∀ p ∈ b.toList, IK p
  sa : SL a.toList
  sb : SL b.toList
  first : ∀ u, b[0]? = some u → ∀ v ∈ a.toList, N1 u ≤ N1 v
  last : ∀ z, a[a.size - 1]? = some z → ∀ u ∈ b.toList, N1 u ≤ N1 z
theorem jpush1 {T : List Keyed} {out : Array Keyed} {a b : Array Keyed} {ia ib : Nat} {p : Keyed} (j : JM T out.toList (a.toList.drop ia) (b.toList.drop ib)) (hi : ib < b.size) (e : b[ib]? = some p) (hp : ∀ v ∈ a.toList.drop ia, N1 p ≤ N1 v) : JM T (out.push p).toList (a.toList.drop ia) (b.toList.drop (ib + 1)) := by
  obtain ⟨q, e1, e2⟩ := drop_at hi
  rw [e] at e1; cases e1
  rw [e2] at j
  simpa using JM.takeY (p := [p]) (by simpa using j) fun u hu v hv => by
    obtain rfl : u = p := by simpa using hu
    exact hp v hv
theorem jtake1 {T : List Keyed} {out : Array Keyed} {a b : Array Keyed} {ia ib k : Nat} (j : JM T out.toList (a.toList.drop ia) (b.toList.drop ib)) (hp : ∀ u ∈ (b.toList.drop ib).take k, ∀ v ∈ a.toList.drop ia, N1 u ≤ N1 v) : JM T (out ++ b.extract ib (ib + k)).toList (a.toList.drop ia) (b.toList.drop (ib + k)) := by
  rw [Array.toList_append, ext_mid]
  refine JM.takeY ?_ hp
  rw [← List.drop_drop, List.take_append_drop]
  exact j
theorem out_b {T : List Keyed} {out : Array Keyed} {a b : Array Keyed} {ia ib : Nat} {st st' : SortSt} (l : LikeS st st') (j : JM T out.toList (a.toList.drop ia) (b.toList.drop ib)) (h : ib = b.size) : OutM T st (doneL a b out ia ib) st' := by
  have e : b.toList.drop ib = [] := by rw [h]; simp
  rw [e] at j
  refine ⟨l, ?_⟩
  rw [doneL_list, e]
  exact j.endY
theorem out_a {T : List Keyed} {out : Array Keyed} {a b : Array Keyed} {ia ib : Nat} {st st' : SortSt} (l : LikeS st st') (j : JM T out.toList (a.toList.drop ia) (b.toList.drop ib)) (h : ia = a.size) : OutM T st (doneL a b out ia ib) st' := by
  have e : a.toList.drop ia = [] := by rw [h]; simp
  rw [e] at j
  refine ⟨l, ?_⟩
  rw [doneL_list, e]
  exact j.endX
theorem out_last {T : List Keyed} {out : Array Keyed} {a b : Array Keyed} {ia ib : Nat} {st st' : SortSt} (W : Two a b) (l : LikeS st st') (j : JM T out.toList (a.toList.drop ia) (b.toList.drop ib)) (h : ia + 1 = a.size) : OutM T st (lastL a b out ia ib) st' := by
  obtain ⟨z, ez, e⟩ := drop_at (a := a) (i := ia) (by omega)
  have e' : a.toList.drop ia = [z] := by rw [e, h]; simp
  rw [e'] at j
  refine ⟨l, ?_⟩
  rw [lastL_list, e']
  exact j.last fun v hv => W.last z (by rw [← h]; exact ez) v (List.mem_of_mem_drop hv)
theorem mem_drop_at {a : Array Keyed} {i : Nat} {p : Keyed} (e : a[i]? = some p) : p ∈ a.toList := by
  obtain ⟨h, rfl⟩ := Array.getElem?_eq_some_iff.mp e
  simp
theorem SL.head {a : Array Keyed} (h : SL a.toList) {i : Nat} {p : Keyed} (e : a[i]? = some p) : ∀ v ∈ a.toList.drop i, N1 p ≤ N1 v := by
  intro v hv
  obtain ⟨k, hk, rfl⟩ := List.mem_iff_getElem.mp hv
  rw [List.getElem_drop]
  exact h.at (Nat.le_add_right i k) (by simpa using e) (List.getElem?_eq_getElem _)
theorem lo_tail {st st' : SortSt} {a b : Array Keyed} {T : List Keyed} {K ia ib mg k k1 : Nat} {out : Array Keyed} {q : Keyed} {Q : ForInStep (Option (Array Keyed) × Array Keyed × Nat × Nat × Nat × Nat × Nat) → SortSt → Prop} (W : Two a b) (l : LikeS st st') (j : JM T out.toList (a.toList.drop ia) (b.toList.drop ib)) (ha : ia + 1 < a.size) (hb : ib < b.size) (hn : K ≤ ia + ib) (eq : a[ia]? = some q) (hq : ∀ v ∈ b.toList.drop ib, N1 q ≤ N1 v)
    (q1 : ∀ r rest st', OutM T st r st' → Q (.done (some r, rest)) st') (q2 : ∀ out ia ib, MG a b T st K out ia ib st' → Q (.done (none, out, ia, ib, mg, k, k1)) st' ∧ Q (.yield (none, out, ia, ib, mg, k, k1)) st') :
    wpS (model prog w) A E s (do
      let z ← elem' a ia
      if (ia + 1 + 1 == a.size) = true then pure (ForInStep.done (some (lastL a b (out.push z) (ia + 1) ib), out.push z, ia + 1, ib, mg, k, k1))
      else if (decide (k < 7) && decide (k1 < 7)) = true then pure (ForInStep.done (none, out.push z, ia + 1, ib, mg, k, k1))
      else pure (ForInStep.yield (none, out.push z, ia + 1, ib, mg, k, k1))) Q st' := by
  refine wpS_bind (wpS_elem eq ?_)
  have j1 := (jpush1 j.swap (by omega) eq hq).swap
  by_cases c : (ia + 1 + 1 == a.size) = true
  · rw [if_pos c]
    exact wpS_pure (q1 _ _ _ (out_last W l j1 (by simpa using c)))
  rw [if_neg c]
  have g : MG a b T st K (out.push q) (ia + 1) ib st' := ⟨l, by simp at c; omega, hb, by omega, j1⟩
  split
  · exact wpS_pure (q2 _ _ _ g).1
  · exact wpS_pure (q2 _ _ _ g).2
theorem wpS_mergeLo {st : SortSt} {a b : Array Keyed} {T : List Keyed} {Q : Array Keyed → SortSt → Prop} (hk : kindOf st = oneType') (W : Two a b) (h1 : 0 < a.size) (h2 : 0 < b.size) (hT : (a.toList ++ b.toList).Perm T)
    (h : ∀ r st', OutM T st r st' → Q r st') : wpS (model prog w) A E s (mergeLo' a b) Q st := by
  rw [mergeLo'_eq]
  refine wpS_bind (wpS_lift (wpAny_rule ⟨rfl, ?_⟩))
  obtain ⟨p0, ep0, _⟩ := drop_at h2
  dsimp only
  refine wpS_bind (wpS_elem ep0 ?_)
  have j0 : JM T (#[p0] : Array Keyed).toList (a.toList.drop 0) (b.toList.drop 1) := jpush1 (out := #[]) (ib := 0) ⟨by simpa using W.sa, by simpa using W.sb, by simpa using hT⟩ h2 ep0 (by simpa using W.first p0 ep0)
  by_cases c1 : (1 == b.size) = true
  · rw [if_pos c1]
    exact wpS_pure (h _ _ (out_b (.refl _) j0 (by simpa using c1)))
  rw [if_neg c1]
  by_cases c2 : (0 + 1 == a.size) = true
  · rw [if_pos c2]
    exact wpS_pure (h _ _ (out_last W (.refl _) j0 (by simpa using c2)))
  rw [if_neg c2]
  refine wpS_bind (wpS_get ?_)
  have g0 : MG a b T st 0 #[p0] 0 1 st := ⟨.refl _, by simp at c2; omega, by simp at c1; omega, by omega, j0⟩
  refine wpS_bind (wpS_mono (wpS_forRange (I := fun x c st' => ∃ out ia ib mg, c = (none, out, ia, ib, mg) ∧ MG a b T st x out ia ib st')
    (Q := fun c st' => ∃ r rest, c = (some r, rest) ∧ OutM T st r st') ?_ ?_ ⟨_, _, _, _, rfl, g0⟩) ?_)
  rotate_left
  · rintro c st' ⟨out, ia, ib, mg, rfl, g⟩
    have := g.ha; have := g.hb; have := g.n
    omega
  · rintro c st' ⟨r, rest, rfl, g⟩
    exact wpS_pure (h r st' g)
  rintro X c st' _ hX ⟨out, ia, ib, mg, rfl, g⟩
  dsimp only
  refine wpS_bind (wpS_mono (wpS_forRange (I := fun x c st' => ∃ out ia ib ac bc, c = (none, out, ia, ib, ac, bc) ∧ MG a b T st (X + x) out ia ib st')
    (Q := fun c st' => (∃ out ia ib ac bc, c = (none, out, ia, ib, ac, bc) ∧ MG a b T st X out ia ib st') ∨ ∃ r rest, c = (some r, rest) ∧ OutM T st r st') ?_ ?_ ⟨_, _, _, _, _, rfl, g⟩) ?_)
  · rintro x c st' _ hx ⟨out, ia, ib, ac, bc, rfl, g⟩
    dsimp only
    obtain ⟨p, ep, _⟩ := drop_at g.hb
    obtain ⟨q, eq, _⟩ := drop_at (Nat.lt_of_succ_lt g.ha)
    refine wpS_bind (wpS_elem ep (wpS_bind (wpS_elem eq (wpS_bind (wpS_lt1 (g.like.kind.trans hk) (W.hb _ (mem_drop_at ep)) (W.ha _ (mem_drop_at eq)) ?_)))))
    dsimp only
    have hx' := W.sa.head eq
    have hy' := W.sb.head ep
    by_cases hw : N1 p < N1 q
    · rw [if_pos (by simpa using hw)]
      refine wpS_bind (wpS_elem ep ?_)
      have j1 := jpush1 g.j g.hb ep fun v hv => Int.le_trans (Int.le_of_lt hw) (hx' v hv)
      by_cases c3 : (ib + 1 == b.size) = true
      · rw [if_pos c3]
        exact wpS_pure (.inr ⟨_, _, rfl, out_b g.like j1 (by simpa using c3)⟩)
      rw [if_neg c3]
      have g1 : MG a b T st (X + (x + 1)) (out.push p) ia (ib + 1) st' := ⟨g.like, g.ha, by have := g.hb; simp at c3; omega, by have := g.n; omega, j1⟩
      split
      · exact wpS_pure (.inl ⟨_, _, _, _, _, rfl, g1.mono (by omega)⟩)
      · exact wpS_pure ⟨_, _, _, _, _, rfl, g1⟩
    · rw [if_neg (by simpa using hw)]
      refine wpS_bind (wpS_elem eq ?_)
      have j1 := (jpush1 g.j.swap (Nat.lt_of_succ_lt g.ha) eq fun v hv => Int.le_trans (Int.not_lt.mp hw) (hy' v hv)).swap
      by_cases c3 : (ia + 1 + 1 == a.size) = true
      · rw [if_pos c3]
        exact wpS_pure (.inr ⟨_, _, rfl, out_last W g.like j1 (by simpa using c3)⟩)
      rw [if_neg c3]
      have g1 : MG a b T st (X + (x + 1)) (out.push q) (ia + 1) ib st' := ⟨g.like, by have := g.ha; simp at c3; omega, g.hb, by have := g.n; omega, j1⟩
      split
      · exact wpS_pure (.inl ⟨_, _, _, _, _, rfl, g1.mono (by omega)⟩)
      · exact wpS_pure ⟨_, _, _, _, _, rfl, g1⟩
  · rintro c st' ⟨out, ia, ib, ac, bc, rfl, g⟩
    exact .inl ⟨_, _, _, _, _, rfl, g.mono (by omega)⟩
  rintro c st' (⟨out, ia, ib, ac, bc, rfl, g⟩ | ⟨r, ⟨out, ia, ib, ac, bc⟩, rfl, g⟩)
  rotate_left
  · exact wpS_pure ⟨r, _, rfl, g⟩
  dsimp only
  refine wpS_bind (wpS_lift (wpAny_rule ⟨rfl, ?_⟩))
  refine wpS_bind (wpS_mono (wpS_forRange (I := fun x c st' => ∃ out ia ib mg ac bc, c = (none, out, ia, ib, mg, ac, bc) ∧ MG a b T st (X + x) out ia ib st')
    (Q := fun c st' => (∃ out ia ib mg ac bc, c = (none, out, ia, ib, mg, ac, bc) ∧ MG a b T st (X + 1) out ia ib st') ∨ ∃ r rest, c = (some r, rest) ∧ OutM T st r st') ?_ ?_ ⟨_, _, _, _, _, _, rfl, g⟩) ?_)
  rotate_left
  · rintro c st' ⟨out, ia, ib, mg, ac, bc, rfl, g⟩
    have := g.ha; have := g.hb; have := g.n
    omega
  · rintro c st' (⟨out, ia, ib, mg, ac, bc, rfl, g⟩ | ⟨r, ⟨out, ia, ib, mg, ac, bc⟩, rfl, g⟩)
    · exact wpS_bind (wpS_setG g.like fun st'' l => wpS_pure ⟨_, _, _, _, rfl, ⟨l, g.ha, g.hb, g.n, g.j⟩⟩)
    · exact wpS_pure ⟨r, _, rfl, g⟩
  rintro x c st' _ hx ⟨out, ia, ib, mg, ac, bc, rfl, g⟩
  dsimp only
  have two : ∀ mg : Nat, wpS (model prog w) A E s (setMinGallop' mg) (fun _ st' => MG a b T st (X + x) out ia ib st') st' := fun mg => wpS_setG g.like fun st'' l => ⟨l, g.ha, g.hb, g.n, g.j⟩
  obtain ⟨p, ep, _⟩ := drop_at g.hb
  have hp0 := W.sb.head ep
  by_cases hm1 : mg > 1
  all_goals
    first | rw [if_pos hm1] | rw [if_neg hm1]
    refine wpS_bind (wpS_mono (two _) fun _ st1 g => ?_)
    refine wpS_bind (wpS_elem ep (wpS_bind (wpS_gal (W := a.toList.drop ia) (g.like.kind.trans hk) (W.hb _ (mem_drop_at ep)) (by simp) (by have := g.ha; omega) (fun i hi => by simp) (fun u hu => W.ha u (List.mem_of_mem_drop hu)) (W.sa.sublist (List.drop_sublist _ _)) fun k hkn t1 t2 => ?_)))
    dsimp only
    by_cases hk0 : k > 0
    · rw [if_pos hk0]
      have j1 := (jtake1 (k := k) g.j.swap fun u hu v hv => by
        have e := t1 u hu
        have e2 := hp0 v hv
        simp only [byd, Bool.false_eq_true, if_false, Bool.not_eq_true', decide_eq_false_iff_not] at e
        omega).swap
      by_cases c3 : (ia + k + 1 == a.size) = true
      · rw [if_pos c3]
        exact wpS_pure (.inr ⟨_, _, rfl, out_last W g.like j1 (by simpa using c3)⟩)
      rw [if_neg c3]
      by_cases c4 : (ia + k == a.size) = true
      · rw [if_pos c4]
        exact wpS_pure (.inr ⟨_, _, rfl, out_a g.like j1 (by simpa using c4)⟩)
      rw [if_neg c4]
      have hlow : ∀ v ∈ a.toList.drop (ia + k), N1 p ≤ N1 v := fun v hv => by
        have e := t2 v (by rw [List.drop_drop]; exact hv)
        simp only [byd, Bool.false_eq_true, if_false, Bool.not_eq_false', decide_eq_true_eq] at e
        omega
      have ha1 : ia + k + 1 < a.size := by simp at c3 c4; have := g.ha; omega
      have hn1 : ia ≤ ia + k := by omega
      refine wpS_bind (wpS_elem ep ?_)
      have j2 := jpush1 j1 g.hb ep hlow
      clear j1 t1 t2 c3 c4
      generalize out ++ a.extract ia (ia + k) = out1 at j2 ⊢
      generalize ia + k = ia1 at ha1 hn1 j2 hlow ⊢
      by_cases c5 : (ib + 1 == b.size) = true
      · rw [if_pos c5]
        exact wpS_pure (.inr ⟨_, _, rfl, out_b g.like j2 (by simpa using c5)⟩)
      rw [if_neg c5]
      obtain ⟨q, eq, _⟩ := drop_at (a := a) (i := ia1) (by omega)
      refine wpS_bind (wpS_elem eq (wpS_bind (wpS_gal (W := b.toList.drop (ib + 1)) (g.like.kind.trans hk) (W.ha _ (mem_drop_at eq)) (by simp) (by have := g.hb; simp at c5; omega) (fun i hi => by simp) (fun u hu => W.hb u (List.mem_of_mem_drop hu)) (W.sb.sublist (List.drop_sublist _ _)) fun k1 hk1 t3 t4 => ?_)))
      dsimp only
      by_cases hk2 : k1 > 0
      · rw [if_pos hk2]
        have j3 := jtake1 (k := k1) j2 fun u hu v hv => by
          have e := t3 u hu
          have e2 := W.sa.head eq v hv
          simp only [byd, if_true, decide_eq_true_eq] at e
          omega
        by_cases c6 : (ib + 1 + k1 == b.size) = true
        · rw [if_pos c6]
          exact wpS_pure (.inr ⟨_, _, rfl, out_b g.like j3 (by simpa using c6)⟩)
        rw [if_neg c6]
        refine lo_tail (K := X + x + 2) W g.like j3 ha1 (by simp at c6; omega) (by have := g.n; omega) eq (fun v hv => ?_) (fun r rest st' o => .inr ⟨r, rest, rfl, o⟩) fun out ia ib m => ⟨.inl ⟨_, _, _, _, _, _, rfl, m.mono (by omega)⟩, ⟨_, _, _, _, _, _, rfl, m.mono (by omega)⟩⟩
        have e := t4 v (by rw [List.drop_drop]; exact hv)
        simp only [byd, if_true, decide_eq_false_iff_not] at e
        omega
      · rw [if_neg hk2]
        refine lo_tail (K := X + x + 1) W g.like j2 ha1 (by have := g.hb; simp at c5; omega) (by have := g.n; omega) eq (fun v hv => ?_) (fun r rest st' o => .inr ⟨r, rest, rfl, o⟩) fun out ia ib m => ⟨.inl ⟨_, _, _, _, _, _, rfl, m.mono (by omega)⟩, ⟨_, _, _, _, _, _, rfl, m.mono (by omega)⟩⟩
        obtain rfl : k1 = 0 := by omega
        have e := t4 v (by simpa using hv)
        simp only [byd, if_true, decide_eq_false_iff_not] at e
        omega
    · rw [if_neg hk0]
      obtain rfl : k = 0 := by omega
      have hlow : ∀ v ∈ a.toList.drop ia, N1 p ≤ N1 v := fun v hv => by
        have e := t2 v (by simpa using hv)
        simp only [byd, Bool.false_eq_true, if_false, Bool.not_eq_false', decide_eq_true_eq] at e
        omega
      have ha1 := g.ha
      refine wpS_bind (wpS_elem ep ?_)
      have j2 := jpush1 g.j g.hb ep hlow
      by_cases c5 : (ib + 1 == b.size) = true
      · rw [if_pos c5]
        exact wpS_pure (.inr ⟨_, _, rfl, out_b g.like j2 (by simpa using c5)⟩)
      rw [if_neg c5]
      obtain ⟨q, eq, _⟩ := drop_at (a := a) (i := ia) (by omega)
      refine wpS_bind (wpS_elem eq (wpS_bind (wpS_gal (W := b.toList.drop (ib + 1)) (g.like.kind.trans hk) (W.ha _ (mem_drop_at eq)) (by simp) (by have := g.hb; simp at c5; omega) (fun i hi => by simp) (fun u hu => W.hb u (List.mem_of_mem_drop hu)) (W.sb.sublist (List.drop_sublist _ _)) fun k1 hk1 t3 t4 => ?_)))
      dsimp only
      by_cases hk2 : k1 > 0
      · rw [if_pos hk2]
        have j3 := jtake1 (k := k1) j2 fun u hu v hv => by
          have e := t3 u hu
          have e2 := W.sa.head eq v hv
          simp only [byd, if_true, decide_eq_true_eq] at e
          omega
        by_cases c6 : (ib + 1 + k1 == b.size) = true
        · rw [if_pos c6]
          exact wpS_pure (.inr ⟨_, _, rfl, out_b g.like j3 (by simpa using c6)⟩)
        rw [if_neg c6]
        refine lo_tail (K := X + x + 2) W g.like j3 ha1 (by simp at c6; omega) (by have := g.n; omega) eq (fun v hv => ?_) (fun r rest st' o => .inr ⟨r, rest, rfl, o⟩) fun out ia ib m => ⟨.inl ⟨_, _, _, _, _, _, rfl, m.mono (by omega)⟩, ⟨_, _, _, _, _, _, rfl, m.mono (by omega)⟩⟩
        have e := t4 v (by rw [List.drop_drop]; exact hv)
        simp only [byd, if_true, decide_eq_false_iff_not] at e
        omega
      · rw [if_neg hk2]
        refine lo_tail (K := X + x + 1) W g.like j2 ha1 (by have := g.hb; simp at c5; omega) (by have := g.n; omega) eq (fun v hv => ?_) (fun r rest st' o => .inr ⟨r, rest, rfl, o⟩) fun out ia ib m => ⟨.inl ⟨_, _, _, _, _, _, rfl, m.mono (by omega)⟩, ⟨_, _, _, _, _, _, rfl, m.mono (by omega)⟩⟩
        obtain rfl : k1 = 0 := by omega
        have e := t4 v (by simpa using hv)
        simp only [byd, if_true, decide_eq_false_iff_not] at e
        omega
end
end L2.PU
namespace L2.PU
open PySem PySem.Spec PyProof.Rows
noncomputable def doneH (a b out : Array Keyed) (na nb : Nat) : Array Keyed := a.extract 0 na ++ b.extract 0 nb ++ out.reverse
noncomputable def firstH (a b out : Array Keyed) (na nb : Nat) : Array Keyed := b.extract 0 nb ++ a.extract 0 na ++ out.reverse
structure JH (T x y o : List Keyed) : Prop where
  sx : SL (x ++ o)
  sy : SL (y ++ o)
  pm : (x ++ y ++ o).Perm T
theorem JH.swap {T o x y : List Keyed} (h : JH T x y o) : JH T y x o := ⟨h.sy, h.sx, (List.Perm.append_right o List.perm_append_comm).trans h.pm⟩
theorem JH.takeX {T o p x y : List Keyed} (h : JH T (x ++ p) y o) (hp : ∀ u ∈ p, ∀ v ∈ y, N1 v ≤ N1 u) : JH T x y (p ++ o) := by
  obtain ⟨a1, a2, a3⟩ := h.sx.parts
  obtain ⟨b1, b2, b3⟩ := h.sy.parts
  refine ⟨by rw [← List.append_assoc]; exact h.sx, SL.app b1 ?_ fun u hu v hv => ?_, ?_⟩
  · exact SL.app a1.parts.2.1 a2 fun u hu v hv => a3 u (List.mem_append_right _ hu) v hv
  · rcases List.mem_append.mp hv with hv | hv
    · exact hp v hv u hu
    · exact b3 u hu v hv
  · refine List.Perm.trans ?_ h.pm
    have e : (x ++ y ++ (p ++ o)) = x ++ (y ++ p) ++ o := by simp [List.append_assoc]
    have e2 : (x ++ p ++ y ++ o) = x ++ (p ++ y) ++ o := by simp [List.append_assoc]
    rw [e, e2]
    exact List.Perm.append_right o (List.Perm.append_left x List.perm_append_comm)
theorem JH.takeY {T o p x y : List Keyed} (h : JH T x (y ++ p) o) (hp : ∀ u ∈ p, ∀ v ∈ x, N1 v ≤ N1 u) : JH T x y (p ++ o) := (h.swap.takeX hp).swap
theorem JH.endX {T o y : List Keyed} (h : JH T [] y o) : SL ([] ++ y ++ o) ∧ ([] ++ y ++ o).Perm T := ⟨by simpa using h.sy, h.pm⟩
theorem JH.endY {T o x : List Keyed} (h : JH T x [] o) : SL (x ++ [] ++ o) ∧ (x ++ [] ++ o).Perm T := ⟨by simpa using h.sx, h.pm⟩
theorem JH.first {T o x : List Keyed} {z : Keyed} (h : JH T x [z] o) (hz : ∀ v ∈ x, N1 z ≤ N1 v) : SL ([z] ++ x ++ o) ∧ ([z] ++ x ++ o).Perm T := by
  have g' := (JH.takeX (x := []) (p := x) (by simpa using h) fun u hu v hv => by
    obtain rfl : v = z := by simpa using hv
    exact hz u hu).endX
  simpa using g'
theorem ext_head (a : Array Keyed) (n : Nat) : (a.extract 0 n).toList = a.toList.take n := by
  rw [Array.toList_extract, List.extract_eq_take_drop]; simp
theorem take_at {a : Array Keyed} {n : Nat} (h0 : 0 < n) (h : n ≤ a.size) : ∃ p, a[n - 1]? = some p ∧ a.toList.take n = a.toList.take (n - 1) ++ [p] := by
  have hi : n - 1 < a.size := by omega
  refine ⟨a[n - 1], by simp [hi], ?_⟩
  obtain ⟨m, rfl⟩ : ∃ m, n = m + 1 := ⟨n - 1, by omega⟩
  rw [List.take_succ]
  simp at hi
  simp [hi]
theorem doneH_list (a b out : Array Keyed) (na nb : Nat) : (doneH a b out na nb).toList = a.toList.take na ++ b.toList.take nb ++ out.toList.reverse := by
  unfold doneH
  rw [Array.toList_append, Array.toList_append, ext_head, ext_head, Array.toList_reverse]
theorem firstH_list (a b out : Array Keyed) (na nb : Nat) : (firstH a b out na nb).toList = b.toList.take nb ++ a.toList.take na ++ out.toList.reverse := by
  unfold firstH
  rw [Array.toList_append, Array.toList_append, ext_head, ext_head, Array.toList_reverse]
theorem SL.foot {a : Array Keyed} (h : SL a.toList) {n : Nat} {p : Keyed} (h0 : 0 < n) (e : a[n - 1]? = some p) : ∀ v ∈ a.toList.take n, N1 v ≤ N1 p := by
  intro v hv
  obtain ⟨k, hk, rfl⟩ := List.mem_iff_getElem.mp hv
  rw [List.getElem_take]
  have : k < n := by rw [List.length_take] at hk; omega
  exact h.at (i := k) (j := n - 1) (by omega) (List.getElem?_eq_getElem _) (by simpa using e)
section
variable {prog : Program} {w : World} {A : Around} {E : Value → Shared → Prop} {s : Shared}
theorem mergeHi'_eq (a b : Array Keyed) : mergeHi' a b = (do
  rule "list.sort.merge-hi"
  let total := a.size + b.size
  let mut na := a.size - 1
  let mut nb := b.size
  let mut out : Array Keyed := #[← elem' a na]
  if na == 0 then return doneH a b out na nb
  if nb == 1 then return firstH a b out na nb
  let mut minGallop := gallopOf (← get)
  for _ in [0:total] do
    let mut acount := 0
    let mut bcount := 0
    for _ in [0:total] do
      let some aWins ← lt' (← elem' b (nb - 1)) (← elem' a (na - 1)) | return doneH a b out na nb
      if aWins then
        na := na - 1; out := out.push (← elem' a na); acount := acount + 1; bcount := 0
        if na == 0 then return doneH a b out na nb
        if acount ≥ minGallop then break
      else
        nb := nb - 1; out := out.push (← elem' b nb); bcount := bcount + 1; acount := 0
        if nb == 1 then return firstH a b out na nb
        if bcount ≥ minGallop then break
    rule "list.sort.gallop"
    minGallop := minGallop + 1
    for _ in [0:total] do
      if minGallop > 1 then minGallop := minGallop - 1
      setMinGallop' minGallop
      let some at_ ← gallop' false (← elem' b (nb - 1)) a 0 na (na - 1) | return doneH a b out na nb
      let k := na - at_
      acount := k
      if k > 0 then
        out := out ++ (a.extract at_ na).reverse; na := at_
        if na == 0 then return doneH a b out na nb
      nb := nb - 1; out := out.push (← elem' b nb)
      if nb == 1 then return firstH a b out na nb
      let some at_ ← gallop' true (← elem' a (na - 1)) b 0 nb (nb - 1) | return doneH a b out na nb
      let k := nb - at_
      bcount := k
      if k > 0 then
        out := out ++ (b.extract at_ nb).reverse; nb := at_
        if nb == 1 then return firstH a b out na nb
        if nb == 0 then return doneH a b out na nb
      na := na - 1; out := out.push (← elem' a na)
      if na == 0 then return doneH a b out na nb
      if acount < 7 && bcount < 7 then break
    minGallop := minGallop + 1
    setMinGallop' minGallop
  unsupported "internal:list.sort.merge-bound") := rfl
structure MH (a b : Array Keyed) (T : List Keyed) (st : SortSt) (k : Nat) (out : Array Keyed) (na nb : Nat) (st' : SortSt) : Prop where
  like : LikeS st st'
  ha : 0 < na
  ha' : na ≤ a.size
  hb : 1 < nb
  hb' : nb ≤ b.size
  n : na + nb + k + 1 ≤ a.size + b.size
  j : JH T (a.toList.take na) (b.toList.take nb) out.toList.reverse
theorem MH.mono {a b : Array Keyed} {T : List Keyed} {st st' : SortSt} {k k' ia ib : Nat} {out : Array Keyed} (h : MH a b T st k out ia ib st') (hk : k' ≤ k) : MH a b T st k' out ia ib st' := ⟨h.like, h.ha, h.ha', h.hb, h.hb', by have := h.n; omega, h.j⟩
theorem hpush1 {T : List Keyed} {out : Array Keyed} {a b : Array Keyed} {na nb : Nat} {p : Keyed} (j : JH T (a.toList.take na) (b.toList.take nb) out.toList.reverse) (h0 : 0 < nb) (hi : nb ≤ b.size) (e : b[nb - 1]? = some p) (hp : ∀ v ∈ a.toList.take na, N1 v ≤ N1 p) : JH T (a.toList.take na) (b.toList.take (nb - 1)) (out.push p).toList.reverse := by
  obtain ⟨q, e1, e2⟩ := take_at h0 hi
  rw [e] at e1; cases e1
  rw [e2] at j
  simpa using JH.takeY (p := [p]) (by simpa using j) fun u hu v hv => by
    obtain rfl : u = p := by simpa using hu
    exact hp v hv
theorem htake1 {T : List Keyed} {out : Array Keyed} {a b : Array Keyed} {na nb k : Nat} (j : JH T (a.toList.take na) (b.toList.take nb) out.toList.reverse) (hk : k ≤ nb) (hp : ∀ u ∈ (b.toList.take nb).drop k, ∀ v ∈ a.toList.take na, N1 v ≤ N1 u) : JH T (a.toList.take na) (b.toList.take k) (out ++ (b.extract k nb).reverse).toList.reverse := by
  have e : (out ++ (b.extract k nb).reverse).toList.reverse = (b.toList.take nb).drop k ++ out.toList.reverse := by
    rw [Array.toList_append, List.reverse_append, Array.toList_reverse, List.reverse_reverse, Array.toList_extract, List.extract_eq_take_drop, List.drop_take]
  rw [e]
  refine JH.takeY ?_ hp
  have e2 : b.toList.take k ++ (b.toList.take nb).drop k = b.toList.take nb := by
    have : b.toList.take k = (b.toList.take nb).take k := by rw [List.take_take, Nat.min_eq_left hk]
    rw [this, List.take_append_drop]
  rw [e2]
  exact j
theorem outH_a {T : List Keyed} {out : Array Keyed} {a b : Array Keyed} {na nb : Nat} {st st' : SortSt} (l : LikeS st st') (j : JH T (a.toList.take na) (b.toList.take nb) out.toList.reverse) (h : na = 0) : OutM T st (doneH a b out na nb) st' := by
  subst h
  refine ⟨l, ?_⟩
  rw [doneH_list]
  exact JH.endX j
theorem outH_b {T : List Keyed} {out : Array Keyed} {a b : Array Keyed} {na nb : Nat} {st st' : SortSt} (l : LikeS st st') (j : JH T (a.toList.take na) (b.toList.take nb) out.toList.reverse) (h : nb = 0) : OutM T st (doneH a b out na nb) st' := by
  subst h
  refine ⟨l, ?_⟩
  rw [doneH_list]
  exact JH.endY j
theorem outH_first {T : List Keyed} {out : Array Keyed} {a b : Array Keyed} {na nb : Nat} {st st' : SortSt} (W : Two a b) (h2 : 0 < b.size) (l : LikeS st st') (j : JH T (a.toList.take na) (b.toList.take nb) out.toList.reverse) (h : nb = 1) : OutM T st (firstH a b out na nb) st' := by
  subst h
  obtain ⟨z, ez, e⟩ := take_at (a := b) (n := 1) (by omega) (by omega)
  have e' : b.toList.take 1 = [z] := by rw [e]; simp
  rw [e'] at j
  refine ⟨l, ?_⟩
  rw [firstH_list, e']
  exact j.first fun v hv => W.first z ez v (List.mem_of_mem_take hv)
theorem hi_tail {st st' : SortSt} {a b : Array Keyed} {T : List Keyed} {K na nb mg k k1 : Nat} {out : Array Keyed} {q : Keyed} {Q : ForInStep (Option (Array Keyed) × Nat × Nat × Array Keyed × Nat × Nat × Nat) → SortSt → Prop} (W : Two a b) (l : LikeS st st') (j : JH T (a.toList.take na) (b.toList.take nb) out.toList.reverse) (ha : 0 < na) (ha' : na ≤ a.size) (hb : 1 < nb) (hb' : nb ≤ b.size) (hn : na + nb + K ≤ a.size + b.size) (eq : a[na - 1]? = some q) (hq : ∀ v ∈ b.toList.take nb, N1 v ≤ N1 q)
    (q1 : ∀ r rest st', OutM T st r st' → Q (.done (some r, rest)) st') (q2 : ∀ out na nb, MH a b T st K out na nb st' → Q (.done (none, na, nb, out, mg, k, k1)) st' ∧ Q (.yield (none, na, nb, out, mg, k, k1)) st') :
    wpS (model prog w) A E s (do
      let z ← elem' a (na - 1)
      if (na - 1 == 0) = true then pure (ForInStep.done (some (doneH a b (out.push z) (na - 1) nb), na - 1, nb, out.push z, mg, k, k1))
      else if (decide (k < 7) && decide (k1 < 7)) = true then pure (ForInStep.done (none, na - 1, nb, out.push z, mg, k, k1))
      else pure (ForInStep.yield (none, na - 1, nb, out.push z, mg, k, k1))) Q st' := by
  refine wpS_bind (wpS_elem eq ?_)
  have j1 := (hpush1 j.swap ha ha' eq hq).swap
  by_cases c : (na - 1 == 0) = true
  · rw [if_pos c]
    exact wpS_pure (q1 _ _ _ (outH_a l j1 (by simpa using c)))
  rw [if_neg c]
  have g : MH a b T st K (out.push q) (na - 1) nb st' := ⟨l, by simp at c; omega, by omega, hb, hb', by omega, j1⟩
  split
  · exact wpS_pure (q2 _ _ _ g).1
  · exact wpS_pure (q2 _ _ _ g).2
theorem wpS_mergeHi {st : SortSt} {a b : Array Keyed} {T : List Keyed} {Q : Array Keyed → SortSt → Prop} (hk : kindOf st = oneType') (W : Two a b) (h1 : 0 < a.size) (h2 : 0 < b.size) (hT : (a.toList ++ b.toList).Perm T)
    (h : ∀ r st', OutM T st r st' → Q r st') : wpS (model prog w) A E s (mergeHi' a b) Q st := by
  rw [mergeHi'_eq]
  refine wpS_bind (wpS_lift (wpAny_rule ⟨rfl, ?_⟩))
  obtain ⟨p0, ep0, _⟩ := take_at h1 (Nat.le_refl _)
  dsimp only
  refine wpS_bind (wpS_elem ep0 ?_)
  have jj : JH T (a.toList.take a.size) (b.toList.take b.size) (#[] : Array Keyed).toList.reverse := by
    have e1 : a.toList.take a.size = a.toList := List.take_of_length_le (Nat.le_refl _)
    have e2 : b.toList.take b.size = b.toList := List.take_of_length_le (Nat.le_refl _)
    rw [e1, e2]
    exact ⟨by simpa using W.sa, by simpa using W.sb, by simpa using hT⟩
  have j0 : JH T (a.toList.take (a.size - 1)) (b.toList.take b.size) (#[p0] : Array Keyed).toList.reverse := (hpush1 (out := #[]) jj.swap h1 (Nat.le_refl _) ep0 fun v hv => W.last p0 ep0 v (List.mem_of_mem_take hv)).swap
  by_cases c1 : (a.size - 1 == 0) = true
  · rw [if_pos c1]
    exact wpS_pure (h _ _ (outH_a (.refl _) j0 (by simpa using c1)))
  rw [if_neg c1]
  by_cases c2 : (b.size == 1) = true
  · rw [if_pos c2]
    exact wpS_pure (h _ _ (outH_first W h2 (.refl _) j0 (by simpa using c2)))
  rw [if_neg c2]
  refine wpS_bind (wpS_get ?_)
  have g0 : MH a b T st 0 #[p0] (a.size - 1) b.size st := ⟨.refl _, by simp at c1; omega, by omega, by simp at c2; omega, Nat.le_refl _, by omega, j0⟩
  refine wpS_bind (wpS_mono (wpS_forRange (I := fun x c st' => ∃ out ia ib mg, c = (none, ia, ib, out, mg) ∧ MH a b T st x out ia ib st')
    (Q := fun c st' => ∃ r rest, c = (some r, rest) ∧ OutM T st r st') ?_ ?_ ⟨_, _, _, _, rfl, g0⟩) ?_)
  rotate_left
  · rintro c st' ⟨out, ia, ib, mg, rfl, g⟩
    have := g.ha; have := g.hb; have := g.n
    omega
  · rintro c st' ⟨r, rest, rfl, g⟩
    exact wpS_pure (h r st' g)
  rintro X c st' _ hX ⟨out, na, nb, mg, rfl, g⟩
  dsimp only
  refine wpS_bind (wpS_mono (wpS_forRange (I := fun x c st' => ∃ out ia ib ac bc, c = (none, ia, ib, out, ac, bc) ∧ MH a b T st (X + x) out ia ib st')
    (Q := fun c st' => (∃ out ia ib ac bc, c = (none, ia, ib, out, ac, bc) ∧ MH a b T st X out ia ib st') ∨ ∃ r rest, c = (some r, rest) ∧ OutM T st r st') ?_ ?_ ⟨_, _, _, _, _, rfl, g⟩) ?_)
  · rintro x c st' _ hx ⟨out, na, nb, ac, bc, rfl, g⟩
    dsimp only
    have hb0 : 0 < nb := by have := g.hb; omega
    obtain ⟨p, ep, _⟩ := take_at hb0 g.hb'
    obtain ⟨q, eq, _⟩ := take_at g.ha g.ha'
    refine wpS_bind (wpS_elem ep (wpS_bind (wpS_elem eq (wpS_bind (wpS_lt1 (g.like.kind.trans hk) (W.hb _ (mem_drop_at ep)) (W.ha _ (mem_drop_at eq)) ?_)))))
    dsimp only
    have hx' := W.sa.foot g.ha eq
    have hy' := W.sb.foot hb0 ep
    by_cases hw : N1 p < N1 q
    · rw [if_pos (by simpa using hw)]
      refine wpS_bind (wpS_elem eq ?_)
      have j1 := (hpush1 g.j.swap g.ha g.ha' eq fun v hv => Int.le_trans (hy' v hv) (Int.le_of_lt hw)).swap
      by_cases c3 : (na - 1 == 0) = true
      · rw [if_pos c3]
        exact wpS_pure (.inr ⟨_, _, rfl, outH_a g.like j1 (by simpa using c3)⟩)
      rw [if_neg c3]
      have g1 : MH a b T st (X + (x + 1)) (out.push q) (na - 1) nb st' := ⟨g.like, by simp at c3; omega, by have := g.ha'; omega, g.hb, g.hb', by have := g.n; have := g.ha; omega, j1⟩
      split
      · exact wpS_pure (.inl ⟨_, _, _, _, _, rfl, g1.mono (by omega)⟩)
      · exact wpS_pure ⟨_, _, _, _, _, rfl, g1⟩
    · rw [if_neg (by simpa using hw)]
      refine wpS_bind (wpS_elem ep ?_)
      have j1 := hpush1 g.j hb0 g.hb' ep fun v hv => Int.le_trans (hx' v hv) (Int.not_lt.mp hw)
      by_cases c3 : (nb - 1 == 1) = true
      · rw [if_pos c3]
        exact wpS_pure (.inr ⟨_, _, rfl, outH_first W h2 g.like j1 (by simpa using c3)⟩)
      rw [if_neg c3]
      have g1 : MH a b T st (X + (x + 1)) (out.push p) na (nb - 1) st' := ⟨g.like, g.ha, g.ha', by have := g.hb; simp at c3; omega, by have := g.hb'; omega, by have := g.n; omega, j1⟩
      split
      · exact wpS_pure (.inl ⟨_, _, _, _, _, rfl, g1.mono (by omega)⟩)
      · exact wpS_pure ⟨_, _, _, _, _, rfl, g1⟩
  · rintro c st' ⟨out, ia, ib, ac, bc, rfl, g⟩
    exact .inl ⟨_, _, _, _, _, rfl, g.mono (by omega)⟩
  rintro c st' (⟨out, na, nb, ac, bc, rfl, g⟩ | ⟨r, ⟨ia, ib, out, ac, bc⟩, rfl, g⟩)
  rotate_left
  · exact wpS_pure ⟨r, _, rfl, g⟩
  dsimp only
  refine wpS_bind (wpS_lift (wpAny_rule ⟨rfl, ?_⟩))
  refine wpS_bind (wpS_mono (wpS_forRange (I := fun x c st' => ∃ out ia ib mg ac bc, c = (none, ia, ib, out, mg, ac, bc) ∧ MH a b T st (X + x) out ia ib st')
    (Q := fun c st' => (∃ out ia ib mg ac bc, c = (none, ia, ib, out, mg, ac, bc) ∧ MH a b T st (X + 1) out ia ib st') ∨ ∃ r rest, c = (some r, rest) ∧ OutM T st r st') ?_ ?_ ⟨_, _, _, _, _, _, rfl, g⟩) ?_)
  rotate_left
  · rintro c st' ⟨out, ia, ib, mg, ac, bc, rfl, g⟩
    have := g.ha; have := g.hb; have := g.n
    omega
  · rintro c st' (⟨out, ia, ib, mg, ac, bc, rfl, g⟩ | ⟨r, ⟨ia, ib, out, mg, ac, bc⟩, rfl, g⟩)
    · exact wpS_bind (wpS_setG g.like fun st'' l => wpS_pure ⟨_, _, _, _, rfl, ⟨l, g.ha, g.ha', g.hb, g.hb', g.n, g.j⟩⟩)
    · exact wpS_pure ⟨r, _, rfl, g⟩
  rintro x c st' _ hx ⟨out, na, nb, mg, ac, bc, rfl, g⟩
  dsimp only
  have two : ∀ mg : Nat, wpS (model prog w) A E s (setMinGallop' mg) (fun _ st' => MH a b T st (X + x) out na nb st') st' := fun mg => wpS_setG g.like fun st'' l => ⟨l, g.ha, g.ha', g.hb, g.hb', g.n, g.j⟩
  have hb0 : 0 < nb := by have := g.hb; omega
  obtain ⟨p, ep, _⟩ := take_at hb0 g.hb'
  have hp0 := W.sb.foot hb0 ep
  by_cases hm1 : mg > 1
  all_goals
    first | rw [if_pos hm1] | rw [if_neg hm1]
    refine wpS_bind (wpS_mono (two _) fun _ st1 g => ?_)
    refine wpS_bind (wpS_elem ep (wpS_bind (wpS_gal (W := a.toList.take na) (g.like.kind.trans hk) (W.hb _ (mem_drop_at ep)) (by have := g.ha'; simp; omega) (by have := g.ha; omega) (fun i hi => by simp [List.getElem?_take, hi]) (fun u hu => W.ha u (List.mem_of_mem_take hu)) (W.sa.sublist (List.take_sublist _ _)) fun k hkn t1 t2 => ?_)))
    dsimp only
    by_cases hk0 : na - k > 0
    · rw [if_pos hk0]
      have j1 := (htake1 (k := k) g.j.swap hkn fun u hu v hv => by
        have e := t2 u hu
        have e2 := hp0 v hv
        simp only [byd, Bool.false_eq_true, if_false, Bool.not_eq_false', decide_eq_true_eq] at e
        omega).swap
      by_cases c3 : (k == 0) = true
      · rw [if_pos c3]
        exact wpS_pure (.inr ⟨_, _, rfl, outH_a g.like j1 (by simpa using c3)⟩)
      rw [if_neg c3]
      have hlow : ∀ v ∈ a.toList.take k, N1 v ≤ N1 p := fun v hv => by
        have e := t1 v (by rw [List.take_take, Nat.min_eq_left hkn]; exact hv)
        simp only [byd, Bool.false_eq_true, if_false, Bool.not_eq_true', decide_eq_false_iff_not] at e
        omega
      have ha1 : 0 < k := by simp at c3; omega
      have ha2 : k ≤ a.size := by have := g.ha'; omega
      refine wpS_bind (wpS_elem ep ?_)
      have j2 := hpush1 j1 (by have := g.hb; omega) g.hb' ep hlow
      by_cases c5 : (nb - 1 == 1) = true
      · rw [if_pos c5]
        exact wpS_pure (.inr ⟨_, _, rfl, outH_first W h2 g.like j2 (by simpa using c5)⟩)
      rw [if_neg c5]
      have hb1 : 1 < nb - 1 := by have := g.hb; simp at c5; omega
      obtain ⟨q, eq, _⟩ := take_at (a := a) (n := k) ha1 ha2
      refine wpS_bind (wpS_elem eq (wpS_bind (wpS_gal (W := b.toList.take (nb - 1)) (g.like.kind.trans hk) (W.ha _ (mem_drop_at eq)) (by have := g.hb'; simp; omega) (by omega) (fun i hi => by simp [List.getElem?_take, hi]) (fun u hu => W.hb u (List.mem_of_mem_take hu)) (W.sb.sublist (List.take_sublist _ _)) fun k1 hk1 t3 t4 => ?_)))
      dsimp only
      by_cases hk2 : nb - 1 - k1 > 0
      · rw [if_pos hk2]
        have j3 := htake1 (k := k1) j2 hk1 fun u hu v hv => by
          have e := t4 u hu
          have e2 := W.sa.foot ha1 eq v hv
          simp only [byd, if_true, decide_eq_false_iff_not] at e
          omega
        by_cases c6 : (k1 == 1) = true
        · rw [if_pos c6]
          exact wpS_pure (.inr ⟨_, _, rfl, outH_first W h2 g.like j3 (by simpa using c6)⟩)
        rw [if_neg c6]
        by_cases c7 : (k1 == 0) = true
        · rw [if_pos c7]
          exact wpS_pure (.inr ⟨_, _, rfl, outH_b g.like j3 (by simpa using c7)⟩)
        rw [if_neg c7]
        refine hi_tail (K := X + x + 1) W g.like j3 ha1 ha2 (by simp at c6 c7; omega) (by have := g.hb'; omega) (by have := g.n; omega) eq (fun v hv => ?_) (fun r rest st' o => .inr ⟨r, rest, rfl, o⟩) fun out ia ib m => ⟨.inl ⟨_, _, _, _, _, _, rfl, m.mono (by omega)⟩, ⟨_, _, _, _, _, _, rfl, m.mono (by omega)⟩⟩
        have e := t3 v (by rw [List.take_take, Nat.min_eq_left hk1]; exact hv)
        simp only [byd, if_true, decide_eq_true_eq] at e
        omega
      · rw [if_neg hk2]
        obtain rfl : k1 = nb - 1 := by omega
        refine hi_tail (K := X + x + 1) W g.like j2 ha1 ha2 hb1 (by have := g.hb'; omega) (by have := g.n; have := g.hb; omega) eq (fun v hv => ?_) (fun r rest st' o => .inr ⟨r, rest, rfl, o⟩) fun out ia ib m => ⟨.inl ⟨_, _, _, _, _, _, rfl, m.mono (by omega)⟩, ⟨_, _, _, _, _, _, rfl, m.mono (by omega)⟩⟩
        have e := t3 v (by rw [List.take_take, Nat.min_self]; exact hv)
        simp only [byd, if_true, decide_eq_true_eq] at e
        omega
    · rw [if_neg hk0]
      obtain rfl : k = na := by omega
      have hlow : ∀ v ∈ a.toList.take k, N1 v ≤ N1 p := fun v hv => by
        have e := t1 v (by rw [List.take_take, Nat.min_self]; exact hv)
        simp only [byd, Bool.false_eq_true, if_false, Bool.not_eq_true', decide_eq_false_iff_not] at e
        omega
      have ha1 := g.ha
      have ha2 := g.ha'
      have j1 := g.j
      refine wpS_bind (wpS_elem ep ?_)
      have j2 := hpush1 j1 (by have := g.hb; omega) g.hb' ep hlow
      by_cases c5 : (nb - 1 == 1) = true
      · rw [if_pos c5]
        exact wpS_pure (.inr ⟨_, _, rfl, outH_first W h2 g.like j2 (by simpa using c5)⟩)
      rw [if_neg c5]
      have hb1 : 1 < nb - 1 := by have := g.hb; simp at c5; omega
      obtain ⟨q, eq, _⟩ := take_at (a := a) (n := k) ha1 ha2
      refine wpS_bind (wpS_elem eq (wpS_bind (wpS_gal (W := b.toList.take (nb - 1)) (g.like.kind.trans hk) (W.ha _ (mem_drop_at eq)) (by have := g.hb'; simp; omega) (by omega) (fun i hi => by simp [List.getElem?_take, hi]) (fun u hu => W.hb u (List.mem_of_mem_take hu)) (W.sb.sublist (List.take_sublist _ _)) fun k1 hk1 t3 t4 => ?_)))
      dsimp only
      by_cases hk2 : nb - 1 - k1 > 0
      · rw [if_pos hk2]
        have j3 := htake1 (k := k1) j2 hk1 fun u hu v hv => by
          have e := t4 u hu
          have e2 := W.sa.foot ha1 eq v hv
          simp only [byd, if_true, decide_eq_false_iff_not] at e
          omega
        by_cases c6 : (k1 == 1) = true
        · rw [if_pos c6]
          exact wpS_pure (.inr ⟨_, _, rfl, outH_first W h2 g.like j3 (by simpa using c6)⟩)
        rw [if_neg c6]
        by_cases c7 : (k1 == 0) = true
        · rw [if_pos c7]
          exact wpS_pure (.inr ⟨_, _, rfl, outH_b g.like j3 (by simpa using c7)⟩)
        rw [if_neg c7]
        refine hi_tail (K := X + x + 1) W g.like j3 ha1 ha2 (by simp at c6 c7; omega) (by have := g.hb'; omega) (by have := g.n; omega) eq (fun v hv => ?_) (fun r rest st' o => .inr ⟨r, rest, rfl, o⟩) fun out ia ib m => ⟨.inl ⟨_, _, _, _, _, _, rfl, m.mono (by omega)⟩, ⟨_, _, _, _, _, _, rfl, m.mono (by omega)⟩⟩
        have e := t3 v (by rw [List.take_take, Nat.min_eq_left hk1]; exact hv)
        simp only [byd, if_true, decide_eq_true_eq] at e
        omega
      · rw [if_neg hk2]
        obtain rfl : k1 = nb - 1 := by omega
        refine hi_tail (K := X + x + 1) W g.like j2 ha1 ha2 hb1 (by have := g.hb'; omega) (by have := g.n; have := g.hb; omega) eq (fun v hv => ?_) (fun r rest st' o => .inr ⟨r, rest, rfl, o⟩) fun out ia ib m => ⟨.inl ⟨_, _, _, _, _, _, rfl, m.mono (by omega)⟩, ⟨_, _, _, _, _, _, rfl, m.mono (by omega)⟩⟩
        have e := t3 v (by rw [List.take_take, Nat.min_self]; exact hv)
        simp only [byd, if_true, decide_eq_true_eq] at e
        omega
end
end L2.PU
namespace L2.PU
open PySem PySem.Spec PyProof.Rows
noncomputable def lay (a : Array Keyed) (b : Nat) (M : List (Keyed × Nat)) : Array Keyed := M.foldl (fun a (p, j) => a.setIfInBounds (b + j) p) a
theorem lay_list : ∀ (M X P S : List Keyed) (n b : Nat) (a : Array Keyed), a.toList = P ++ X ++ S → P.length = b + n → X.length = M.length → (lay a b (M.zipIdx n)).toList = P ++ M ++ S := by
  intro M
  induction M with
  | nil =>
    intro X P S n b a e hP hX
    cases X with
    | nil => exact e
    | cons _ _ => simp at hX
  | cons m M ih =>
    intro X P S n b a e hP hX
    cases X with
    | nil => simp at hX
    | cons x X =>
      have e1 : (a.setIfInBounds (b + n) m).toList = (P ++ [m]) ++ X ++ S := by
        rw [Array.toList_setIfInBounds, e, ← hP]
        simp
      have := ih X (P ++ [m]) S (n + 1) b (a.setIfInBounds (b + n) m) e1 (by simp; omega) (by simpa using hX)
      rw [List.zipIdx_cons]
      simpa [lay] using this
section
variable {prog : Program} {w : World} {A : Around} {E : Value → Shared → Prop} {s : Shared}
theorem mergeAt'_eq (i : Nat) : mergeAt' i = (do
  let s ← get
  let (some (sa, na, power), some (sb, nb, _)) := ((pendingOf s)[i]?, (pendingOf s)[i + 1]?) | unsupported "internal:list.sort.pending"
  set (setPending s (((pendingOf s).setIfInBounds i (sa, na + nb, power)).eraseIdxIfInBounds (i + 1)))
  let some k ← gallop' false (← elem' (arrOf s) sb) (arrOf s) sa na 0 | return false
  let (sa, na) := (sa + k, na - k)
  if na == 0 then return true
  let some nb ← gallop' true (← elem' (arrOf s) (sa + na - 1)) (arrOf s) sb nb (nb - 1) | return false
  if nb == 0 then return true
  let x := (arrOf s).extract sa sb
  let y := (arrOf s).extract sb (sb + nb)
  let merged ← if na ≤ nb then mergeLo' x y else mergeHi' x y
  modify fun s => setArr s (lay (arrOf s) sa merged.toList.zipIdx)
  return (failedOf (← get)).isNone) := rfl
theorem wpS_set {σ : Type} {M : Model} {st st' : σ} {Q : PUnit → σ → Prop} (h : Q ⟨⟩ st') : wpS M A E s (set st' : StateT σ Sem PUnit) Q st := by
  unfold wpS; rw [StateT.run_set]; exact wpAny_pure ⟨rfl, h⟩
theorem wpS_mergeAt {st : SortSt} {i sa na pw sb nb pw2 : Nat} {l1 l2 : List (Nat × Nat × Nat)} {P X Y S : List Keyed} {Q : Bool → SortSt → Prop} (hk : kindOf st = oneType') (hf : failedOf st = none)
    (hp : (pendingOf st).toList = l1 ++ (sa, na, pw) :: (sb, nb, pw2) :: l2) (hi : l1.length = i) (ea : (arrOf st).toList = P ++ X ++ Y ++ S) (hP : P.length = sa) (hX : X.length = na) (hY : Y.length = nb) (hsb : sb = sa + na)
    (h0 : 0 < na) (h0' : 0 < nb) (sX : SL X) (sY : SL Y) (iX : ∀ p ∈ X, IK p) (iY : ∀ p ∈ Y, IK p)
    (h : ∀ C st', SL C → C.Perm (X ++ Y) → kindOf st' = oneType' → failedOf st' = none → (pendingOf st').toList = l1 ++ (sa, na + nb, pw) :: l2 → (arrOf st').toList = P ++ C ++ S → Q true st') :
    wpS (model prog w) A E s (mergeAt' i) Q st := by
  subst hP hX hY hsb hi
  have p1 : (pendingOf st)[l1.length]? = some (P.length, X.length, pw) := by
    rw [← Array.getElem?_toList, hp]; simp
  have p2 : (pendingOf st)[l1.length + 1]? = some (P.length + X.length, Y.length, pw2) := by
    rw [← Array.getElem?_toList, hp]; simp [List.getElem?_append_right]
  have p3 : (((pendingOf st).setIfInBounds l1.length (P.length, X.length + Y.length, pw)).eraseIdxIfInBounds (l1.length + 1)).toList = l1 ++ (P.length, X.length + Y.length, pw) :: l2 := by
    rw [Array.toList_eraseIdxIfInBounds, Array.toList_setIfInBounds, hp]
    simp [List.eraseIdx_append_of_length_le]
  have ax : ∀ i, i < X.length → (arrOf st)[P.length + i]? = X[i]? := fun i hi => by
    rw [← Array.getElem?_toList, ea, List.append_assoc, List.append_assoc, List.getElem?_append_right (by omega), Nat.add_sub_cancel_left, List.getElem?_append_left hi]
  have ay : ∀ i, i < Y.length → (arrOf st)[P.length + X.length + i]? = Y[i]? := fun i hi => by
    rw [← Array.getElem?_toList, ea, List.append_assoc, List.getElem?_append_right (by simp), List.length_append, Nat.add_sub_cancel_left, List.getElem?_append_left hi]
  rw [mergeAt'_eq]
  refine wpS_bind (wpS_get ?_)
  simp only [p1, p2]
  refine wpS_bind (wpS_set ?_)
  have ey0 : (arrOf st)[P.length + X.length]? = some Y[0] := by
    have := ay 0 h0'
    simpa [h0'] using this
  refine wpS_bind (wpS_elem ey0 (wpS_bind (wpS_gal (W := X) hk (iY _ (List.getElem_mem _)) rfl h0 ax iX sX fun k hkn t1 t2 => ?_)))
  dsimp only
  have le0 : ∀ v ∈ Y, N1 Y[0] ≤ N1 v := fun v hv => by
    obtain ⟨j, hj, rfl⟩ := List.mem_iff_getElem.mp hv
    exact sY.at (Nat.zero_le j) (List.getElem?_eq_getElem h0') (List.getElem?_eq_getElem hj)
  have hz : X.length - 1 < X.length := by omega
  have leZ : ∀ u ∈ X, N1 u ≤ N1 X[X.length - 1] := fun u hu => by
    obtain ⟨j, hj, rfl⟩ := List.mem_iff_getElem.mp hu
    exact sX.at (by omega) (List.getElem?_eq_getElem hj) (List.getElem?_eq_getElem hz)
  by_cases c1 : (X.length - k == 0) = true
  · rw [if_pos c1]
    have ek : X.take k = X := List.take_of_length_le (by simp at c1; omega)
    refine wpS_pure (h (X ++ Y) _ (SL.app sX sY fun u hu v hv => ?_) (List.Perm.refl _) hk hf p3 (by rw [← List.append_assoc]; exact ea))
    have e := t1 u (by rw [ek]; exact hu)
    have e2 := le0 v hv
    simp only [byd, Bool.false_eq_true, if_false, Bool.not_eq_true', decide_eq_false_iff_not] at e
    omega
  rw [if_neg c1]
  have hkl : k < X.length := by simp at c1; omega
  have exl : (arrOf st)[P.length + k + (X.length - k) - 1]? = some X[X.length - 1] := by
    have := ax (X.length - 1) hz
    rw [show P.length + k + (X.length - k) - 1 = P.length + (X.length - 1) by omega, this]
    exact List.getElem?_eq_getElem hz
  refine wpS_bind (wpS_elem exl (wpS_bind (wpS_gal (W := Y) hk (iX _ (List.getElem_mem _)) rfl (by omega) ay iY sY fun k1 hk1 t3 t4 => ?_)))
  dsimp only
  by_cases c2 : (k1 == 0) = true
  · rw [if_pos c2]
    obtain rfl : k1 = 0 := by simpa using c2
    refine wpS_pure (h (X ++ Y) _ (SL.app sX sY fun u hu v hv => ?_) (List.Perm.refl _) hk hf p3 (by rw [← List.append_assoc]; exact ea))
    have e := t4 v (by simpa using hv)
    have e2 := leZ u hu
    simp only [byd, if_true, decide_eq_false_iff_not] at e
    omega
  rw [if_neg c2]
  have hk1' : 0 < k1 := by simp at c2; omega
  have lx : ((arrOf st).extract (P.length + k) (P.length + X.length)).toList = X.drop k := by
    rw [Array.toList_extract, List.extract_eq_take_drop, ea, List.append_assoc, List.append_assoc, List.drop_append, List.drop_of_length_le (by omega), List.nil_append, Nat.add_sub_cancel_left, List.drop_append_of_le_length hkn, List.take_append_of_le_length (by simp; omega)]
    exact List.take_of_length_le (by simp; omega)
  have ly : ((arrOf st).extract (P.length + X.length) (P.length + X.length + k1)).toList = Y.take k1 := by
    rw [Array.toList_extract, List.extract_eq_take_drop, ea, List.append_assoc, Nat.add_sub_cancel_left, List.drop_append, List.drop_of_length_le (by simp), List.nil_append, List.length_append, Nat.sub_self, List.drop_zero, List.take_append_of_le_length hk1]
  generalize (arrOf st).extract (P.length + k) (P.length + X.length) = x at lx ⊢
  generalize (arrOf st).extract (P.length + X.length) (P.length + X.length + k1) = y at ly ⊢
  have szx : x.size = X.length - k := by rw [← Array.length_toList, lx, List.length_drop]
  have szy : y.size = k1 := by rw [← Array.length_toList, ly, List.length_take]; omega
  have W : Two x y := by
    refine ⟨fun p hp => iX p ?_, fun p hp => iY p ?_, ?_, ?_, fun u hu v hv => ?_, fun z ez u hu => ?_⟩
    · rw [lx] at hp; exact List.mem_of_mem_drop hp
    · rw [ly] at hp; exact List.mem_of_mem_take hp
    · rw [lx]; exact sX.sublist (List.drop_sublist _ _)
    · rw [ly]; exact sY.sublist (List.take_sublist _ _)
    · rw [← Array.getElem?_toList, ly, List.getElem?_take, if_pos hk1', List.getElem?_eq_getElem h0'] at hu
      cases hu
      rw [lx] at hv
      have e := t2 v hv
      simp only [byd, Bool.false_eq_true, if_false, Bool.not_eq_false', decide_eq_true_eq] at e
      omega
    · rw [← Array.getElem?_toList, lx, szx, List.getElem?_drop, show k + (X.length - k - 1) = X.length - 1 by omega, List.getElem?_eq_getElem hz] at ez
      cases ez
      rw [ly] at hu
      have e := t3 u hu
      simp only [byd, if_true, decide_eq_true_eq] at e
      omega
  have fin : ∀ (r : Array Keyed) (st' : SortSt), OutM (X.drop k ++ Y.take k1) (setPending st (((pendingOf st).setIfInBounds l1.length (P.length, X.length + Y.length, pw)).eraseIdxIfInBounds (l1.length + 1))) r st' →
      wpS (model prog w) A E s (do
              modify fun s => setArr s (lay (arrOf s) (P.length + k) r.toList.zipIdx)
              let __do_lift ← get
              pure (failedOf __do_lift).isNone) Q st' := by
    rintro r st' ⟨⟨g, rfl⟩, sr, pr⟩
    refine wpS_bind (wpS_modify (wpS_bind (wpS_get (wpS_pure ?_))))
    have hfn : (failedOf (setArr (SortSt.mk' (kindOf st) (arrOf st) (((pendingOf st).setIfInBounds l1.length (P.length, X.length + Y.length, pw)).eraseIdxIfInBounds (l1.length + 1)) g (failedOf st)) (lay (arrOf st) (P.length + k) r.toList.zipIdx))).isNone = true := by
      show (failedOf st).isNone = true
      rw [hf]; rfl
    show Q ((failedOf (setArr (SortSt.mk' (kindOf st) (arrOf st) (((pendingOf st).setIfInBounds l1.length (P.length, X.length + Y.length, pw)).eraseIdxIfInBounds (l1.length + 1)) g (failedOf st)) (lay (arrOf st) (P.length + k) r.toList.zipIdx))).isNone) _
    rw [hfn]
    have inr : ∀ u ∈ r.toList, u ∈ X.drop k ∨ u ∈ Y.take k1 := fun u hu => List.mem_append.mp (pr.mem_iff.mp hu)
    refine h (X.take k ++ r.toList ++ Y.drop k1) _ ?_ ?_ hk hf p3 ?_
    · refine SL.app (SL.app (sX.sublist (List.take_sublist _ _)) sr fun u hu v hv => ?_) (sY.sublist (List.drop_sublist _ _)) fun u hu v hv => ?_
      · have e := t1 u hu
        simp only [byd, Bool.false_eq_true, if_false, Bool.not_eq_true', decide_eq_false_iff_not] at e
        rcases inr v hv with hv | hv
        · have e2 := t2 v hv
          simp only [byd, Bool.false_eq_true, if_false, Bool.not_eq_false', decide_eq_true_eq] at e2
          omega
        · have e2 := le0 v (List.mem_of_mem_take hv)
          omega
      · have e2 := t4 v hv
        simp only [byd, if_true, decide_eq_false_iff_not] at e2
        rcases List.mem_append.mp hu with hu | hu
        · have e := leZ u (List.mem_of_mem_take hu)
          omega
        · rcases inr u hu with hu | hu
          · have e := leZ u (List.mem_of_mem_drop hu)
            omega
          · have e := t3 u hu
            simp only [byd, if_true, decide_eq_true_eq] at e
            omega
    · have e1 : (X.take k ++ r.toList ++ Y.drop k1).Perm (X.take k ++ (X.drop k ++ Y.take k1) ++ Y.drop k1) := List.Perm.append_right _ (List.Perm.append_left _ pr)
      have e2 : X.take k ++ (X.drop k ++ Y.take k1) ++ Y.drop k1 = X ++ Y := by
        rw [← List.append_assoc, List.take_append_drop, List.append_assoc, List.take_append_drop]
      rw [e2] at e1
      exact e1
    · have hl := lay_list r.toList (X.drop k ++ Y.take k1) (P ++ X.take k) (Y.drop k1 ++ S) 0 (P.length + k) (arrOf st) (by
        rw [ea]
        conv => lhs; rw [← List.take_append_drop k X, ← List.take_append_drop k1 Y]
        simp only [List.append_assoc]) (by simp; omega) pr.length_eq.symm
      show (lay (arrOf st) (P.length + k) r.toList.zipIdx).toList = _
      rw [hl]
      simp only [List.append_assoc]
  by_cases c3 : X.length - k ≤ k1
  · rw [if_pos c3]
    exact wpS_bind (wpS_mergeLo (T := X.drop k ++ Y.take k1) hk W (by omega) (by omega) (by rw [lx, ly]) fin)
  · rw [if_neg c3]
    exact wpS_bind (wpS_mergeHi (T := X.drop k ++ Y.take k1) hk W (by omega) (by omega) (by rw [lx, ly]) fin)
end
end L2.PU
namespace L2.PU
open PySem PySem.Spec PyProof.Rows
noncomputable def LikeA (lo : Nat) (st st' : SortSt) : Prop := ∃ xs : Array Keyed, st' = setArr st xs ∧ xs.Perm (arrOf st) ∧ ∀ k, k < lo → xs[k]? = (arrOf st)[k]?
theorem LikeA.refl (lo : Nat) (st : SortSt) : LikeA lo st st := ⟨arrOf st, rfl, Array.Perm.refl _, fun _ _ => rfl⟩
theorem LikeA.put {lo : Nat} {st st' : SortSt} {xs : Array Keyed} (h : LikeA lo st st') (p : xs.Perm (arrOf st')) (e : ∀ k, k < lo → xs[k]? = (arrOf st')[k]?) : LikeA lo st (setArr st' xs) := by
  obtain ⟨ys, rfl, p1, e1⟩ := h
  exact ⟨xs, rfl, p.trans p1, fun k hk => (e k hk).trans (e1 k hk)⟩
theorem LikeA.kind {lo : Nat} {st st' : SortSt} (h : LikeA lo st st') : kindOf st' = kindOf st := by obtain ⟨ys, rfl, _⟩ := h; rfl
theorem LikeA.size {lo : Nat} {st st' : SortSt} (h : LikeA lo st st') : (arrOf st').size = (arrOf st).size := by obtain ⟨ys, rfl, p, _⟩ := h; exact p.size_eq
noncomputable def AllI (xs : Array Keyed) : Prop := ∀ p ∈ xs.toList, IK p
theorem LikeA.ints {lo : Nat} {st st' : SortSt} (h : LikeA lo st st') (i : AllI (arrOf st)) : AllI (arrOf st') := by
  obtain ⟨ys, rfl, p, _⟩ := h
  exact fun q hq => i q ((Array.perm_iff_toList_perm.mp p).mem_iff.mp hq)
noncomputable def SW (xs : Array Keyed) (l r : Nat) : Prop := ∀ i j, l ≤ i → i ≤ j → j < r → K xs i ≤ K xs j
noncomputable def NW (xs : Array Keyed) (l r : Nat) : Prop := ∀ i j, l ≤ i → i ≤ j → j < r → K xs j ≤ K xs i
section
variable {prog : Program} {w : World} {A : Around} {E : Value → Shared → Prop} {s : Shared}
theorem at_int {xs : Array Keyed} (h : AllI xs) {i : Nat} (hi : i < xs.size) : ∃ t q, xs[i]? = some (Value.int (K xs i) t, q) := by
  obtain ⟨n, t, e⟩ := h xs[i] (by simp)
  refine ⟨t, xs[i].2, ?_⟩
  have e1 : xs[i]? = some xs[i] := getElem?_pos _ i hi
  have e2 : xs[i] = (Value.int n t, xs[i].2) := Prod.ext e rfl
  unfold K
  rw [e1, e2]
  rfl
theorem wpS_lt2 {lo : Nat} {st st' : SortSt} {i j : Nat} {Q : Option Bool → SortSt → Prop} (l : LikeA lo st st') (hk : kindOf st = oneType') (h0 : AllI (arrOf st)) (hi : i < (arrOf st).size) (hj : j < (arrOf st).size)
    (h : Q (some (decide (K (arrOf st') i < K (arrOf st') j))) st') : wpS (model prog w) A E s (ltAt' i j) Q st' := by
  obtain ⟨t, p, e1⟩ := at_int (l.ints h0) (by rw [l.size]; exact hi)
  obtain ⟨u, q, e2⟩ := at_int (l.ints h0) (by rw [l.size]; exact hj)
  exact wpS_ltAt (l.kind.trans hk) e1 e2 h
theorem SW.more {xs : Array Keyed} {l r : Nat} (h : SW xs l r) (hl : l < r) (e : K xs (r - 1) ≤ K xs r) : SW xs l (r + 1) := by
  intro i j h1 h2 h3
  by_cases hj : j < r
  · exact h i j h1 h2 hj
  · obtain rfl : j = r := by omega
    by_cases hi : i = j
    · subst hi; exact Int.le_refl _
    · exact Int.le_trans (h i (j - 1) h1 (by omega) (by omega)) e
theorem NW.more {xs : Array Keyed} {l r : Nat} (h : NW xs l r) (hl : l < r) (e : K xs r ≤ K xs (r - 1)) : NW xs l (r + 1) := by
  intro i j h1 h2 h3
  by_cases hj : j < r
  · exact h i j h1 h2 hj
  · obtain rfl : j = r := by omega
    by_cases hi : i = j
    · subst hi; exact Int.le_refl _
    · exact Int.le_trans e (h i (j - 1) h1 (by omega) (by omega))
theorem one_SW (xs : Array Keyed) (l : Nat) : SW xs l (l + 1) := fun i j h1 h2 h3 => by
  obtain rfl : i = j := by omega
  exact Int.le_refl _
theorem LikeA.mirror {lo i j : Nat} {st st' : SortSt} (h : LikeA lo st st') (hi : lo ≤ i) (hj : j ≤ (arrOf st).size) : LikeA lo st (setArr st' (mirror (arrOf st') i j ((j - i) / 2))) :=
  h.put (mirror_perm _ _ _ _) fun k hk => by rw [getElem?_mirror_all (by rw [h.size]; exact hj), if_neg (by omega)]
theorem wpS_count {st : SortSt} {lo nrem : Nat} {Q : Option Nat → SortSt → Prop} (hk : kindOf st = oneType') (h0 : AllI (arrOf st)) (hn : lo + nrem ≤ (arrOf st).size) (h1 : 1 ≤ nrem)
    (h : ∀ m st', LikeA lo st st' → 1 ≤ m → m ≤ nrem → SW (arrOf st') lo (lo + m) → Q (some m) st') : wpS (model prog w) A E s (countRun' lo nrem) Q st := by
  rw [countRun'_eq]
  dsimp only
  refine wpS_bind (wpS_mono (wpS_forRange (I := fun x c st' => st = st' ∧ c = (none, x) ∧ SW (arrOf st) lo (lo + x))
    (Q := fun c st' => st = st' ∧ ∃ n, c = (none, n) ∧ 1 ≤ n ∧ n ≤ nrem ∧ SW (arrOf st) lo (lo + n) ∧ (n = nrem ∨ K (arrOf st) (lo + n) < K (arrOf st) (lo + n - 1))) ?_ ?_ ⟨rfl, rfl, one_SW _ _⟩) ?_)
  · rintro x c st' hx1 hx2 ⟨rfl, rfl, hs⟩
    dsimp only
    refine wpS_bind (wpS_lt2 (.refl lo st) hk h0 (by omega) (by omega) ?_)
    by_cases hl : K (arrOf st) (lo + x) < K (arrOf st) (lo + x - 1)
    · simp only [hl, decide_true, if_true]
      exact wpS_pure ⟨rfl, x, rfl, hx1, by omega, hs, .inr hl⟩
    · simp only [hl, decide_false, Bool.false_eq_true, if_false]
      exact wpS_pure ⟨rfl, rfl, hs.more (by omega) (Int.not_lt.mp hl)⟩
  · rintro c st' ⟨rfl, rfl, hs⟩
    rw [show max 1 nrem = nrem by omega] at hs ⊢
    exact ⟨rfl, nrem, rfl, h1, Nat.le_refl _, hs, .inl rfl⟩
  rintro c st' ⟨rfl, n, rfl, n1, n2, sn, ho⟩
  dsimp only
  by_cases c1 : (n == nrem) = true
  · rw [if_pos c1]
    exact wpS_pure (h n st (.refl _ _) n1 n2 sn)
  rw [if_neg c1]
  have hlt : K (arrOf st) (lo + n) < K (arrOf st) (lo + n - 1) := ho.resolve_left (by simpa using c1)
  have hnn : n + 1 ≤ nrem := by simp at c1; omega
  by_cases c2 : n > 1
  case' pos =>
    rw [if_pos c2]
    refine wpS_bind (wpS_lt2 (.refl lo st) hk h0 (by omega) (by omega) ?_)
    by_cases hr : K (arrOf st) lo < K (arrOf st) (lo + n - 1)
    · simp only [hr, decide_true, if_true]
      exact wpS_pure (h n st (.refl _ _) n1 n2 sn)
    simp only [hr, decide_false, Bool.false_eq_true, if_false]
    have hall : ∀ k, lo ≤ k → k < lo + n → K (arrOf st) k = K (arrOf st) (lo + n - 1) := by
      intro k k1 k2
      have a1 := sn lo k (by omega) (by omega) k2
      have a2 := sn k (lo + n - 1) k1 (by omega) (by omega)
      omega
    have hsz : lo + n ≤ (arrOf st).size := by omega
    have l1 : LikeA lo st (setArr st (mirror (arrOf st) lo (lo + n) ((lo + n - lo) / 2))) := (LikeA.refl lo st).mirror (Nat.le_refl _) hsz
    have nw1 : NW (arrOf (setArr st (mirror (arrOf st) lo (lo + n) ((lo + n - lo) / 2)))) lo (lo + n + 1) := by
      refine NW.more (fun i j a1 a2 a3 => ?_) (by omega) ?_
      · show K (mirror (arrOf st) lo (lo + n) ((lo + n - lo) / 2)) j ≤ K (mirror (arrOf st) lo (lo + n) ((lo + n - lo) / 2)) i
        rw [K_mirror_equal hsz hall, K_mirror_equal hsz hall, hall i a1 (by omega), hall j (by omega) a3]
        exact Int.le_refl _
      · show K (mirror (arrOf st) lo (lo + n) ((lo + n - lo) / 2)) (lo + n) ≤ K (mirror (arrOf st) lo (lo + n) ((lo + n - lo) / 2)) (lo + n - 1)
        rw [K_mirror_equal hsz hall, K_mirror_equal hsz hall]
        exact Int.le_of_lt hlt
    refine wpS_bind (wpS_reverse ?_)
    refine (?_ : ∀ st1, LikeA lo st st1 → NW (arrOf st1) lo (lo + n + 1) → wpS (model prog w) A E s _ Q st1) _ l1 nw1
  case' neg =>
    rw [if_neg c2]
    have nw1 : NW (arrOf st) lo (lo + n + 1) := by
      obtain rfl : n = 1 := by omega
      refine NW.more (fun i j a1 a2 a3 => ?_) (by omega) (Int.le_of_lt hlt)
      obtain rfl : i = j := by omega
      exact Int.le_refl _
    refine (?_ : ∀ st1, LikeA lo st st1 → NW (arrOf st1) lo (lo + n + 1) → wpS (model prog w) A E s _ Q st1) _ (.refl lo st) nw1
  all_goals
    intro st1 l1 nw1
    refine wpS_bind (wpS_lift (wpAny_rule ⟨rfl, ?_⟩))
    refine wpS_bind (wpS_mono (wpS_forRange (I := fun x c st' => ∃ q, c = (none, x, q) ∧ LikeA lo st st' ∧ NW (arrOf st') lo (lo + x) ∧ q + 1 ≤ x ∧ ∀ i, lo + x - (q + 1) ≤ i → i < lo + x → K (arrOf st') i = K (arrOf st') (lo + x - 1))
      (Q := fun c st' => ∃ m q, c = (none, m, q) ∧ LikeA lo st st' ∧ 1 ≤ m ∧ m ≤ nrem ∧ NW (arrOf st') lo (lo + m) ∧ q + 1 ≤ m ∧ ∀ i, lo + m - (q + 1) ≤ i → i < lo + m → K (arrOf st') i = K (arrOf st') (lo + m - 1)) ?_ ?_
      ⟨0, rfl, l1, nw1, by omega, fun i a1 a2 => by congr 1; omega⟩) ?_)
    · rintro x c st' hx1 hx2 ⟨q, rfl, l, nw, hq, he⟩
      dsimp only
      have hsz : lo + x ≤ (arrOf st').size := by rw [l.size]; omega
      refine wpS_bind (wpS_lt2 l hk h0 (by omega) (by omega) ?_)
      by_cases hl : K (arrOf st') (lo + x) < K (arrOf st') (lo + x - 1)
      · simp only [hl, decide_true, if_true]
        by_cases hq0 : q > 0
        · rw [if_pos hq0]
          refine wpS_bind (wpS_reverse (wpS_pure ⟨0, rfl, l.mirror (by omega) (by omega), ?_, by omega, fun i a1 a2 => by congr 1; omega⟩))
          intro i j a1 a2 a3
          show K (mirror (arrOf st') _ _ _) j ≤ K (mirror (arrOf st') _ _ _) i
          rw [K_mirror_equal hsz he, K_mirror_equal hsz he]
          exact (nw.more (by omega) (Int.le_of_lt hl)) i j a1 a2 a3
        · rw [if_neg hq0]
          exact wpS_pure ⟨0, rfl, l, nw.more (by omega) (Int.le_of_lt hl), by omega, fun i a1 a2 => by congr 1; omega⟩
      · simp only [hl, decide_false, Bool.false_eq_true, if_false]
        refine wpS_bind (wpS_lt2 l hk h0 (by omega) (by omega) ?_)
        by_cases hg : K (arrOf st') (lo + x - 1) < K (arrOf st') (lo + x)
        · simp only [hg, decide_true, if_true]
          exact wpS_pure ⟨x, q, rfl, l, by omega, by omega, nw, hq, he⟩
        · simp only [hg, decide_false, Bool.false_eq_true, if_false]
          have heq : K (arrOf st') (lo + x) = K (arrOf st') (lo + x - 1) := by omega
          refine wpS_pure ⟨q + 1, rfl, l, nw.more (by omega) (Int.le_of_eq heq), by omega, fun i a1 a2 => ?_⟩
          rw [show lo + (x + 1) - 1 = lo + x by omega]
          by_cases hix : i = lo + x
          · rw [hix]
          · rw [heq]; exact he i (by omega) (by omega)
    · rintro c st' ⟨q, rfl, l, nw, hq, he⟩
      rw [show max (n + 1) nrem = nrem by omega] at nw hq he ⊢
      exact ⟨nrem, q, rfl, l, by omega, by omega, nw, hq, he⟩
    rintro c st2 ⟨m, q, rfl, l2, m1, m2, nw2, hq, he⟩
    dsimp only
    have hsz2 : lo + m ≤ (arrOf st2).size := by rw [l2.size]; omega
    by_cases hq0 : q > 0
    case' pos =>
      rw [if_pos hq0]
      refine wpS_bind (wpS_reverse ?_)
      refine (?_ : ∀ st3, LikeA lo st st3 → NW (arrOf st3) lo (lo + m) → wpS (model prog w) A E s _ Q st3) _ (l2.mirror (by omega) (by omega)) (fun i j a1 a2 a3 => by
        show K (mirror (arrOf st2) _ _ _) j ≤ K (mirror (arrOf st2) _ _ _) i
        rw [K_mirror_equal hsz2 he, K_mirror_equal hsz2 he]
        exact nw2 i j a1 a2 a3)
    case' neg =>
      rw [if_neg hq0]
      refine (?_ : ∀ st3, LikeA lo st st3 → NW (arrOf st3) lo (lo + m) → wpS (model prog w) A E s _ Q st3) _ l2 nw2
    all_goals
      intro st3 l3 nw3
      have hsz3 : lo + m ≤ (arrOf st3).size := by rw [l3.size]; omega
      refine wpS_bind (wpS_reverse ?_)
      have l4 := l3.mirror (i := lo) (j := lo + m) (Nat.le_refl _) (by omega)
      have sw4 : SW (arrOf (setArr st3 (mirror (arrOf st3) lo (lo + m) ((lo + m - lo) / 2)))) lo (lo + m) := by
        intro i j a1 a2 a3
        show K (mirror (arrOf st3) lo (lo + m) ((lo + m - lo) / 2)) i ≤ K (mirror (arrOf st3) lo (lo + m) ((lo + m - lo) / 2)) j
        rw [K_mirror hsz3, K_mirror hsz3, if_pos (by omega), if_pos (by omega)]
        exact nw3 _ _ (by omega) (by omega) (by omega)
      generalize setArr st3 (mirror (arrOf st3) lo (lo + m) ((lo + m - lo) / 2)) = st4 at l4 sw4 ⊢
      refine wpS_bind (wpS_mono (wpS_forRange (I := fun x c st' => st4 = st' ∧ c = (none, x) ∧ SW (arrOf st4) lo (lo + x))
        (Q := fun c st' => st4 = st' ∧ ∃ n, c = (none, n) ∧ 1 ≤ n ∧ n ≤ nrem ∧ SW (arrOf st4) lo (lo + n)) ?_ ?_ ⟨rfl, rfl, sw4⟩) ?_)
      · rintro x c st' hx1 hx2 ⟨rfl, rfl, hs⟩
        dsimp only
        refine wpS_bind (wpS_lt2 l4 hk h0 (by omega) (by omega) ?_)
        by_cases hl : K (arrOf st4) (lo + x) < K (arrOf st4) (lo + x - 1)
        · simp only [hl, decide_true, if_true]
          exact wpS_pure ⟨rfl, x, rfl, by omega, by omega, hs⟩
        · simp only [hl, decide_false, Bool.false_eq_true, if_false]
          exact wpS_pure ⟨rfl, rfl, hs.more (by omega) (Int.not_lt.mp hl)⟩
      · rintro c st' ⟨rfl, rfl, hs⟩
        rw [show max m nrem = nrem by omega] at hs ⊢
        exact ⟨rfl, nrem, rfl, h1, Nat.le_refl _, hs⟩
      rintro c st' ⟨rfl, n, rfl, g1, g2, g3⟩
      exact wpS_pure (h n st4 l4 g1 g2 g3)
theorem wpS_binS {st : SortSt} {lo n ok : Nat} {Q : Bool → SortSt → Prop} (hk : kindOf st = oneType') (h0 : AllI (arrOf st)) (hn : lo + n ≤ (arrOf st).size) (h1 : 1 ≤ ok) (hok : ok ≤ n) (hs : SW (arrOf st) lo (lo + ok))
    (h : ∀ st', LikeA lo st st' → SW (arrOf st') lo (lo + n) → Q true st') : wpS (model prog w) A E s (binarySort' lo n ok) Q st := by
  rw [binarySort'_eq, show max ok 1 = ok by omega]
  refine wpS_bind (wpS_mono (wpS_forRange (I := fun k c st' => c = (none, ()) ∧ LikeA lo st st' ∧ SW (arrOf st') lo (lo + k))
    (Q := fun c st' => c = (none, ()) ∧ LikeA lo st st' ∧ SW (arrOf st') lo (lo + n)) ?_ ?_ ⟨rfl, .refl lo st, hs⟩) ?_)
  · rintro k c st' hk1 hk2 ⟨rfl, l, sw⟩
    have hks : lo + k < (arrOf st').size := by rw [l.size]; omega
    refine wpS_bind (wpS_mono (wpS_forRange (I := fun x c st'' => st' = st'' ∧ ∃ a b, c = (none, a, b) ∧ a ≤ b ∧ b ≤ k ∧ b - a ≤ k - x ∧ (∀ i, lo ≤ i → i < lo + a → K (arrOf st') i ≤ K (arrOf st') (lo + k)) ∧ (∀ i, lo + b ≤ i → i < lo + k → K (arrOf st') (lo + k) < K (arrOf st') i))
      (Q := fun c st'' => st' = st'' ∧ ∃ a b, c = (none, a, b) ∧ a ≤ k ∧ (∀ i, lo ≤ i → i < lo + a → K (arrOf st') i ≤ K (arrOf st') (lo + k)) ∧ (∀ i, lo + a ≤ i → i < lo + k → K (arrOf st') (lo + k) < K (arrOf st') i)) ?_ ?_
      ⟨rfl, 0, k, rfl, by omega, by omega, by omega, fun i a1 a2 => by omega, fun i a1 a2 => by omega⟩) ?_)
    · rintro x c st'' _ hx ⟨rfl, a, b, rfl, g1, g2, g3, g4, g5⟩
      dsimp only
      by_cases hge : a ≥ b
      · rw [if_pos hge]
        obtain rfl : a = b := by omega
        exact wpS_pure ⟨rfl, a, a, rfl, g2, g4, g5⟩
      rw [if_neg hge]
      refine wpS_bind (wpS_lt2 l hk h0 (by omega) (by omega) ?_)
      by_cases hl : K (arrOf st') (lo + k) < K (arrOf st') (lo + (a + b) / 2)
      · simp only [hl, decide_true, if_true]
        exact wpS_pure ⟨rfl, a, (a + b) / 2, rfl, by omega, by omega, by omega, g4, fun i a1 a2 => Int.lt_of_lt_of_le hl (sw _ i (by omega) a1 a2)⟩
      · simp only [hl, decide_false, Bool.false_eq_true, if_false]
        exact wpS_pure ⟨rfl, (a + b) / 2 + 1, b, rfl, by omega, by omega, by omega, fun i a1 a2 => Int.le_trans (sw i (lo + (a + b) / 2) a1 (by omega) (by omega)) (Int.not_lt.mp hl), g5⟩
    · rintro c st'' ⟨rfl, a, b, rfl, g1, g2, g3, g4, g5⟩
      obtain rfl : a = b := by omega
      exact ⟨rfl, a, a, rfl, g2, g4, g5⟩
    rintro c st'' ⟨rfl, a, b, rfl, g2, g4, g5⟩
    show wpS _ _ _ _ (do moveDown' (lo + k) (lo + a); pure (ForInStep.yield (none, ()))) _ _
    rw [moveDown'_eq]
    refine wpS_bind (wpS_modify (wpS_pure ⟨rfl, l.put (bubble_perm _ _ _) fun i hi => ?_, fun i j a1 a2 a3 => ?_⟩))
    · rw [getElem?_bubble hks _ (by omega), if_neg (by omega), if_neg (by omega)]
    · show K (bubble (arrOf st') (lo + k) (lo + k - (lo + a))) i ≤ K (bubble (arrOf st') (lo + k) (lo + k - (lo + a))) j
      rw [K_bubble hks (by omega), K_bubble hks (by omega), show lo + k - (lo + k - (lo + a)) = lo + a by omega]
      repeat' split
      all_goals first
        | (exfalso; omega)
        | exact Int.le_refl _
        | exact g4 _ (by omega) (by omega)
        | exact Int.le_of_lt (g5 _ (by omega) (by omega))
        | exact sw _ _ (by omega) (by omega) (by omega)
  · rintro c st' ⟨rfl, l, sw⟩
    rw [show max ok n = n by omega] at sw
    exact ⟨rfl, l, sw⟩
  · rintro c st' ⟨rfl, l, sw⟩
    exact wpS_pure (h st' l sw)
end
end L2.PU
namespace L2.PU
open PySem PySem.Spec PyProof.Rows
noncomputable def RunsOk : Nat → List (Nat × Nat × Nat) → List (List Keyed) → Prop
  | _, [], [] => True
  | s, (b, n, _) :: p, r :: R => b = s ∧ n = r.length ∧ 0 < n ∧ SL r ∧ RunsOk (s + n) p R
  | _, _, _ => False
theorem RunsOk.len : ∀ {p : List (Nat × Nat × Nat)} {R : List (List Keyed)} {s : Nat}, RunsOk s p R → p.length = R.length ∧ p.length ≤ R.flatten.length := by
  intro p
  induction p with
  | nil =>
    intro R s h
    cases R with
    | nil => exact ⟨rfl, Nat.le_refl _⟩
    | cons _ _ => exact h.elim
  | cons q p ih =>
    intro R s h
    cases R with
    | nil => exact h.elim
    | cons r R =>
      obtain ⟨b, n, w⟩ := q
      obtain ⟨h1, h2, h3, h4, h5⟩ := h
      have := ih h5
      simp only [List.length_cons, List.flatten_cons, List.length_append]
      omega
theorem RunsOk.snoc : ∀ {p : List (Nat × Nat × Nat)} {R : List (List Keyed)} {s : Nat} {b n pw : Nat} {r : List Keyed}, RunsOk s p R → b = s + R.flatten.length → n = r.length → 0 < n → SL r → RunsOk s (p ++ [(b, n, pw)]) (R ++ [r]) := by
  intro p
  induction p with
  | nil =>
    intro R s b n pw r h e1 e2 e3 e4
    cases R with
    | nil => exact ⟨by simpa using e1, e2, e3, e4, trivial⟩
    | cons _ _ => exact h.elim
  | cons q p ih =>
    intro R s b n pw r h e1 e2 e3 e4
    cases R with
    | nil => exact h.elim
    | cons r' R =>
      obtain ⟨b', n', w⟩ := q
      obtain ⟨h1, h2, h3, h4, h5⟩ := h
      refine ⟨h1, h2, h3, h4, ih h5 ?_ e2 e3 e4⟩
      rw [e1, List.flatten_cons, List.length_append]
      omega
theorem RunsOk.repow : ∀ {p : List (Nat × Nat × Nat)} {R : List (List Keyed)} {s : Nat} (i : Nat) (f : Nat × Nat × Nat → Nat × Nat × Nat), (∀ q, (f q).1 = q.1 ∧ (f q).2.1 = q.2.1) → RunsOk s p R → RunsOk s (p.modify i f) R := by
  intro p
  induction p with
  | nil => intro R s i f hf h; simpa using h
  | cons q p ih =>
    intro R s i f hf h
    cases R with
    | nil => exact h.elim
    | cons r R =>
      obtain ⟨b, n, w⟩ := q
      obtain ⟨h1, h2, h3, h4, h5⟩ := h
      cases i with
      | zero =>
        rw [List.modify_zero_cons]
        obtain ⟨e1, e2⟩ := hf (b, n, w)
        generalize f (b, n, w) = q at e1 e2
        obtain ⟨b', n', w'⟩ := q
        cases e1; cases e2
        exact ⟨h1, h2, h3, h4, h5⟩
      | succ i =>
        rw [List.modify_succ_cons]
        exact ⟨h1, h2, h3, h4, ih i f hf h5⟩
theorem RunsOk.two : ∀ (i : Nat) {p : List (Nat × Nat × Nat)} {R : List (List Keyed)} {s : Nat}, RunsOk s p R → i + 1 < p.length →
    ∃ l1 sa na pw sb nb pw2 l2 R1 X Y R2, p = l1 ++ (sa, na, pw) :: (sb, nb, pw2) :: l2 ∧ R = R1 ++ X :: Y :: R2 ∧ l1.length = i ∧ sa = s + R1.flatten.length ∧ sb = sa + na ∧ X.length = na ∧ Y.length = nb ∧ 0 < na ∧ 0 < nb ∧ SL X ∧ SL Y ∧
      ∀ C, SL C → C.length = na + nb → RunsOk s (l1 ++ (sa, na + nb, pw) :: l2) (R1 ++ C :: R2) := by
  intro i
  induction i with
  | zero =>
    intro p R s h hl
    match p, R, h with
    | [], _, _ => simp at hl
    | [_], _, _ => simp at hl
    | (b, n, w) :: (b2, n2, w2) :: p, [], h => exact h.elim
    | (b, n, w) :: (b2, n2, w2) :: p, [r], h => exact h.2.2.2.2.elim
    | (b, n, w) :: (b2, n2, w2) :: p, r :: r2 :: R, h =>
      obtain ⟨h1, h2, h3, h4, k1, k2, k3, k4, k5⟩ := h
      refine ⟨[], b, n, w, b2, n2, w2, p, [], r, r2, R, rfl, rfl, rfl, by simpa using h1, by omega, h2.symm, k2.symm, h3, k3, h4, k4, fun C hC hl => ⟨h1, hl.symm, by omega, hC, ?_⟩⟩
      rw [← Nat.add_assoc]
      exact k5
  | succ i ih =>
    intro p R s h hl
    match p, R, h with
    | [], _, _ => simp at hl
    | (b, n, w) :: p, [], h => exact h.elim
    | (b, n, w) :: p, r :: R, h =>
      obtain ⟨h1, h2, h3, h4, h5⟩ := h
      obtain ⟨l1, sa, na, pw, sb, nb, pw2, l2, R1, X, Y, R2, e1, e2, e3, e4, e5, e6, e7, e8, e9, e10, e11, k⟩ := ih h5 (by simpa using hl)
      refine ⟨(b, n, w) :: l1, sa, na, pw, sb, nb, pw2, l2, r :: R1, X, Y, R2, by rw [e1]; rfl, by rw [e2]; rfl, by simp [e3], ?_, e5, e6, e7, e8, e9, e10, e11, fun C hC hl => ⟨h1, h2, h3, h4, k C hC hl⟩⟩
      rw [e4, List.flatten_cons, List.length_append]
      omega
structure TS (a0 : List Keyed) (rest : List Keyed) (lo : Nat) (st : SortSt) : Prop where
  kind : kindOf st = oneType'
  fail : failedOf st = none
  runs : ∃ R, (arrOf st).toList = R.flatten ++ rest ∧ R.flatten.length = lo ∧ RunsOk 0 (pendingOf st).toList R
  perm : (arrOf st).toList.Perm a0
section
variable {prog : Program} {w : World} {A : Around} {E : Value → Shared → Prop} {s : Shared}
theorem wpS_mergeR {st : SortSt} {a0 rest : List Keyed} {lo i : Nat} {Q : Bool → SortSt → Prop} (h0 : ∀ p ∈ a0, IK p) (t : TS a0 rest lo st) (hi : i + 1 < (pendingOf st).size)
    (h : ∀ st', TS a0 rest lo st' → (pendingOf st').size + 1 = (pendingOf st).size → Q true st') : wpS (model prog w) A E s (mergeAt' i) Q st := by
  obtain ⟨R, ea, el, ro⟩ := t.runs
  obtain ⟨l1, sa, na, pw, sb, nb, pw2, l2, R1, X, Y, R2, e1, e2, e3, e4, e5, e6, e7, e8, e9, e10, e11, k⟩ := ro.two i (by simpa using hi)
  have ea' : (arrOf st).toList = R1.flatten ++ X ++ Y ++ (R2.flatten ++ rest) := by rw [ea, e2]; simp [List.append_assoc]
  have ik : ∀ p ∈ (arrOf st).toList, IK p := fun p hp => h0 p (t.perm.mem_iff.mp hp)
  refine wpS_mergeAt t.kind t.fail e1 e3 ea' (by omega) e6 e7 e5 e8 e9 e10 e11 (fun p hp => ik p (by rw [ea']; simp [hp])) (fun p hp => ik p (by rw [ea']; simp [hp])) fun C st' c1 c2 c3 c4 c5 c6 => h st' ⟨c3, c4, ⟨R1 ++ C :: R2, ?_, ?_, ?_⟩, ?_⟩ ?_
  · rw [c6]; simp [List.append_assoc]
  · have := c2.length_eq
    rw [← el, e2]
    simp at this ⊢
    omega
  · rw [c5]
    exact k C c1 (by rw [c2.length_eq, List.length_append, e6, e7])
  · refine List.Perm.trans ?_ t.perm
    rw [c6, ea']
    simp only [List.append_assoc]
    refine List.Perm.append_left _ ?_
    rw [← List.append_assoc X]
    exact List.Perm.append_right _ c2
  · have e : (pendingOf st').toList.length + 1 = (pendingOf st).toList.length := by rw [c5, e1]; simp; omega
    simpa using e
theorem TS.like {st st2 : SortSt} {a0 rest : List Keyed} {lo : Nat} (t : TS a0 rest lo st) (l : LikeA lo st st2) : TS a0 ((arrOf st2).toList.drop lo) lo st2 := by
  obtain ⟨xs, rfl, p, e⟩ := l
  obtain ⟨R, ea, el, ro⟩ := t.runs
  refine ⟨t.kind, t.fail, ⟨R, ?_, el, ro⟩, (Array.perm_iff_toList_perm.mp p).trans t.perm⟩
  have e1 : xs.toList.take lo = R.flatten := by
    have e2 : xs.toList.take lo = (arrOf st).toList.take lo := by
      apply List.ext_getElem?
      intro i
      rw [List.getElem?_take, List.getElem?_take]
      split
      · rename_i hi
        simpa using e i hi
      · rfl
    rw [e2, ea, ← el]
    simp
  show xs.toList = R.flatten ++ xs.toList.drop lo
  rw [← e1, List.take_append_drop]
theorem TS.push {st : SortSt} {a0 rest X : List Keyed} {lo n : Nat} (t : TS a0 (X ++ rest) lo st) (hn : X.length = n) (h0 : 0 < n) (sX : SL X) : TS a0 rest (lo + n) (setPending st ((pendingOf st).push (lo, n, 0))) := by
  obtain ⟨R, ea, el, ro⟩ := t.runs
  refine ⟨t.kind, t.fail, ⟨R ++ [X], ?_, ?_, ?_⟩, t.perm⟩
  · show (arrOf st).toList = _
    rw [ea]; simp [List.append_assoc]
  · rw [List.flatten_append, List.length_append, el]; simp [hn]
  · show RunsOk 0 ((pendingOf st).push (lo, n, 0)).toList _
    rw [Array.toList_push]
    exact ro.snoc (by omega) hn.symm h0 sX
theorem TS.repow {st : SortSt} {a0 rest : List Keyed} {lo i pw : Nat} (t : TS a0 rest lo st) : TS a0 rest lo (setPending st ((pendingOf st).modify i fun x => (x.fst, x.2.fst, pw))) := by
  obtain ⟨R, ea, el, ro⟩ := t.runs
  refine ⟨t.kind, t.fail, ⟨R, ea, el, ?_⟩, t.perm⟩
  show RunsOk 0 ((pendingOf st).modify i fun x => (x.fst, x.2.fst, pw)).toList R
  rw [Array.toList_modify]
  exact ro.repow i _ fun q => ⟨rfl, rfl⟩
theorem SL_of_SW {xs : Array Keyed} {lo n : Nat} (hn : lo + n ≤ xs.size) (h : SW xs lo (lo + n)) : SL ((xs.toList.drop lo).take n) := by
  refine List.pairwise_iff_getElem.mpr fun i j hi hj hij => ?_
  have hj' : j < n := by rw [List.length_take] at hj; omega
  have e := h (lo + i) (lo + j) (by omega) (by omega) (by omega)
  rw [K_eq (by omega), K_eq (by omega)] at e
  simpa [N1] using e
theorem wpS_sortAll {st : SortSt} {Q : Unit → SortSt → Prop} (hk : kindOf st = oneType') (hf : failedOf st = none) (hp : pendingOf st = #[]) (h0 : AllI (arrOf st)) (h1 : 1 ≤ (arrOf st).size)
    (h : ∀ st', (arrOf st').Perm (arrOf st) → failedOf st' = none → SL (arrOf st').toList → Q () st') : wpS (model prog w) A E s sortRuns' Q st := by
  rw [sortRuns'_eq]
  refine wpS_bind (wpS_get ?_)
  dsimp only
  generalize minRun' (arrOf st).size (arrOf st).size 0 = mr
  generalize hN : (arrOf st).size = N
  have t0 : TS (arrOf st).toList (arrOf st).toList 0 st := ⟨hk, hf, ⟨[], rfl, rfl, by rw [hp]; trivial⟩, List.Perm.refl _⟩
  have sz : ∀ {rest lo st'}, TS (arrOf st).toList rest lo st' → (arrOf st').size = N := fun t => by
    have := t.perm.length_eq
    simpa [hN] using this
  have rl : ∀ {rest lo st'}, TS (arrOf st).toList rest lo st' → lo + rest.length = N := fun t => by
    have e1 := sz t
    obtain ⟨R, ea, el, _⟩ := t.runs
    rw [← Array.length_toList, ea, List.length_append] at e1
    omega
  refine wpS_bind (wpS_mono (wpS_forRange (I := fun x c st' => ∃ lo rest, c = (none, lo) ∧ TS (arrOf st).toList rest lo st' ∧ x ≤ lo)
    (Q := fun c st' => ∃ lo, c = (none, lo) ∧ TS (arrOf st).toList [] N st') ?_ ?_ ⟨0, _, rfl, t0, Nat.le_refl _⟩) ?_)
  · rintro x c st' _ hx ⟨lo, rest, rfl, t, hxl⟩
    dsimp only
    have hrl := rl t
    by_cases hge : lo ≥ N
    · rw [if_pos hge]
      obtain rfl : lo = N := by omega
      obtain rfl : rest = [] := List.eq_nil_of_length_eq_zero (by omega)
      exact wpS_pure ⟨lo, rfl, t⟩
    rw [if_neg hge]
    have ik : AllI (arrOf st') := fun p hp => h0 p (t.perm.mem_iff.mp hp)
    refine wpS_bind (wpS_count t.kind ik (by rw [sz t]; omega) (by omega) fun m st1 l1 m1 m2 sw1 => ?_)
    dsimp only
    by_cases hm : m < mr
    case' pos =>
      rw [if_pos hm]
      refine wpS_bind (wpS_lift (wpAny_rule ⟨rfl, ?_⟩))
      refine wpS_bind (wpS_binS (l1.kind.trans t.kind) (l1.ints ik) (by rw [l1.size, sz t]; omega) m1 (by omega) sw1 fun st2 l2' sw2 => ?_)
      have l2 : LikeA lo st' st2 := by
        obtain ⟨xs, rfl, p, e⟩ := l2'
        exact l1.put p e
      have n1 : 1 ≤ min (N - lo) mr := by omega
      have n2 : lo + min (N - lo) mr ≤ N := by omega
      rw [if_neg (by simp)]
      generalize min (N - lo) mr = n at sw2 n1 n2 ⊢
    case' neg =>
      rw [if_neg hm]
      have l2 := l1
      have sw2 := sw1
      have n1 := m1
      have n2 : lo + m ≤ N := by omega
      clear sw1 m1 m2 hm l1
      generalize hst2 : st1 = st2 at l2 sw2 ⊢
      generalize m = n at n1 n2 sw2 ⊢
    all_goals
      have t2 := t.like l2
      have hsz2 : lo + n ≤ (arrOf st2).size := by rw [sz t2]; exact n2
      have sX := SL_of_SW hsz2 sw2
      rw [← List.take_append_drop n ((arrOf st2).toList.drop lo)] at t2
      have lX : (((arrOf st2).toList.drop lo).take n).length = n := by simp; omega
      generalize ((arrOf st2).toList.drop lo).take n = X at t2 sX lX
      generalize ((arrOf st2).toList.drop lo).drop n = rest2 at t2
      refine wpS_bind (wpS_get ?_)
      cases hb : (pendingOf st2).back? with
      | none =>
        dsimp only
        exact wpS_bind (wpS_modify (wpS_pure ⟨lo + n, rest2, rfl, t2.push lX n1 sX, by omega⟩))
      | some q =>
        obtain ⟨s1, k1, o1⟩ := q
        dsimp only
        generalize power' N (2 * s1 + k1) (2 * s1 + k1 + k1 + n) N = pw
        refine wpS_bind (wpS_mono (wpS_forRange (I := fun x c st'' => c = (none, ()) ∧ TS (arrOf st).toList (X ++ rest2) lo st'') (Q := fun c st'' => c = (none, ()) ∧ TS (arrOf st).toList (X ++ rest2) lo st'') ?_ (fun _ _ g => g) ⟨rfl, t2⟩) ?_)
        · rintro y c st3 _ _ ⟨rfl, t3⟩
          refine wpS_bind (wpS_get ?_)
          by_cases hs : (pendingOf st3).size > 1
          · rw [if_pos hs]
            have hg : (pendingOf st3)[(pendingOf st3).size - 2]? = some (pendingOf st3)[(pendingOf st3).size - 2] := getElem?_pos _ _ _
            rw [hg]
            generalize (pendingOf st3)[(pendingOf st3).size - 2] = q
            obtain ⟨q1, q2, q3⟩ := q
            dsimp only
            by_cases ho : q3 ≤ pw
            · rw [if_pos ho]
              exact wpS_pure ⟨rfl, t3⟩
            · rw [if_neg ho]
              refine wpS_bind (wpS_mergeR h0 t3 (by omega) fun st4 t4 _ => ?_)
              rw [if_neg (by simp)]
              exact wpS_pure ⟨rfl, t4⟩
          · rw [if_neg hs]
            exact wpS_pure ⟨rfl, t3⟩
        · rintro c st3 ⟨rfl, t3⟩
          dsimp only
          exact wpS_bind (wpS_modify (wpS_bind (wpS_modify (wpS_pure ⟨lo + n, rest2, rfl, (t3.repow).push lX n1 sX, by omega⟩))))
  · rintro c st' ⟨lo, rest, rfl, t, hx⟩
    have hrl := rl t
    obtain rfl : lo = N := by omega
    obtain rfl : rest = [] := List.eq_nil_of_length_eq_zero (by omega)
    exact ⟨lo, rfl, t⟩
  rintro c st' ⟨lo, rfl, t⟩
  dsimp only
  have ps : (pendingOf st').size ≤ N := by
    obtain ⟨R, ea, el, ro⟩ := t.runs
    have := ro.len.2
    rw [Array.length_toList] at this
    omega
  refine wpS_bind (wpS_mono (wpS_forRange (I := fun x c st'' => c = (none, ()) ∧ TS (arrOf st).toList [] N st'' ∧ ((pendingOf st'').size + x ≤ N ∨ (pendingOf st'').size ≤ 1)) (Q := fun c st'' => c = (none, ()) ∧ TS (arrOf st).toList [] N st'' ∧ (pendingOf st'').size ≤ 1) ?_ ?_ ⟨rfl, t, .inl (by omega)⟩) ?_)
  · rintro x c st3 _ hx ⟨rfl, t3, hs⟩
    refine wpS_bind (wpS_get ?_)
    by_cases h1 : (pendingOf st3).size ≤ 1
    · rw [if_pos h1]
      exact wpS_pure ⟨rfl, t3, h1⟩
    rw [if_neg h1]
    have hite : ∀ (c : Prop) [Decidable c], (if c then (pendingOf st3).size - 2 - 1 else (pendingOf st3).size - 2) + 1 < (pendingOf st3).size := fun c _ => by split <;> omega
    refine wpS_bind (wpS_mergeR h0 t3 (hite _) fun st4 t4 hl => ?_)
    rw [if_neg (by simp)]
    exact wpS_pure ⟨rfl, t4, by omega⟩
  · rintro c st3 ⟨rfl, t3, hs⟩
    exact ⟨rfl, t3, by omega⟩
  · rintro c st3 ⟨rfl, t3, hs⟩
    refine wpS_pure (h st3 (Array.perm_iff_toList_perm.mpr t3.perm) t3.fail ?_)
    obtain ⟨R, ea, el, ro⟩ := t3.runs
    rw [ea, List.append_nil]
    have hl := ro.len.1
    rw [Array.length_toList] at hl
    generalize (pendingOf st3).toList = p at ro
    match R, p, ro, hl with
    | [], _, _, _ => exact List.Pairwise.nil
    | [r], [], ro, _ => exact ro.elim
    | [r], (b, n, w) :: p, ro, _ => simpa using ro.2.2.2.1
    | r :: r2 :: R, _, _, hl => simp at hl; omega
end
end L2.PU
namespace L2.PU
open PySem PySem.Spec PyProof.Rows
theorem Paired.len {α β : Type} {F : α → β → Prop} : ∀ {l₁ : List α} {l₂ : List β}, Paired F l₁ l₂ → l₁.length = l₂.length
  | _, _, .nil => rfl
  | _, _, .cons _ t => congrArg (· + 1) (Paired.len t)
theorem Paired.at {α β : Type} {F : α → β → Prop} : ∀ {l₁ : List α} {l₂ : List β} {i : Nat} {a : α}, Paired F l₁ l₂ → l₁[i]? = some a → ∃ b, l₂[i]? = some b ∧ F a b
  | _, _, _, _, .nil, e => by simp at e
  | _, _, 0, _, .cons h _, e => by simp at e; subst e; exact ⟨_, rfl, h⟩
  | _, _, i + 1, a, .cons _ t, e => by
    obtain ⟨b, h1, h2⟩ := Paired.at (i := i) (a := a) t (by simpa using e)
    exact ⟨b, by simpa using h1, h2⟩
theorem Paired.mem {α β : Type} {F : α → β → Prop} {b : β} : ∀ {l₁ : List α} {l₂ : List β}, Paired F l₁ l₂ → b ∈ l₂ → ∃ a ∈ l₁, F a b
  | _, _, .nil, e => by simp at e
  | _, _, .cons h t, e => by
    rcases List.mem_cons.mp e with e | e
    · subst e; exact ⟨_, List.mem_cons_self, h⟩
    · obtain ⟨a, m, f⟩ := Paired.mem t e; exact ⟨a, List.mem_cons_of_mem _ m, f⟩
section
variable {X : Cx} {B : Hp} {e : Expr} {fa : Rho → M D} {pos pos' p pos2 : Pos} {x : Str} {i j : Nat}
end
section
variable {X : Cx} {B : Hp} {a b : Expr} {fa fb : Rho → M D} {pos : Pos}
end
end L2.PU
namespace L2.PU
open PySem PySem.Spec PyProof.Rows
noncomputable abbrev Sm := List (List Str × Int)
theorem lex_ir : ∀ (xs : List Str), lexS xs xs = false
  | [] => rfl
  | x :: xs => by unfold lexS; rw [if_pos rfl]; exact lex_ir xs
noncomputable abbrev kys (l : Sm) : List (List Str) := l.map (·.1)
noncomputable def valS (l : Sm) (k : List Str) : Int := ((l.find? fun p => decide (p.1 = k)).map (·.2)).getD 0
noncomputable def putS (l : Sm) (k : List Str) (v : Int) : Sm := if (l.any fun p => decide (p.1 = k)) = true then l.map (fun p => if p.1 = k then (p.1, v) else p) else l ++ [(k, v)]
noncomputable def addP (l : Sm) (p : List Str × Int) : Sm := putS l p.1 (valS l p.1 + p.2)
noncomputable def accS (c l : Sm) : Sm := c.foldl addP l
noncomputable def prodC (a b : Sm) : Sm := a.flatMap fun p => b.map fun q => (srtS (p.1 ++ q.1), p.2 * q.2)
end L2.PU
namespace L2.PU
open PySem PySem.Spec PyProof.Rows
noncomputable def sD (l : Sm) : D := .tup (l.map pD)
noncomputable def kvD (p : List Str × Int) : List Key × D := (p.1.map .inr, .int p.2)
theorem val_kv (l : Sm) (k : List Str) : (valD (l.map kvD) (k.map .inr)).getD (.int 0) = .int (valS l k) := by
  unfold valD valS
  induction l with
  | nil => rfl
  | cons p l ih =>
    rw [List.map_cons, List.find?_cons, List.find?_cons]
    by_cases e : p.1 = k
    · rw [decide_eq_true (show (kvD p).1 = k.map .inr from inr_inj.mpr e), decide_eq_true e]
      rfl
    · rw [decide_eq_false (fun z : (kvD p).1 = k.map .inr => e (inr_inj.mp z)), decide_eq_false e]
      exact ih
theorem put_kv (l : Sm) (k : List Str) (v : Int) : putT (l.map kvD) (k.map .inr) (.int v) = (putS l k v).map kvD := by
  have ha : ((l.map kvD).any fun kv => decide (kv.1 = k.map .inr)) = (l.any fun p => decide (p.1 = k)) := by
    rw [List.any_map]
    congr 1
    funext p
    show decide ((kvD p).1 = k.map Sum.inr) = _
    by_cases e : p.1 = k
    · rw [decide_eq_true (show (kvD p).1 = k.map Sum.inr from inr_inj.mpr e), decide_eq_true e]
    · rw [decide_eq_false (fun z : (kvD p).1 = k.map Sum.inr => e (inr_inj.mp z)), decide_eq_false e]
  unfold putT putS
  rw [ha]
  split
  · rw [List.map_map, List.map_map]
    apply List.map_congr_left
    intro p _
    show (if (kvD p).1 = k.map Sum.inr then ((kvD p).1, D.int v) else kvD p) = kvD (if p.1 = k then (p.1, v) else p)
    by_cases e : p.1 = k
    · rw [if_pos (show (kvD p).1 = k.map Sum.inr from inr_inj.mpr e), if_pos e]; rfl
    · rw [if_neg (fun z : (kvD p).1 = k.map Sum.inr => e (inr_inj.mp z)), if_neg e]
  · rw [List.map_append]
    rfl
theorem get_ok {i j : Nat} {ρ : Rho} {l : Sm} {k : List Str} (hi : ρ[i]? = some (some (.ow (.t (l.map kvD))))) (hj : keyAt ρ j = some (k.map .inr)) : dGet2 i j (con (.int 0)) ρ = ok (.int (valS l k)) := by
  unfold dGet2
  rw [hi, hj]
  show bnd (ok (D.int 0)) _ = _
  rw [bnd_ok, val_kv]
theorem put_ok {i j : Nat} {f : Rho → M D} {ρ : Rho} {l : Sm} {k : List Str} {v : Int} (hi : ρ[i]? = some (some (.ow (.t (l.map kvD))))) (hj : keyAt ρ j = some (k.map .inr)) (hf : f ρ = ok (.int v)) (hl : l.length < 100000) :
    sPutT i j f ρ = some (.nx (ρ.set i (some (.ow (.t ((putS l k v).map kvD)))))) := by
  unfold sPutT
  rw [hi, hj]
  show lft (f ρ) ρ _ = _
  rw [hf, lft_ok, if_pos ⟨rfl, by rw [List.length_map]; exact hl⟩, put_kv]
theorem key_tS {ρ : Rho} {j : Nat} {k : List Str} (h : ρ[j]? = some (some (.sh (tS k)))) : keyAt ρ j = some (k.map .inr) := by
  unfold keyAt
  rw [h]
  exact keysOf_strs k
theorem look_sh {ρ : Rho} {j : Nat} {d : D} (h : ρ[j]? = some (some (.sh d))) : look j ρ = ok d := by unfold look; rw [h]; rfl
theorem addP_len (l : Sm) (p : List Str × Int) : (addP l p).length ≤ l.length + 1 := by
  unfold addP putS
  split
  · rw [List.length_map]; omega
  · rw [List.length_append, List.length_singleton]; omega
theorem addk_ok {i j : Nat} {f : Rho → M D} {ρ : Rho} {l : Sm} {k : List Str} {n : Int} (hi : ρ[i]? = some (some (.ow (.t (l.map kvD))))) (hj : keyAt ρ j = some (k.map .inr)) (hf : f ρ = ok (.int n)) (hl : l.length < 100000) :
    sSeq (sPutT i j (b2 gPlus (dGet2 i j (con (.int 0))) f)) sNil ρ = some (.nx (ρ.set i (some (.ow (.t ((addP l (k, n)).map kvD)))))) := by
  rw [sSeq_nx (put_ok (v := valS l k + n) hi hj (add_ok (get_ok hi hj) hf) hl)]
  rfl
theorem forN_sD {n : Nat} {G : D → Rho → Option Rho} {F : Rho → Option Out} {ρ : Rho} {b : Sm} (h : ρ[n]? = some (some (.sh (sD b)))) : sForN n G F ρ = loop G F (b.map pD) ρ := by
  unfold sForN
  rw [look_sh h]
  show loop G F (b.map pD) (relAt n ρ) = _
  unfold relAt
  rw [h]
theorem ne_set {ρ : Rho} {a b : Nat} {v : Option SV} (h : a ≠ b) : (ρ.set a v)[b]? = ρ[b]? := List.getElem?_set_ne h
theorem srt_cat {x z : Nat} {ρ : Rho} {p q : List Str} (hx : ρ[x]? = some (some (.sh (tS p)))) (hz : ρ[z]? = some (some (.sh (tS q)))) (hl : p.length + q.length < 64) : f1 toT (f1 srtL (b2 gPlus (look x) (look z))) ρ = ok (tS (srtS (p ++ q))) := by
  have e1 : b2 gPlus (look x) (look z) ρ = ok (tS (p ++ q)) := by
    refine b2_ok (look_sh hx) (look_sh hz) ?_
    show (if (p.map D.str).length + (q.map D.str).length ≤ 100000 then ok (D.tup (p.map D.str ++ q.map D.str)) else none) = _
    rw [if_pos (by rw [List.length_map, List.length_map]; omega), ← List.map_append]
  have e2 : f1 srtL (b2 gPlus (look x) (look z)) ρ = ok (.lst ((srtS (p ++ q)).map D.str)) := by
    refine f1_ok e1 ?_
    show (match strL ((p ++ q).map D.str) with | some xs => if xs.length < 64 then ok (D.lst ((srtS xs).map .str)) else none | none => none) = _
    rw [strL_map]
    show (if (p ++ q).length < 64 then _ else _) = _
    rw [if_pos (by rw [List.length_append]; exact hl)]
  exact f1_ok e2 rfl
noncomputable abbrev innerT (i : Nat) : Rho → Option Out := sSeq (sSet (i + 5) (f1 toT (f1 srtL (b2 gPlus (look (i + 1)) (look (i + 3)))))) (sSeq (sPutT i (i + 5) (b2 gPlus (dGet2 i (i + 5) (con (.int 0))) (b2 gTimes (look (i + 2)) (look (i + 4))))) sNil)
theorem times_inner {i : Nat} {p : List Str × Int} : ∀ (b l : Sm) (ρ : Rho), i + 5 < ρ.length → ρ[i]? = some (some (.ow (.t (l.map kvD)))) → ρ[i + 1]? = some (some (.sh (tS p.1))) → ρ[i + 2]? = some (some (.sh (.int p.2))) → l.length + b.length < 100000 →
    (∀ q ∈ b, p.1.length + q.1.length < 64 ∧ mulB p.2 q.2 = true) →
    ∃ ρ', loop (gN2 (i + 3) (i + 4)) (innerT i) (b.map pD) ρ = some (.nx ρ') ∧ ρ'[i]? = some (some (.ow (.t ((accS (b.map fun q => (srtS (p.1 ++ q.1), p.2 * q.2)) l).map kvD)))) ∧ ρ'.length = ρ.length ∧ (accS (b.map fun q => (srtS (p.1 ++ q.1), p.2 * q.2)) l).length ≤ l.length + b.length ∧ ∀ m, m ≠ i → m ≠ i + 3 → m ≠ i + 4 → m ≠ i + 5 → ρ'[m]? = ρ[m]?
  | [], l, ρ, _, h, _, _, _, _ => ⟨ρ, rfl, h, rfl, Nat.le_refl _, fun _ _ _ _ _ => rfl⟩
  | q :: b, l, ρ, hlen, h, hx, hy, hl, hb => by
    rw [List.length_cons] at hl
    obtain ⟨b1, b2'⟩ := hb q List.mem_cons_self
    have g : gN2 (i + 3) (i + 4) (pD q) ρ = some ((ρ.set (i + 3) (some (.sh (tS q.1)))).set (i + 4) (some (.sh (.int q.2)))) := by
      show some (setV (i + 4) (.int q.2) (setV (i + 3) (tS q.1) ρ)) = _
      rw [setV_imm (imm_tS _), setV_imm rfl]
    obtain ⟨ρ1, hρ1⟩ : ∃ ρ1, ρ1 = (ρ.set (i + 3) (some (.sh (tS q.1)))).set (i + 4) (some (.sh (.int q.2))) := ⟨_, rfl⟩
    rw [← hρ1] at g
    have l1 : ρ1.length = ρ.length := by rw [hρ1, List.length_set, List.length_set]
    have o1 : ∀ m, m ≠ i + 3 → m ≠ i + 4 → ρ1[m]? = ρ[m]? := fun m m1 m2 => by rw [hρ1, ne_set (Ne.symm m2), ne_set (Ne.symm m1)]
    have z1 : ρ1[i + 3]? = some (some (.sh (tS q.1))) := by rw [hρ1, ne_set (by omega), List.getElem?_set_self (by omega)]
    have w1 : ρ1[i + 4]? = some (some (.sh (.int q.2))) := by rw [hρ1]; exact List.getElem?_set_self (by rw [List.length_set]; omega)
    have e5 := sSet_imm (i := i + 5) (srt_cat ((o1 (i + 1) (by omega) (by omega)).trans hx) z1 b1) (imm_tS _)
    obtain ⟨ρ2, hρ2⟩ : ∃ ρ2, ρ2 = ρ1.set (i + 5) (some (.sh (tS (srtS (p.1 ++ q.1))))) := ⟨_, rfl⟩
    rw [← hρ2] at e5
    have l2 : ρ2.length = ρ.length := by rw [hρ2, List.length_set, l1]
    have o2 : ∀ m, m ≠ i + 5 → ρ2[m]? = ρ1[m]? := fun m m1 => by rw [hρ2, ne_set (Ne.symm m1)]
    have u2 : ρ2[i + 5]? = some (some (.sh (tS (srtS (p.1 ++ q.1))))) := by rw [hρ2]; exact List.getElem?_set_self (by omega)
    have i2 : ρ2[i]? = some (some (.ow (.t (l.map kvD)))) := (o2 i (by omega)).trans ((o1 i (by omega) (by omega)).trans h)
    have y2 : ρ2[i + 2]? = some (some (.sh (.int p.2))) := (o2 _ (by omega)).trans ((o1 _ (by omega) (by omega)).trans hy)
    have w2 : ρ2[i + 4]? = some (some (.sh (.int q.2))) := (o2 _ (by omega)).trans w1
    have e6 := addk_ok i2 (key_tS u2) (mul_ok (look_sh y2) (look_sh w2) b2') (by omega)
    have e7 : innerT i ρ1 = some (.nx (ρ2.set i (some (.ow (.t ((addP l (srtS (p.1 ++ q.1), p.2 * q.2)).map kvD)))))) := by
      show sSeq _ _ ρ1 = _
      rw [sSeq_nx e5]
      exact e6
    have al := addP_len l (srtS (p.1 ++ q.1), p.2 * q.2)
    obtain ⟨ρ', k1, k2, k3, k5, k4⟩ := times_inner (i := i) (p := p) b (addP l (srtS (p.1 ++ q.1), p.2 * q.2)) (ρ2.set i (some (.ow (.t ((addP l (srtS (p.1 ++ q.1), p.2 * q.2)).map kvD))))) (by rw [List.length_set, l2]; exact hlen) (List.getElem?_set_self (by omega))
      (by rw [ne_set (by omega)]; exact (o2 _ (by omega)).trans ((o1 _ (by omega) (by omega)).trans hx)) (by rw [ne_set (by omega)]; exact y2) (by omega) (fun q' hq' => hb q' (List.mem_cons_of_mem _ hq'))
    refine ⟨ρ', by rw [List.map_cons, loop_cons g e7]; exact k1, k2, by rw [k3, List.length_set, l2], ?_, fun m m1 m2 m3 m4 => ?_⟩
    · rw [List.length_cons]
      show (accS (b.map fun q => (srtS (p.1 ++ q.1), p.2 * q.2)) (addP l (srtS (p.1 ++ q.1), p.2 * q.2))).length ≤ _
      omega
    · rw [k4 m m1 m2 m3 m4, ne_set (Ne.symm m1), o2 m m4, o1 m m2 m3]
theorem acc_app (c d l : Sm) : accS (c ++ d) l = accS d (accS c l) := List.foldl_append
theorem times_loop {i n : Nat} (hn : n < i) {b : Sm} : ∀ (a l : Sm) (ρ : Rho), i + 5 < ρ.length → ρ[i]? = some (some (.ow (.t (l.map kvD)))) → ρ[n]? = some (some (.sh (sD b))) → l.length + a.length * b.length < 100000 →
    (∀ p ∈ a, ∀ q ∈ b, p.1.length + q.1.length < 64 ∧ mulB p.2 q.2 = true) →
    ∃ ρ', loop (gN2 (i + 1) (i + 2)) (sSeq (sForN n (gN2 (i + 3) (i + 4)) (innerT i)) sNil) (a.map pD) ρ = some (.nx ρ') ∧ ρ'[i]? = some (some (.ow (.t ((accS (prodC a b) l).map kvD)))) ∧ (accS (prodC a b) l).length ≤ l.length + a.length * b.length
  | [], l, ρ, _, h, _, _, _ => ⟨ρ, rfl, h, by simp [prodC, accS]⟩
  | p :: a, l, ρ, hlen, h, hb, hl, hm => by
    have em : (a.length + 1) * b.length = a.length * b.length + b.length := Nat.succ_mul _ _
    rw [List.length_cons, em] at hl
    have g : gN2 (i + 1) (i + 2) (pD p) ρ = some ((ρ.set (i + 1) (some (.sh (tS p.1)))).set (i + 2) (some (.sh (.int p.2)))) := by
      show some (setV (i + 2) (.int p.2) (setV (i + 1) (tS p.1) ρ)) = _
      rw [setV_imm (imm_tS _), setV_imm rfl]
    obtain ⟨ρ1, hρ1⟩ : ∃ ρ1, ρ1 = (ρ.set (i + 1) (some (.sh (tS p.1)))).set (i + 2) (some (.sh (.int p.2))) := ⟨_, rfl⟩
    rw [← hρ1] at g
    have l1 : ρ1.length = ρ.length := by rw [hρ1, List.length_set, List.length_set]
    have o1 : ∀ m, m ≠ i + 1 → m ≠ i + 2 → ρ1[m]? = ρ[m]? := fun m m1 m2 => by rw [hρ1, ne_set (Ne.symm m2), ne_set (Ne.symm m1)]
    have x1 : ρ1[i + 1]? = some (some (.sh (tS p.1))) := by rw [hρ1, ne_set (by omega), List.getElem?_set_self (by omega)]
    have y1 : ρ1[i + 2]? = some (some (.sh (.int p.2))) := by rw [hρ1]; exact List.getElem?_set_self (by rw [List.length_set]; omega)
    obtain ⟨ρ2, k1, k2, k3, k5, k4⟩ := times_inner (i := i) (p := p) b l ρ1 (by omega) ((o1 i (by omega) (by omega)).trans h) x1 y1 (by omega) (hm p List.mem_cons_self)
    have n1 : ρ1[n]? = some (some (.sh (sD b))) := (o1 n (by omega) (by omega)).trans hb
    have e : sSeq (sForN n (gN2 (i + 3) (i + 4)) (innerT i)) sNil ρ1 = some (.nx ρ2) := by
      rw [sSeq_nx ((forN_sD n1).trans k1)]
      rfl
    obtain ⟨ρ', j1, j2, j3⟩ := times_loop hn a (accS (b.map fun q => (srtS (p.1 ++ q.1), p.2 * q.2)) l) ρ2 (by omega) k2 ((k4 n (by omega) (by omega) (by omega) (by omega)).trans n1) (by omega) (fun p' hp' => hm p' (List.mem_cons_of_mem _ hp'))
    have ep : prodC (p :: a) b = (b.map fun q => (srtS (p.1 ++ q.1), p.2 * q.2)) ++ prodC a b := List.flatMap_cons
    refine ⟨ρ', by rw [List.map_cons, loop_cons g e]; exact j1, by rw [ep, acc_app]; exact j2, ?_⟩
    rw [ep, acc_app, List.length_cons, em]
    omega
theorem cmpL_one {α : Type} {k : Nat} {fe : Rho → M D} {ρ : Rho} {e : α → D} {g : α → D} : ∀ (l : List α), (∀ x ∈ l, fe (ρ.set k (some (.sh (e x)))) = ok (g x) ∧ (g x).imm = true) → cmpL [k] h1 (fun _ => ok true) fe (l.map e) ρ = ok (l.map g)
  | [], _ => rfl
  | x :: l, h => by
    obtain ⟨e1, e2⟩ := h x List.mem_cons_self
    have ih := cmpL_one (g := g) l fun p hp => h p (List.mem_cons_of_mem _ hp)
    rw [List.map_cons, List.map_cons]
    unfold cmpL
    show (match fe (ρ.set k (some (.sh (e x)))) with
        | some (.ok r) => if r.imm = true then bnd (cmpL [k] h1 (fun _ => ok true) fe (l.map e) ρ) fun rs => ok (r :: rs) else none
        | _ => none) = _
    rw [e1, ih]
    show (if (g x).imm = true then bnd (ok (l.map g)) fun rs => ok (g x :: rs) else none) = _
    rw [if_pos e2]
    rfl
theorem cmp_one {α : Type} {m k : Nat} {it : Rho → M (List D)} {fe : Rho → M D} {ρ : Rho} {l : List α} {e : α → D} {g : α → D} (hi : it ρ = ok (l.map e)) (hl : l.length ≤ 1000)
    (h : ∀ x ∈ l, fe ((ext m (free ρ)).set k (some (.sh (e x)))) = ok (g x) ∧ (g x).imm = true) : cmp m it [k] h1 (fun _ => ok true) fe ρ = ok (.lst (l.map g)) := by
  unfold cmp
  rw [hi, bnd_ok, if_pos (by rw [List.length_map]; omega), cmpL_one l h, bnd_ok]
end L2.PU
namespace L2.PU
open PySem PySem.Spec PyProof.Rows
structure MarkS (l : Sm) : Prop where
  ks : (kys l).Pairwise fun x y => lexS x y = true
  fa : ∀ p ∈ l, p.1.Pairwise fun x y => leS x y = true
  po : ∀ p ∈ l, 1 ≤ p.2
theorem MarkS.nd {l : Sm} (h : MarkS l) : (kys l).Nodup := h.ks.imp fun hxy e => by rw [e, lex_ir] at hxy; cases hxy
noncomputable def r4 : List Nat := [0, 1, 2, 3]
noncomputable def L35 : List (List Nat) := [[]] ++ (r4.map fun a => [a]) ++ (r4.flatMap fun a => (r4.filter fun b => decide (a ≤ b)).map fun b => [a, b]) ++ (r4.flatMap fun a => (r4.filter fun b => decide (a ≤ b)).flatMap fun b => (r4.filter fun c => decide (b ≤ c)).map fun c => [a, b, c])
theorem w1 : ∀ a : Fin 4, (L35.any fun l => l.isPerm [a.1]) = true := by decide
theorem w2 : ∀ a b : Fin 4, (L35.any fun l => l.isPerm [a.1, b.1]) = true := by decide
theorem w3 : ∀ a b c : Fin 4, (L35.any fun l => l.isPerm [a.1, b.1, c.1]) = true := by decide
end L2.PU
namespace L2.PU
open PySem PySem.Spec PyProof.Rows
section
variable {X : Cx} {B : Hp} {c : Expr} {body : List Stmt} {tc : Rho → M Bool} {F : Rho → Option Out} {pos : Pos}
end
section
variable {K : PySem.W.Frag} {H : Hp}
end
section
variable {X : Cx} {B : Hp} {e a b : Expr} {fa fb fk : Rho → M D} {pos pos' p pos2 cpos apos spos : Pos} {x : Str} {i j : Nat}
end
end L2.PU
namespace L2.PU
open PySem PySem.Spec PyProof.Rows
noncomputable def srtN (ns : List Int) : List Int := ns.mergeSort fun a b => decide (a ≤ b)
theorem srtN_perm (ns : List Int) : (srtN ns).Perm ns := List.mergeSort_perm _ _
theorem srtN_pair (ns : List Int) : (srtN ns).Pairwise (· ≤ ·) := by
  have h := List.pairwise_mergeSort (le := fun a b : Int => decide (a ≤ b)) (fun a b c h1 h2 => by simp at h1 h2 ⊢; omega) (fun a b => by simp; omega) ns
  exact h.imp fun h => by simpa using h
theorem srtN_of {xs ys : List Int} (hs : ys.Pairwise (· ≤ ·)) (hp : ys.Perm xs) : ys = srtN xs :=
  List.Perm.eq_of_pairwise (fun a b _ _ h1 h2 => Int.le_antisymm h1 h2) hs (srtN_pair xs) (hp.trans (srtN_perm xs).symm)
theorem srtN_len (ns : List Int) : (srtN ns).length = ns.length := (srtN_perm ns).length_eq
section
variable {prog : Program} {w : World} {A : Around} {E : Value → Shared → Prop} {s : Shared}
theorem sorted_to {xs : Array Keyed} (h : SL xs.toList) : SortedTo xs xs.size := by
  intro i j hij hj
  rw [K_eq (by omega), K_eq hj]
  exact h.at hij (by simp) (by simp)
theorem list_sortN {a : Addr} {vs : List Value} {ns : List Int} {n : Nat} {P : PySem.Fin → Shared → Prop} (ho : s.heap.get? a = some (seqObj "list" vs.toArray n)) (hI : IntsAre vs ns) (hz : vs.length ≤ 100000)
    (h : ∀ (out : Array Value), IntsAre out.toList (srtN ns) → P (.done (.ret .none)) { s with heap := sortedHeap s.heap a vs out }) :
    wpAny (model prog w) A (Builtin.«list.sort» ⟨[.ref a], []⟩) P E s := by
  by_cases h64 : vs.length < 64
  · refine list_sort_tree ho hI h64 fun out ns' a1 a2 a3 => h out ?_
    rw [← srtN_of a3 a2]
    exact a1
  have hs : sizeLine = 16777216 := sizeLine_eq
  rw [list_sort_plain]
  have ha : a < s.heap.objs.size := Heap.lt_size ho
  refine wpAny_bind (listItems_at ho rfl ?_)
  refine wpAny_bind (listUpdate_at ho rfl ?_ (by rw [List.size_toArray]; omega) (Nat.zero_le _))
  obtain ⟨e1, ho1⟩ : ∃ e1, (s.heap.update a (Obj.mapSeq fun _ => #[])).get? a = some (seqObj "list" #[] e1) := ⟨_, get?_update_seq ho (fun _ => #[])⟩
  refine wpAny_bind (seqEpoch_at ho1 rfl ?_)
  refine wpAny_bind (wpAny_newTuple ?_ (by show vs.length ≤ _; omega))
  refine wpAny_bind (wpAny_newList ?_ (Nat.zero_le _))
  refine wpAny_holding ?_
  have ho6 : (((s.heap.update a (Obj.mapSeq fun _ => #[])).push (seqObj "tuple" vs.toArray 0)).push (seqObj "list" #[] 0)).get? a = some (seqObj "list" #[] e1) := Heap.get?_push_of_some _ (Heap.get?_push_of_some _ ho1)
  show wpAny (model prog w) A _ P E { s with heap := ((s.heap.update a (Obj.mapSeq fun _ => #[])).push (seqObj "tuple" vs.toArray 0)).push (seqObj "list" #[] 0) }
  dsimp only
  have h2 : ¬ vs.toArray.size < 2 := by rw [List.size_toArray]; omega
  rw [if_neg h2, if_neg h2]
  obtain ⟨v₁, v₂, rest, rfl⟩ : ∃ v₁ v₂ rest, vs = v₁ :: v₂ :: rest := by
    match vs, h64 with
    | [], h => simp at h
    | [_], h => simp at h
    | v₁ :: v₂ :: rest, _ => exact ⟨v₁, v₂, rest, rfl⟩
  rw [keyKind_ints hI]
  refine wpAny_bind (wpAny_pure ?_)
  refine wpAny_bind (wpAny_mono (wpS_sortAll (st := SortSt.mk' oneType' (pairsOf (v₁ :: v₂ :: rest)) #[] 7 none)
    (Q := fun _ st' => (arrOf st').Perm (pairsOf (v₁ :: v₂ :: rest)) ∧ failedOf st' = none ∧ SL (arrOf st').toList) rfl rfl rfl (fun p hp => hI.intKeys p hp) (by show 1 ≤ (pairsOf (v₁ :: v₂ :: rest)).size; rw [pairsOf_size]; simp) fun st' a1 a2 a3 => ⟨a1, a2, a3⟩) ?_ fun _ _ e => e)
  rintro ⟨⟨⟩, st'⟩ s' ⟨rfl, hp, hf, hl⟩
  dsimp only
  refine wpAny_bind (seqEpoch_at ho6 rfl ?_)
  refine wpAny_bind (listUpdate_at ho6 rfl ?_ (Nat.zero_le _) (by refine Nat.le_trans (Nat.le_of_eq ((Array.size_map ..).trans (hp.size_eq.trans (pairsOf_size _)))) ?_; omega))
  rw [hf]
  simp only [bne_self_eq_false, Bool.false_eq_true, if_false]
  obtain ⟨ns', b1, b2, b3⟩ := sorted_out hI hp (by rw [← hp.size_eq]; exact sorted_to hl)
  refine wpAny_pure (h _ ?_)
  rw [← srtN_of b3 b2]
  exact b1
theorem sorted_ofN {x : Value} {ns : List Int} {Q : Value → Shared → Prop} (hh : A.handled = none) (hz : ns.length ≤ 100000)
    (hc : ∀ (B : Around) (Q' : List Value → Shared → Prop), B.handled = none → (∀ vals h' tk d, IntsAre vals ns → s.heap.objs.size ≤ h'.objs.size → (∀ b o, s.heap.get? b = some o → h'.get? b = some o) → Q' vals { s with heap := h', toks := tk, drawn := d }) → wpAny (model prog w) B (collect x) Q' E s)
    (h : ∀ out l h' tk d m, IntsAre out (srtN ns) → s.heap.objs.size ≤ l → h'.get? l = some { cls := .type "list", data := .seq out.toArray m } → (∀ b o, s.heap.get? b = some o → h'.get? b = some o) → Q (.ref l) { s with heap := h', toks := tk, drawn := d }) :
    wpAny (model prog w) A (call (.builtin "sorted") [x]) Q E s := by
  have hs : sizeLine = 16777216 := sizeLine_eq
  refine Calls.call_function_entry kind_sorted plain_sorted entry_sorted (args_sorted1 _) ?_
  unfold Builtin.«sorted»
  refine wpAny_bind (m := checkCount "sorted" 1 1 _) (wpAny_pure ?_)
  refine wpAny_bind (hc A.in1 _ (by simp [hh]) fun vals h1 tk d hS le hk => ?_)
  have hvl : vals.length ≤ 100000 := by rw [← hS.nums, List.length_map] at hz; exact hz
  refine wpAny_bind (wpAny_newList ?_ (by omega))
  have hoL : (h1.push (seqObj "list" vals.toArray 0)).get? h1.objs.size = some (seqObj "list" vals.toArray 0) := Heap.get?_push_size _ rfl
  show wpAny _ _ _ _ _ { s with heap := h1.push (seqObj "list" vals.toArray 0), toks := tk, drawn := d }
  refine wpAny_bind (wpAny_holding (wpAny_call_entry slot_list_sort ⟨_, hoL, rfl⟩ entry_list_sort (list_sortN hoL hS hvl fun out b1 => ⟨_, rfl, ?_⟩) (args_list_sort _)))
  refine wpAny_pure ⟨_, rfl, ?_⟩
  obtain ⟨ol⟩ := out
  have k1 := get?_update_seq hoL (fun _ => #[])
  have k2 := get?_update_seq (Heap.get?_push_of_some (seqObj "list" #[] 0) (Heap.get?_push_of_some (seqObj "tuple" vals.toArray 0) k1)) (fun _ => ol.toArray)
  refine h ol h1.objs.size _ tk d _ b1 le k2 fun b o e => ?_
  have lt := Heap.lt_size (hk b o e)
  have ne : h1.objs.size ≠ b := Nat.ne_of_gt lt
  show (sortedHeap _ _ _ _).get? b = some o
  unfold sortedHeap
  rw [Heap.get?_update_other _ _ ne]
  refine Heap.get?_push_of_some _ (Heap.get?_push_of_some _ ?_)
  rw [Heap.get?_update_other _ _ ne]
  exact Heap.get?_push_of_some _ (hk b o e)
end
noncomputable def numL : List D → Option (List Int)
  | [] => some []
  | .int x :: ds => match numL ds with | some xs => some (x :: xs) | none => none
  | _ :: _ => none
theorem numL_map (xs : List Int) : numL (xs.map D.int) = some xs := by
  induction xs with
  | nil => rfl
  | cons x r ih => rw [List.map_cons]; unfold numL; rw [ih]
theorem numL_eq (ds : List D) {xs : List Int} (h : numL ds = some xs) : ds = xs.map D.int := by
  induction ds generalizing xs with
  | nil => cases h; rfl
  | cons d ds ih =>
    unfold numL at h
    split at h
    · cases ‹_ :: _ = []›
    · rename_i e
      cases e
      split at h
      · rename_i ys hy
        cases h
        rw [ih hy]; rfl
      · cases h
    · cases h
theorem isl_num {K : PySem.W.Frag} {H : Hp} : ∀ (xs : List Int), IsL K H (xs.map D.int) (xs.map V.int)
  | [] => .nil
  | x :: xs => .cons (.int x) (isl_num xs)
theorem nums_vals : ∀ {vs : List Value} {xs : List Int}, IntsAre vs xs → Vals (xs.map V.int) vs
  | _, _, .nil => .nil
  | _, _, .cons y t r => .cons ⟨t, rfl⟩ (nums_vals r)
theorem nums_are {K : PySem.W.Frag} {H : Hp} : ∀ {xs : List Int} {vs : List V} {its : List Value}, IsL K H (xs.map D.int) vs → Vals vs its → IntsAre its xs
  | [], _, _, .nil, r => by cases r; exact .nil
  | x :: xs, _, _, .cons h q, r => by
    cases h
    cases r with
    | cons r1 r2 =>
      obtain ⟨t, rfl⟩ := r1
      exact .cons x t (nums_are q r2)
noncomputable def srtLN : D → M D
  | .lst ds => match numL ds with | some xs => if xs.length ≤ 1000 then ok (.lst ((srtN xs).map .int)) else none | none => none
  | .tup ds => match numL ds with | some xs => if xs.length ≤ 1000 then ok (.lst ((srtN xs).map .int)) else none | none => none
  | _ => none
section
variable {X : Cx} {B : Hp} {e a b : Expr} {fa fb : Rho → M D} {pos p p2 pos2 : Pos}
theorem call_sortedN (hc : X.calm = true) : CallR X (.builtin "sorted") (fun xs H Q => ∃ p ys ss, xs = [.ref p] ∧ (SqL X.K H p ys ∨ SqT X.K H p ys) ∧ IsL X.K H ((ss : List Int).map D.int) ys ∧ ss.length ≤ 1000 ∧ ∀ l, H l = none → Q (.ref l) (upd H l (.lst ((srtN ss).map V.int)))) := by
  intro pins s σ H xs us Q I r h
  obtain ⟨p, ys, ss, rfl, hp, hi, h64, q⟩ := h
  obtain ⟨u, rfl, rx⟩ := vals1 r
  cases rx
  have hs : sizeLine = 16777216 := sizeLine_eq
  have key : ∃ (its : List Value) (T : String) (o : Obj) (nn : Nat), Vals ys its ∧ (T = "list" ∨ T = "tuple") ∧ s.heap.get? p = some o ∧ o.cls = .type T ∧ o.data = .seq its.toArray nn := by
    rcases hp with hp | hp
    · obtain ⟨its, r1, ⟨o, nn, e1, e2, _, e3⟩, _⟩ := I.list hp
      exact ⟨its, "list", o, nn, r1, .inl rfl, e1, e2, e3⟩
    · obtain ⟨its, r1, ⟨o, e1, e2, nn, e3⟩, _⟩ := I.tuple hp
      exact ⟨its, "tuple", o, nn, r1, .inr rfl, e1, e2, e3⟩
  obtain ⟨its, T, o, nn, r1, hT, ho, hcl, hd⟩ := key
  have hS := nums_are hi r1
  have hlen : its.length = ss.length := by rw [← hS.nums, List.length_map]
  refine sorted_ofN (ns := ss) (I.ok.hd hc) (by omega) (fun B' Q' hB q' => collect_seq hT ho hcl hd (by omega) (q' its _ s.toks s.drawn hS ?_ fun b ob eb => ?_)) fun out l h' tk d m hS' hl ho' kp => ?_
  · rw [Heap.size_update, Heap.size_push]
    exact Nat.le_succ _
  · rw [Heap.get?_update_other _ _ (Nat.ne_of_gt (Heap.lt_size eb))]
    exact Heap.get?_push_of_some _ eb
  · have hl2 : (srtN ss).length = ss.length := srtN_len ss
    exact ⟨.ref l, _, (inv_drew I d).laid (t' := tk) kp hl (show ObjOk X.prog X.w _ h' _ (.lst _) from ⟨by rw [List.length_map]; omega, out, m, nums_vals hS', ho'⟩), rfl, q _ (I.hok.fresh hl)⟩
theorem pd_sortedN (hc : X.calm = true) (hg : Gl X "sorted") (hm : X.mg "sorted" = none) (ha : PD X B e fa) (hs : nostar e = true := by rfl) : PD X B (.Call (.Name "sorted" p) [e] [] pos) (f1 srtLN fa) := by
  refine PE.of (pe_callB (call_sortedN hc) hg hm boot_sorted (pa_cons ha pa_nil (star_ok hs)) (he := star_ok hs) (hpl := by rfl)) fun σ H Q h => ?_
  obtain ⟨ρ, r1, h⟩ := h
  refine ⟨ρ, r1, (Res.bind h).imp fun d q1 v H1 e1 i1 => ?_⟩
  cases i1 with
  | lst hh rr =>
    dsimp only [srtLN] at q1
    split at q1
    · rename_i xs hx
      split at q1
      · rename_i hz
        have ex := numL_eq _ hx
        subst ex
        exact ⟨_, _, xs, rfl, .inl hh, rr, hz, fun l hl => q1 _ _ (e1.trans (same_new hl _)) (.lst (SqL.of upd_same) (isl_num _))⟩
      · exact False.elim q1
    · exact False.elim q1
  | tup hh rr =>
    dsimp only [srtLN] at q1
    split at q1
    · rename_i xs hx
      split at q1
      · rename_i hz
        have ex := numL_eq _ hx
        subst ex
        exact ⟨_, _, xs, rfl, .inr hh.sq, rr, hz, fun l hl => q1 _ _ (e1.trans (same_new hl _)) (.lst (SqL.of upd_same) (isl_num _))⟩
      · exact False.elim q1
    · exact False.elim q1
  | _ => exact False.elim q1
end
end L2.PU
set_option Elab.async false
set_option linter.all false
set_option maxRecDepth 100000
set_option maxHeartbeats 4000000
namespace K05
open PySem PySem.Spec PyProof.Rows L2 L2.PU
noncomputable abbrev St := L2.St
noncomputable def top (i : Nat) : Stmt := PySem.Challenge.pw_whence_k05_lows.main.body.getD i (.Pass ⟨0, 0, 0, 0⟩)
noncomputable abbrev s_is_whole : Stmt := top 5
noncomputable abbrev s_Lows___init__ : Stmt := inClass (top 7) 0
noncomputable abbrev s_Lows_plus : Stmt := inClass (top 7) 1
noncomputable abbrev s_Lows_times : Stmt := inClass (top 7) 2
noncomputable abbrev s_law_at : Stmt := top 9
noncomputable abbrev s_law_same : Stmt := top 10
noncomputable abbrev s_law_number : Stmt := top 11
noncomputable abbrev s_law_lows : Stmt := top 12
noncomputable abbrev s_law_sums : Stmt := top 13
noncomputable abbrev s_law_refused : Stmt := top 14
noncomputable abbrev s_law : Stmt := top 15
set_option genInjectivity false in
structure Adr where
  C_Lows : Addr
  X_WhenceError : Addr
  X_NoWay : Addr
  f_is_whole : Addr
  f_Lows___init__ : Addr
  f_Lows_plus : Addr
  f_Lows_times : Addr
  f_law_at : Addr
  f_law_same : Addr
  f_law_number : Addr
  f_law_lows : Addr
  f_law_sums : Addr
  f_law_refused : Addr
  f_law : Addr
noncomputable def cs (t : Adr) (C : Addr) : Bool := decide (C = t.C_Lows)
structure Txt (K : PySem.W.Frag) (mg : Str → Option Value) (t : Adr) : Prop where
  g_Lows : mg "Lows" = some (.ref t.C_Lows)
  cl_Lows : Cls K t.C_Lows
  mk_Lows : Mk K t.C_Lows t.f_Lows___init__
  me_Lows_plus : Meth K t.C_Lows "plus" t.f_Lows_plus
  me_Lows_times : Meth K t.C_Lows "times" t.f_Lows_times
  g_WhenceError : mg "WhenceError" = some (.ref t.X_WhenceError)
  xi_WhenceError : PySem.W.excIn K t.X_WhenceError [.type "ValueError", .type "Exception", .type "BaseException", .type "object"] "ValueError.__new__" = true
  g_NoWay : mg "NoWay" = some (.ref t.X_NoWay)
  xi_NoWay : PySem.W.excIn K t.X_NoWay [.type "ValueError", .type "Exception", .type "BaseException", .type "object"] "ValueError.__new__" = true
  xk_NoWay_ValueError : PySem.W.kitOne K (.ref t.X_NoWay) (.type "ValueError") = some true
  xk_NoWay_WhenceError : PySem.W.kitOne K (.ref t.X_NoWay) (.ref t.X_WhenceError) = some true
  xm_NoWay_NoWay : PySem.W.exmOne K (.ref t.X_NoWay) (.ref t.X_NoWay) = some true
  xm_WhenceError_NoWay : PySem.W.exmOne K (.ref t.X_WhenceError) (.ref t.X_NoWay) = some false
  xm_WhenceError_WhenceError : PySem.W.exmOne K (.ref t.X_WhenceError) (.ref t.X_WhenceError) = some true
  nx_NoWay_WhenceError : t.X_NoWay ≠ t.X_WhenceError
  nf_many : ∀ C, cs t C = true → Cls K C ∧ NoAttr K C "many"
  nf_nought : ∀ C, cs t C = true → Cls K C ∧ NoAttr K C "nought"
  nf_one : ∀ C, cs t C = true → Cls K C ∧ NoAttr K C "one"
  F_is_whole : ∃ fd, Fun K "is_whole" "is_whole" s_is_whole t.f_is_whole fd ∧ Binds K fd ["thing", "least"] []
  g_is_whole : mg "is_whole" = some (.ref t.f_is_whole)
  F_Lows___init__ : ∃ fd, Fun K "__init__" "Lows.__init__" s_Lows___init__ t.f_Lows___init__ fd ∧ Binds K fd ["self", "many"] []
  F_Lows_plus : ∃ fd, Fun K "plus" "Lows.plus" s_Lows_plus t.f_Lows_plus fd ∧ Binds K fd ["self", "a", "b"] []
  F_Lows_times : ∃ fd, Fun K "times" "Lows.times" s_Lows_times t.f_Lows_times fd ∧ Binds K fd ["self", "a", "b"] []
  F_law_at : ∃ fd, Fun K "_law_at" "_law_at" s_law_at t.f_law_at fd ∧ Binds K fd ["_law_script", "_law_k"] []
  g_law_at : mg "_law_at" = some (.ref t.f_law_at)
  F_law_same : ∃ fd, Fun K "_law_same" "_law_same" s_law_same t.f_law_same fd ∧ Binds K fd ["_law_found", "_law_due"] []
  g_law_same : mg "_law_same" = some (.ref t.f_law_same)
  F_law_number : ∃ fd, Fun K "_law_number" "_law_number" s_law_number t.f_law_number fd ∧ Binds K fd ["_law_cell"] []
  g_law_number : mg "_law_number" = some (.ref t.f_law_number)
  F_law_lows : ∃ fd, Fun K "_law_lows" "_law_lows" s_law_lows t.f_law_lows fd ∧ Binds K fd ["_law_cell", "_law_many"] []
  g_law_lows : mg "_law_lows" = some (.ref t.f_law_lows)
  F_law_sums : ∃ fd, Fun K "_law_sums" "_law_sums" s_law_sums t.f_law_sums fd ∧ Binds K fd ["_law_a", "_law_b"] []
  g_law_sums : mg "_law_sums" = some (.ref t.f_law_sums)
  F_law_refused : ∃ fd, Fun K "_law_refused" "_law_refused" s_law_refused t.f_law_refused fd ∧ Binds K fd ["_law_thing"] []
  g_law_refused : mg "_law_refused" = some (.ref t.f_law_refused)
  F_law : ∃ fd, Fun K "law" "law" s_law t.f_law fd ∧ Binds K fd ["_law_script"] []
  g_law : mg "law" = some (.ref t.f_law)
  b_ValueError : mg "ValueError" = none
  b_bool : mg "bool" = none
  b_int : mg "int" = none
  b_isinstance : mg "isinstance" = none
  b_len : mg "len" = none
  b_list : mg "list" = none
  b_min : mg "min" = none
  b_range : mg "range" = none
  b_sorted : mg "sorted" = none
  b_str : mg "str" = none
  b_tuple : mg "tuple" = none
section
variable {P : Program} {w : World} {K : PySem.W.Frag} {mg : Str → Option Value} {base : Heap} {t : Adr}
noncomputable def km_ValueError (t : Adr) (C : Addr) : Bool := decide (C = t.X_NoWay)
theorem kmo_ValueError (T : Txt K mg t) : ∀ C, km_ValueError t C = true → PySem.W.kitOne K (.ref C) (.type "ValueError") = some true := fun C hC => by
  unfold km_ValueError at hC
  simp only [Bool.or_eq_true, decide_eq_true_eq] at hC
  rcases hC with rfl
  · exact T.xk_NoWay_ValueError
noncomputable def km_WhenceError (t : Adr) (C : Addr) : Bool := decide (C = t.X_NoWay)
theorem kmo_WhenceError (T : Txt K mg t) : ∀ C, km_WhenceError t C = true → PySem.W.kitOne K (.ref C) (.ref t.X_WhenceError) = some true := fun C hC => by
  unfold km_WhenceError at hC
  simp only [Bool.or_eq_true, decide_eq_true_eq] at hC
  rcases hC with rfl
  · exact T.xk_NoWay_WhenceError
noncomputable def hm_NoWay (t : Adr) (C : Addr) : Option Bool := if C = t.X_NoWay then some true else none
theorem hmo_NoWay (T : Txt K mg t) : ∀ C b, hm_NoWay t C = some b → PySem.W.exmOne K (.ref C) (.ref t.X_NoWay) = some b := fun C b hC => by
  unfold hm_NoWay at hC
  split at hC
  · rename_i z; subst z; cases hC; exact T.xm_NoWay_NoWay
  cases hC
noncomputable def N_is_whole : List Str := ["thing", "least"]
theorem sc_is_whole : FnScope N_is_whole ["thing", "least"] (defScope s_is_whole) := ⟨rfl, rfl, rfl, by decide +kernel, rfl, by decide +kernel, by decide +kernel⟩
noncomputable def den_is_whole (t : Adr) : Rho → Option Out :=
    (sSeq (sRet (andV (isi "int" (look 0)) (andV (notV (isi "bool" (look 0))) (b2 gGe (look 0) (look 1)))))
    sNil)
theorem tm_is_whole (T : Txt K mg t) {k : Nat}  {cdv : Value} {A : Around} {outer : List Env} {s : Shared} {H : Hp} {E : XK} (hr : Room k (A.deeper (envOfC "is_whole" (defScope s_is_whole) s.heap.objs.size t.f_is_whole cdv))) (B : Hp) :
    PDB (cxN P w K mg base N_is_whole "is_whole" (defScope s_is_whole) t.f_is_whole cdv A outer s H E) B (defBody s_is_whole) (den_is_whole t) :=
  by
  refine pdb_cons ?_ ?_; (refine pds_ret ?_; (refine pd_and ?_ ?_; (refine pd_isi (T := "int") rfl T.b_isinstance rfl T.b_int (by decide +kernel) (by decide) ?_; (exact pd_var 0)); (refine pd_and ?_ ?_; (refine pd_not ?_; (refine pd_isi (T := "bool") rfl T.b_isinstance rfl T.b_bool (by decide +kernel) (by decide) ?_; (exact pd_var 0))); (refine pd_one ?_; (refine pd_ge ?_ ?_; (exact pd_var 0); (exact pd_var 1)))))); (exact pdb_nil)
theorem ok_is_whole (T : Txt K mg t) {k : Nat}  {F : List D → M D} (hL : ∀ ds r, F ds = some r → ds.length = 2) (hq : ∀ ds r, F ds = some r → ∃ d, r = .ok d ∧ fnRes (den_is_whole t (rho0 N_is_whole ds)) = ok d) : Def P w K mg base (k + 1) "is_whole" F := by
  obtain ⟨fd, Fu, bi⟩ := T.F_is_whole
  exact ⟨_, _, _, T.g_is_whole, Fu.kp, bi, hL, fn_D Fu sc_is_whole hL fun cdv A outer s H E hr => ⟨_, fun B => tm_is_whole T hr B, hq⟩⟩
noncomputable def N_Lows___init__ : List Str := ["self", "many"]
theorem sc_Lows___init__ : FnScope N_Lows___init__ ["self", "many"] (defScope s_Lows___init__) := ⟨rfl, rfl, rfl, by decide +kernel, rfl, by decide +kernel, by decide +kernel⟩
noncomputable def den_Lows___init__ (t : Adr) (F_is_whole : List D → M D) : Rho → Option Out :=
    (sSeq (sIf (notB (test (app F_is_whole (aCons (look 1) (aCons (con (.int 1)) aNil))))) (sSeq (sRaise t.X_NoWay (aCons (con (.str "lows keep a whole number from 1 on")) aNil))
    sNil) sNil)
    (sSeq (sFldN (cs t) 0 "many" 1)
    (sSeq (sFldI (cs t) 0 "nought" (mkT aNil))
    (sSeq (sFldI (cs t) 0 "one" (mkT (aCons (con (.int 0)) aNil)))
    sNil))))
theorem tm_Lows___init__ (T : Txt K mg t) {k : Nat} {F_is_whole : List D → M D} (G_is_whole : Def P w K mg base k "is_whole" F_is_whole) {cdv : Value} {A : Around} {outer : List Env} {s : Shared} {H : Hp} {E : XK} (hr : Room k (A.deeper (envOfC "Lows.__init__" (defScope s_Lows___init__) s.heap.objs.size t.f_Lows___init__ cdv))) (B : Hp) :
    PDB (cxX P w K mg base N_Lows___init__ "Lows.__init__" (defScope s_Lows___init__) t.f_Lows___init__ cdv A outer s H E) B (defBody s_Lows___init__) (den_Lows___init__ t F_is_whole) :=
  by
  refine pdb_cons ?_ ?_; (refine pds_if ?_ ?_ ?_; (refine pdt_not ?_; (refine pdt_val ?_; (refine pd_call G_is_whole hr rfl ?_; (refine pda_cons ?_ ?_; (exact pd_var 1); (refine pda_cons ?_ ?_; (exact pd_int); (exact pda_nil)))))); (refine pdb_cons ?_ ?_; (refine pds_raise PySem.F.excBase_ValueError T.xi_NoWay T.g_NoWay rfl rfl ?_; (refine pda_cons ?_ ?_; (exact pd_str); (exact pda_nil))); (exact pdb_nil)); (exact pdb_nil)); (refine pdb_cons ?_ ?_; (exact pds_fldN (f := "many") (i := 0) (j := 1) (T.nf_many) rfl (Or.inl rfl) rfl (Or.inl rfl)); (refine pdb_cons ?_ ?_; (refine pds_fldI (f := "nought") (i := 0) (T.nf_nought) rfl (Or.inl rfl) ?_; (refine pd_tup ?_; (exact pda_nil))); (refine pdb_cons ?_ ?_; (refine pds_fldI (f := "one") (i := 0) (T.nf_one) rfl (Or.inl rfl) ?_; (refine pd_tup ?_; (refine pda_cons ?_ ?_; (exact pd_int); (exact pda_nil)))); (exact pdb_nil))))
theorem ok_Lows___init__ (T : Txt K mg t) {k : Nat} {F_is_whole : List D → M D} (G_is_whole : Def P w K mg base k "is_whole" F_is_whole) {F : List D → M (List (Str × D))} (hL : ∀ ds r, F ds = some r → ds.length + 1 = 2) (hq : ∀ ds r a dx, F ds = some r → iniResX a t.C_Lows dx (den_Lows___init__ t F_is_whole (rhoI N_Lows___init__ a t.C_Lows dx ds)) = some r) : Ctor P w K mg base (k + 1) "Lows" t.C_Lows F := by
  obtain ⟨fd, Fu, bi⟩ := T.F_Lows___init__
  exact ⟨_, _, _, T.g_Lows, T.mk_Lows, bi, hL, init_X Fu sc_Lows___init__ hL fun cdv A outer s H E hr => ⟨_, fun B => tm_Lows___init__ T G_is_whole hr B, hq⟩⟩
noncomputable def N_Lows_plus : List Str := ["self", "a", "b"]
theorem sc_Lows_plus : FnScope N_Lows_plus ["self", "a", "b"] (defScope s_Lows_plus) := ⟨rfl, rfl, rfl, by decide +kernel, rfl, by decide +kernel, by decide +kernel⟩
noncomputable def den_Lows_plus (t : Adr) : Rho → Option Out :=
    (sSeq (sRet (f1 toT (cut3 (f1 srtLN (b2 gPlus (look 1) (look 2))) oNone (oPart (fld (cs t) "many" (look 0))))))
    sNil)
theorem tm_Lows_plus (T : Txt K mg t) {k : Nat}  {cdv : Value} {A : Around} {outer : List Env} {s : Shared} {H : Hp} {E : XK} (hr : Room k (A.deeper (envOfC "Lows.plus" (defScope s_Lows_plus) s.heap.objs.size t.f_Lows_plus cdv))) (B : Hp) :
    PDB (cxN P w K mg base N_Lows_plus "Lows.plus" (defScope s_Lows_plus) t.f_Lows_plus cdv A outer s H E) B (defBody s_Lows_plus) (den_Lows_plus t) :=
  by
  refine pdb_cons ?_ ?_; (refine pds_ret ?_; (refine pd_tuple rfl T.b_tuple ?_; (refine pd_slice ?_ ?_ ?_; (refine pd_sortedN rfl rfl T.b_sorted ?_; (refine pd_plus ?_ ?_; (exact pd_var 1); (exact pd_var 2))); (exact pdo_none); (refine pdo_some ?_; (refine pd_fld (f := "many") (T.nf_many) ?_; (exact pd_var 0)))))); (exact pdb_nil)
theorem ok_Lows_plus (T : Txt K mg t) {k : Nat}  {F : List D → M D} (hL : ∀ ds r, F ds = some r → ds.length = 3) (hq : ∀ ds r, F ds = some r → ∃ d, r = .ok d ∧ fnRes (den_Lows_plus t (rho0 N_Lows_plus ds)) = ok d) : Mth P w K mg base (k + 1) t.C_Lows "plus" F := by
  obtain ⟨fd, Fu, bi⟩ := T.F_Lows_plus
  exact ⟨_, _, _, T.cl_Lows, T.me_Lows_plus, bi, hL, fn_D Fu sc_Lows_plus hL fun cdv A outer s H E hr => ⟨_, fun B => tm_Lows_plus T hr B, hq⟩⟩
noncomputable def N_Lows_times : List Str := ["self", "a", "b", "sums", "low"]
noncomputable def Nc_Lows_times_0 : List Str := ["?0", "?1", "?2", "?3", "low", "other"]
theorem nd_Lows_times_0 : Nc_Lows_times_0.Nodup := by decide +kernel
noncomputable def Nc_Lows_times_1 : List Str := ["?0", "?1", "?2", "?3", "low", "other"]
theorem nd_Lows_times_1 : Nc_Lows_times_1.Nodup := by decide +kernel
theorem sc_Lows_times : FnScope N_Lows_times ["self", "a", "b"] (defScope s_Lows_times) := ⟨rfl, rfl, rfl, by decide +kernel, rfl, by decide +kernel, by decide +kernel⟩
noncomputable def den_Lows_times (t : Adr) : Rho → Option Out :=
    (sSeq (sNew 3 aNil)
    (sSeq (sForN 1 (gN 4) (sSeq (sExt2 3 (aCons (cmp 1 (itE (look 2)) [5] h1 (fun _ => ok true) (b2 gPlus (look 4) (look 5))) aNil))
    sNil))
    (sSeq (sRet (f1 toT (cut3 (f1 srtLN (look 3)) oNone (oPart (fld (cs t) "many" (look 0))))))
    sNil)))
theorem tm_Lows_times (T : Txt K mg t) {k : Nat}  {cdv : Value} {A : Around} {outer : List Env} {s : Shared} {H : Hp} {E : XK} (hr : Room k (A.deeper (envOfC "Lows.times" (defScope s_Lows_times) s.heap.objs.size t.f_Lows_times cdv))) (B : Hp) :
    PDB (cxN P w K mg base N_Lows_times "Lows.times" (defScope s_Lows_times) t.f_Lows_times cdv A outer s H E) B (defBody s_Lows_times) (den_Lows_times t) :=
  by
  refine pdb_cons ?_ ?_; (refine pds_new (i := 3) (sc_Lows_times).nd rfl (Or.inl rfl) ?_; (exact pda_nil)); (refine pdb_cons ?_ ?_; (refine pds_forN 1 rfl (Or.inl rfl) PassesOwn.never rfl (fun B => ?_) (fun B => ?_); (exact pdg_name (i := 4) (sc_Lows_times).nd rfl (Or.inr rfl)); (refine pdb_cons ?_ ?_; (refine pds_extend2 (i := 3) rfl (Or.inl rfl) ?_; (refine pd_comp1 (N' := Nc_Lows_times_1) (m := 1) (ks := [5]) rfl rfl rfl rfl (by repeat (first | exact lk_nil | refine lk_cons rfl (by first | exact Or.inl rfl | exact Or.inr rfl) ?_)) rfl rfl rfl rfl rfl ?_ (fun C s₀ H₀ ex => ?_) (fun C s₀ H₀ ex B => ?_) (fun C s₀ H₀ ex B => ?_); (refine pit_D ?_; (exact pd_var 2)); (exact pdn_1 nd_Lows_times_1 rfl (Or.inl rfl)); (exact pif_none); (refine pd_plus ?_ ?_; (exact pd_var 4); (exact pd_var 5)))); (exact pdb_nil))); (refine pdb_cons ?_ ?_; (refine pds_ret ?_; (refine pd_tuple rfl T.b_tuple ?_; (refine pd_slice ?_ ?_ ?_; (refine pd_sortedN rfl rfl T.b_sorted ?_; (exact pd_var 3)); (exact pdo_none); (refine pdo_some ?_; (refine pd_fld (f := "many") (T.nf_many) ?_; (exact pd_var 0)))))); (exact pdb_nil)))
theorem ok_Lows_times (T : Txt K mg t) {k : Nat}  {F : List D → M D} (hL : ∀ ds r, F ds = some r → ds.length = 3) (hq : ∀ ds r, F ds = some r → ∃ d, r = .ok d ∧ fnRes (den_Lows_times t (rho0 N_Lows_times ds)) = ok d) : Mth P w K mg base (k + 1) t.C_Lows "times" F := by
  obtain ⟨fd, Fu, bi⟩ := T.F_Lows_times
  exact ⟨_, _, _, T.cl_Lows, T.me_Lows_times, bi, hL, fn_D Fu sc_Lows_times hL fun cdv A outer s H E hr => ⟨_, fun B => tm_Lows_times T hr B, hq⟩⟩
noncomputable def N_law_at : List Str := ["_law_script", "_law_k"]
theorem sc_law_at : FnScope N_law_at ["_law_script", "_law_k"] (defScope s_law_at) := ⟨rfl, rfl, rfl, by decide +kernel, rfl, by decide +kernel, by decide +kernel⟩
noncomputable def den_law_at (t : Adr) : Rho → Option Out :=
    (sSeq (sIf (testB (b2 gLt (look 1) (f1 lenD (look 0)))) (sSeq (sRet (b2 gIx (look 0) (look 1)))
    sNil) sNil)
    (sSeq (sRet (con (.int 0)))
    sNil))
theorem tm_law_at (T : Txt K mg t) {k : Nat}  {cdv : Value} {A : Around} {outer : List Env} {s : Shared} {H : Hp} {E : XK} (hr : Room k (A.deeper (envOfC "_law_at" (defScope s_law_at) s.heap.objs.size t.f_law_at cdv))) (B : Hp) :
    PDB (cxN P w K mg base N_law_at "_law_at" (defScope s_law_at) t.f_law_at cdv A outer s H E) B (defBody s_law_at) (den_law_at t) :=
  by
  refine pdb_cons ?_ ?_; (refine pds_if ?_ ?_ ?_; (refine pdt_lt ?_ ?_; (exact pd_var 1); (refine pd_len rfl T.b_len ?_; (exact pd_var 0))); (refine pdb_cons ?_ ?_; (refine pds_ret ?_; (refine pd_ix ?_ ?_ (fun _ _ => rfl); (exact pd_var 0); (exact pd_var 1))); (exact pdb_nil)); (exact pdb_nil)); (refine pdb_cons ?_ ?_; (refine pds_ret ?_; (exact pd_int)); (exact pdb_nil))
theorem ok_law_at (T : Txt K mg t) {k : Nat}  {F : List D → M D} (hL : ∀ ds r, F ds = some r → ds.length = 2) (hq : ∀ ds r, F ds = some r → ∃ d, r = .ok d ∧ fnRes (den_law_at t (rho0 N_law_at ds)) = ok d) : Def P w K mg base (k + 1) "_law_at" F := by
  obtain ⟨fd, Fu, bi⟩ := T.F_law_at
  exact ⟨_, _, _, T.g_law_at, Fu.kp, bi, hL, fn_D Fu sc_law_at hL fun cdv A outer s H E hr => ⟨_, fun B => tm_law_at T hr B, hq⟩⟩
noncomputable def N_law_same : List Str := ["_law_found", "_law_due", "_law_k"]
theorem sc_law_same : FnScope N_law_same ["_law_found", "_law_due"] (defScope s_law_same) := ⟨rfl, rfl, rfl, by decide +kernel, rfl, by decide +kernel, by decide +kernel⟩
noncomputable def den_law_same (t : Adr) (F_law_same : List D → M D) : Rho → Option Out :=
    (sSeq (sIf (orB (testB (b2 gNe (isi "tuple" (look 1)) (isi "tuple" (look 0)))) (testB (b2 gNe (isi "list" (look 1)) (isi "list" (look 0))))) (sSeq (sRet (con (.bl false)))
    sNil) sNil)
    (sSeq (sIf (test (isi2 ["tuple", "list"] (look 1))) (sSeq (sIf (testB (b2 gNe (f1 lenD (look 0)) (f1 lenD (look 1)))) (sSeq (sRet (con (.bl false)))
    sNil) sNil)
    (sSeq (sForR1 (f1 lenD (look 1)) (gN 2) (sSeq (sIf (notB (test (app F_law_same (aCons (b2 gIx (look 0) (look 2)) (aCons (b2 gIx (look 1) (look 2)) aNil))))) (sSeq (sRet (con (.bl false)))
    sNil) sNil)
    sNil))
    (sSeq (sRet (con (.bl true)))
    sNil))) sNil)
    (sSeq (sIf (testB (b2 gIs (look 1) (con .non))) (sSeq (sRet (b2 gIs (look 0) (con .non)))
    sNil) sNil)
    (sSeq (sIf (orB (testB (b2 gNe (isi "bool" (look 1)) (isi "bool" (look 0)))) (testB (b2 gNe (isi "str" (look 1)) (isi "str" (look 0))))) (sSeq (sRet (con (.bl false)))
    sNil) sNil)
    (sSeq (sRet (andV (b2 gEq (isi "int" (look 1)) (isi "int" (look 0))) (b2 gEq (look 0) (look 1))))
    sNil)))))
theorem tm_law_same (T : Txt K mg t) {k : Nat} {F_law_same : List D → M D} (G_law_same : Def P w K mg base k "_law_same" F_law_same) {cdv : Value} {A : Around} {outer : List Env} {s : Shared} {H : Hp} {E : XK} (hr : Room k (A.deeper (envOfC "_law_same" (defScope s_law_same) s.heap.objs.size t.f_law_same cdv))) (B : Hp) :
    PDB (cxN P w K mg base N_law_same "_law_same" (defScope s_law_same) t.f_law_same cdv A outer s H E) B (defBody s_law_same) (den_law_same t F_law_same) :=
  by
  refine pdb_cons ?_ ?_; (refine pds_if ?_ ?_ ?_; (refine PDW.pdt ?_; (refine pdw_or ?_ ?_; (refine pdt_ne ?_ ?_; (refine pd_isi (T := "tuple") rfl T.b_isinstance rfl T.b_tuple (by decide +kernel) (by decide) ?_; (exact pd_var 1)); (refine pd_isi (T := "tuple") rfl T.b_isinstance rfl T.b_tuple (by decide +kernel) (by decide) ?_; (exact pd_var 0))); (refine pdw_or1 ?_; (refine pdt_ne ?_ ?_; (refine pd_isi (T := "list") rfl T.b_isinstance rfl T.b_list (by decide +kernel) (by decide) ?_; (exact pd_var 1)); (refine pd_isi (T := "list") rfl T.b_isinstance rfl T.b_list (by decide +kernel) (by decide) ?_; (exact pd_var 0)))))); (refine pdb_cons ?_ ?_; (refine pds_ret ?_; (exact pd_bl)); (exact pdb_nil)); (exact pdb_nil)); (refine pdb_cons ?_ ?_; (refine pds_if ?_ ?_ ?_; (refine pdt_val ?_; (refine pd_isi2 (T := "tuple") (U := "list") rfl T.b_isinstance rfl T.b_tuple (by decide +kernel) (by decide) rfl T.b_list (by decide +kernel) (by decide) ?_; (exact pd_var 1))); (refine pdb_cons ?_ ?_; (refine pds_if ?_ ?_ ?_; (refine pdt_ne ?_ ?_; (refine pd_len rfl T.b_len ?_; (exact pd_var 0)); (refine pd_len rfl T.b_len ?_; (exact pd_var 1))); (refine pdb_cons ?_ ?_; (refine pds_ret ?_; (exact pd_bl)); (exact pdb_nil)); (exact pdb_nil)); (refine pdb_cons ?_ ?_; (refine pds_forR1 rfl T.b_range PassesOwn.never rfl ?_ (fun B => ?_) (fun B => ?_); (refine pd_len rfl T.b_len ?_; (exact pd_var 1)); (exact pdg_name (i := 2) (sc_law_same).nd rfl (Or.inl rfl)); (refine pdb_cons ?_ ?_; (refine pds_if ?_ ?_ ?_; (refine pdt_not ?_; (refine pdt_val ?_; (refine pd_call G_law_same hr rfl ?_; (refine pda_cons ?_ ?_; (refine pd_ix ?_ ?_ (fun _ _ => rfl); (exact pd_var 0); (exact pd_var 2)); (refine pda_cons ?_ ?_; (refine pd_ix ?_ ?_ (fun _ _ => rfl); (exact pd_var 1); (exact pd_var 2)); (exact pda_nil)))))); (refine pdb_cons ?_ ?_; (refine pds_ret ?_; (exact pd_bl)); (exact pdb_nil)); (exact pdb_nil)); (exact pdb_nil))); (refine pdb_cons ?_ ?_; (refine pds_ret ?_; (exact pd_bl)); (exact pdb_nil)))); (exact pdb_nil)); (refine pdb_cons ?_ ?_; (refine pds_if ?_ ?_ ?_; (refine pdt_is ?_ ?_; (exact pd_var 1); (exact pd_non)); (refine pdb_cons ?_ ?_; (refine pds_ret ?_; (refine pd_is ?_ ?_; (exact pd_var 0); (exact pd_non))); (exact pdb_nil)); (exact pdb_nil)); (refine pdb_cons ?_ ?_; (refine pds_if ?_ ?_ ?_; (refine PDW.pdt ?_; (refine pdw_or ?_ ?_; (refine pdt_ne ?_ ?_; (refine pd_isi (T := "bool") rfl T.b_isinstance rfl T.b_bool (by decide +kernel) (by decide) ?_; (exact pd_var 1)); (refine pd_isi (T := "bool") rfl T.b_isinstance rfl T.b_bool (by decide +kernel) (by decide) ?_; (exact pd_var 0))); (refine pdw_or1 ?_; (refine pdt_ne ?_ ?_; (refine pd_isi (T := "str") rfl T.b_isinstance rfl T.b_str (by decide +kernel) (by decide) ?_; (exact pd_var 1)); (refine pd_isi (T := "str") rfl T.b_isinstance rfl T.b_str (by decide +kernel) (by decide) ?_; (exact pd_var 0)))))); (refine pdb_cons ?_ ?_; (refine pds_ret ?_; (exact pd_bl)); (exact pdb_nil)); (exact pdb_nil)); (refine pdb_cons ?_ ?_; (refine pds_ret ?_; (refine pd_and ?_ ?_; (refine pd_eq ?_ ?_; (refine pd_isi (T := "int") rfl T.b_isinstance rfl T.b_int (by decide +kernel) (by decide) ?_; (exact pd_var 1)); (refine pd_isi (T := "int") rfl T.b_isinstance rfl T.b_int (by decide +kernel) (by decide) ?_; (exact pd_var 0))); (refine pd_one ?_; (refine pd_eq ?_ ?_; (exact pd_var 0); (exact pd_var 1))))); (exact pdb_nil)))))
theorem ok_law_same (T : Txt K mg t) {k : Nat} {F_law_same : List D → M D} (G_law_same : Def P w K mg base k "_law_same" F_law_same) {F : List D → M D} (hL : ∀ ds r, F ds = some r → ds.length = 2) (hq : ∀ ds r, F ds = some r → ∃ d, r = .ok d ∧ fnRes (den_law_same t F_law_same (rho0 N_law_same ds)) = ok d) : Def P w K mg base (k + 1) "_law_same" F := by
  obtain ⟨fd, Fu, bi⟩ := T.F_law_same
  exact ⟨_, _, _, T.g_law_same, Fu.kp, bi, hL, fn_D Fu sc_law_same hL fun cdv A outer s H E hr => ⟨_, fun B => tm_law_same T G_law_same hr B, hq⟩⟩
noncomputable def N_law_number : List Str := ["_law_cell"]
theorem sc_law_number : FnScope N_law_number ["_law_cell"] (defScope s_law_number) := ⟨rfl, rfl, rfl, by decide +kernel, rfl, by decide +kernel, by decide +kernel⟩
noncomputable def den_law_number (t : Adr) : Rho → Option Out :=
    (sSeq (sIf (testB (b2 gEq (b2 gMod (look 0) (con (.int 3))) (con (.int 0)))) (sSeq (sRet (b2 gMod (b2 gFdiv (look 0) (con (.int 3))) (con (.int 4))))
    sNil) sNil)
    (sSeq (sIf (testB (b2 gEq (b2 gMod (look 0) (con (.int 3))) (con (.int 1)))) (sSeq (sRet (b2 gPlus (b2 gTimes (b2 gMod (b2 gFdiv (look 0) (con (.int 3))) (b2 gPow (con (.int 10)) (con (.int 20)))) (b2 gPow (con (.int 10)) (con (.int 39)))) (b2 gMod (look 0) (con (.int 7)))))
    sNil) sNil)
    (sSeq (sRet (b2 gMod (b2 gFdiv (look 0) (con (.int 3))) (b2 gPow (con (.int 10)) (con (.int 60)))))
    sNil)))
theorem tm_law_number (T : Txt K mg t) {k : Nat}  {cdv : Value} {A : Around} {outer : List Env} {s : Shared} {H : Hp} {E : XK} (hr : Room k (A.deeper (envOfC "_law_number" (defScope s_law_number) s.heap.objs.size t.f_law_number cdv))) (B : Hp) :
    PDB (cxN P w K mg base N_law_number "_law_number" (defScope s_law_number) t.f_law_number cdv A outer s H E) B (defBody s_law_number) (den_law_number t) :=
  by
  refine pdb_cons ?_ ?_; (refine pds_if ?_ ?_ ?_; (refine pdt_eq ?_ ?_; (refine pd_mod ?_ ?_; (exact pd_var 0); (exact pd_int)); (exact pd_int)); (refine pdb_cons ?_ ?_; (refine pds_ret ?_; (refine pd_mod ?_ ?_; (refine pd_fdiv ?_ ?_; (exact pd_var 0); (exact pd_int)); (exact pd_int))); (exact pdb_nil)); (exact pdb_nil)); (refine pdb_cons ?_ ?_; (refine pds_if ?_ ?_ ?_; (refine pdt_eq ?_ ?_; (refine pd_mod ?_ ?_; (exact pd_var 0); (exact pd_int)); (exact pd_int)); (refine pdb_cons ?_ ?_; (refine pds_ret ?_; (refine pd_plus ?_ ?_; (refine pd_times ?_ ?_; (refine pd_mod ?_ ?_; (refine pd_fdiv ?_ ?_; (exact pd_var 0); (exact pd_int)); (refine pd_pow ?_ ?_; (exact pd_int); (exact pd_int))); (refine pd_pow ?_ ?_; (exact pd_int); (exact pd_int))); (refine pd_mod ?_ ?_; (exact pd_var 0); (exact pd_int)))); (exact pdb_nil)); (exact pdb_nil)); (refine pdb_cons ?_ ?_; (refine pds_ret ?_; (refine pd_mod ?_ ?_; (refine pd_fdiv ?_ ?_; (exact pd_var 0); (exact pd_int)); (refine pd_pow ?_ ?_; (exact pd_int); (exact pd_int)))); (exact pdb_nil)))
theorem ok_law_number (T : Txt K mg t) {k : Nat}  {F : List D → M D} (hL : ∀ ds r, F ds = some r → ds.length = 1) (hq : ∀ ds r, F ds = some r → ∃ d, r = .ok d ∧ fnRes (den_law_number t (rho0 N_law_number ds)) = ok d) : Def P w K mg base (k + 1) "_law_number" F := by
  obtain ⟨fd, Fu, bi⟩ := T.F_law_number
  exact ⟨_, _, _, T.g_law_number, Fu.kp, bi, hL, fn_D Fu sc_law_number hL fun cdv A outer s H E hr => ⟨_, fun B => tm_law_number T hr B, hq⟩⟩
noncomputable def N_law_lows : List Str := ["_law_cell", "_law_many", "_law_row", "_law_k"]
theorem sc_law_lows : FnScope N_law_lows ["_law_cell", "_law_many"] (defScope s_law_lows) := ⟨rfl, rfl, rfl, by decide +kernel, rfl, by decide +kernel, by decide +kernel⟩
noncomputable def den_law_lows (t : Adr) (F_law_number : List D → M D) : Rho → Option Out :=
    (sSeq (sNew 2 aNil)
    (sSeq (sForR1 (b2 gMin (look 1) (b2 gMod (look 0) (con (.int 5)))) (gN 3) (sSeq (sOwn lApp 2 (aCons (app F_law_number (aCons (b2 gPlus (b2 gFdiv (look 0) (con (.int 5))) (b2 gTimes (b2 gFdiv (look 3) (con (.int 2))) (b2 gMod (look 0) (con (.int 1000))))) aNil)) aNil))
    sNil))
    (sSeq (sRet (f1 toT (f1 srtLN (look 2))))
    sNil)))
theorem tm_law_lows (T : Txt K mg t) {k : Nat} {F_law_number : List D → M D} (G_law_number : Def P w K mg base k "_law_number" F_law_number) {cdv : Value} {A : Around} {outer : List Env} {s : Shared} {H : Hp} {E : XK} (hr : Room k (A.deeper (envOfC "_law_lows" (defScope s_law_lows) s.heap.objs.size t.f_law_lows cdv))) (B : Hp) :
    PDB (cxN P w K mg base N_law_lows "_law_lows" (defScope s_law_lows) t.f_law_lows cdv A outer s H E) B (defBody s_law_lows) (den_law_lows t F_law_number) :=
  by
  refine pdb_cons ?_ ?_; (refine pds_new (i := 2) (sc_law_lows).nd rfl (Or.inl rfl) ?_; (exact pda_nil)); (refine pdb_cons ?_ ?_; (refine pds_forR1 rfl T.b_range PassesOwn.never rfl ?_ (fun B => ?_) (fun B => ?_); (refine pd_min2 rfl rfl T.b_min ?_ ?_; (exact pd_var 1); (refine pd_mod ?_ ?_; (exact pd_var 0); (exact pd_int))); (exact pdg_name (i := 3) (sc_law_lows).nd rfl (Or.inl rfl)); (refine pdb_cons ?_ ?_; (refine pds_append (i := 2) rfl (Or.inl rfl) ?_; (refine pd_call G_law_number hr rfl ?_; (refine pda_cons ?_ ?_; (refine pd_plus ?_ ?_; (refine pd_fdiv ?_ ?_; (exact pd_var 0); (exact pd_int)); (refine pd_times ?_ ?_; (refine pd_fdiv ?_ ?_; (exact pd_var 3); (exact pd_int)); (refine pd_mod ?_ ?_; (exact pd_var 0); (exact pd_int)))); (exact pda_nil)))); (exact pdb_nil))); (refine pdb_cons ?_ ?_; (refine pds_ret ?_; (refine pd_tuple rfl T.b_tuple ?_; (refine pd_sortedN rfl rfl T.b_sorted ?_; (exact pd_var 2)))); (exact pdb_nil)))
theorem ok_law_lows (T : Txt K mg t) {k : Nat} {F_law_number : List D → M D} (G_law_number : Def P w K mg base k "_law_number" F_law_number) {F : List D → M D} (hL : ∀ ds r, F ds = some r → ds.length = 2) (hq : ∀ ds r, F ds = some r → ∃ d, r = .ok d ∧ fnRes (den_law_lows t F_law_number (rho0 N_law_lows ds)) = ok d) : Def P w K mg base (k + 1) "_law_lows" F := by
  obtain ⟨fd, Fu, bi⟩ := T.F_law_lows
  exact ⟨_, _, _, T.g_law_lows, Fu.kp, bi, hL, fn_D Fu sc_law_lows hL fun cdv A outer s H E hr => ⟨_, fun B => tm_law_lows T G_law_number hr B, hq⟩⟩
noncomputable def N_law_sums : List Str := ["_law_a", "_law_b", "_law_row", "_law_x", "_law_y"]
theorem sc_law_sums : FnScope N_law_sums ["_law_a", "_law_b"] (defScope s_law_sums) := ⟨rfl, rfl, rfl, by decide +kernel, rfl, by decide +kernel, by decide +kernel⟩
noncomputable def den_law_sums (t : Adr) : Rho → Option Out :=
    (sSeq (sNew 2 aNil)
    (sSeq (sForN 0 (gN 3) (sSeq (sForN 1 (gN 4) (sSeq (sOwn lApp 2 (aCons (b2 gPlus (look 3) (look 4)) aNil))
    sNil))
    sNil))
    (sSeq (sRet (look 2))
    sNil)))
theorem tm_law_sums (T : Txt K mg t) {k : Nat}  {cdv : Value} {A : Around} {outer : List Env} {s : Shared} {H : Hp} {E : XK} (hr : Room k (A.deeper (envOfC "_law_sums" (defScope s_law_sums) s.heap.objs.size t.f_law_sums cdv))) (B : Hp) :
    PDB (cxN P w K mg base N_law_sums "_law_sums" (defScope s_law_sums) t.f_law_sums cdv A outer s H E) B (defBody s_law_sums) (den_law_sums t) :=
  by
  refine pdb_cons ?_ ?_; (refine pds_new (i := 2) (sc_law_sums).nd rfl (Or.inl rfl) ?_; (exact pda_nil)); (refine pdb_cons ?_ ?_; (refine pds_forN 0 rfl (Or.inl rfl) PassesOwn.never rfl (fun B => ?_) (fun B => ?_); (exact pdg_name (i := 3) (sc_law_sums).nd rfl (Or.inl rfl)); (refine pdb_cons ?_ ?_; (refine pds_forN 1 rfl (Or.inl rfl) PassesOwn.never rfl (fun B => ?_) (fun B => ?_); (exact pdg_name (i := 4) (sc_law_sums).nd rfl (Or.inl rfl)); (refine pdb_cons ?_ ?_; (refine pds_append (i := 2) rfl (Or.inl rfl) ?_; (refine pd_plus ?_ ?_; (exact pd_var 3); (exact pd_var 4))); (exact pdb_nil))); (exact pdb_nil))); (refine pdb_cons ?_ ?_; (refine pds_ret ?_; (exact pd_var 2)); (exact pdb_nil)))
theorem ok_law_sums (T : Txt K mg t) {k : Nat}  {F : List D → M D} (hL : ∀ ds r, F ds = some r → ds.length = 2) (hq : ∀ ds r, F ds = some r → ∃ d, r = .ok d ∧ fnRes (den_law_sums t (rho0 N_law_sums ds)) = ok d) : Def P w K mg base (k + 1) "_law_sums" F := by
  obtain ⟨fd, Fu, bi⟩ := T.F_law_sums
  exact ⟨_, _, _, T.g_law_sums, Fu.kp, bi, hL, fn_D Fu sc_law_sums hL fun cdv A outer s H E hr => ⟨_, fun B => tm_law_sums T hr B, hq⟩⟩
noncomputable def N_law_refused : List Str := ["_law_thing", "_law_fine", "e"]
theorem sc_law_refused : FnScope N_law_refused ["_law_thing"] (defScope s_law_refused) := ⟨rfl, rfl, rfl, by decide +kernel, rfl, by decide +kernel, by decide +kernel⟩
noncomputable def den_law_refused (t : Adr) (F_Lows : List D → M (List (Str × D))) : Rho → Option Out :=
    (sSeq (sSet 1 (con (.bl false)))
    (sSeq (sTry (sSeq (sDrop (app (mkO t.C_Lows F_Lows) (aCons (look 0) aNil)))
    sNil) (⟨hm_NoWay t, 2, (sSeq (sSet 1 (andV (exs (km_WhenceError t) (look 2)) (exs (km_ValueError t) (look 2))))
    sNil)⟩ :: []))
    (sSeq (sRet (look 1))
    sNil)))
theorem tm_law_refused (T : Txt K mg t) {k k' : Nat} (hk : k' + 1 ≤ k) {F_Lows : List D → M (List (Str × D))} (G_Lows : Ctor P w K mg base k' "Lows" t.C_Lows F_Lows) {cdv : Value} {A : Around} {outer : List Env} {s : Shared} {H : Hp} {E : XK} (hr : Room k (A.deeper (envOfC "_law_refused" (defScope s_law_refused) s.heap.objs.size t.f_law_refused cdv))) (B : Hp) :
    PDB (cxN P w K mg base N_law_refused "_law_refused" (defScope s_law_refused) t.f_law_refused cdv A outer s H E) B (defBody s_law_refused) (den_law_refused t F_Lows) :=
  by
  have hr' := hr.mono hk
  refine pdb_cons ?_ ?_; (refine pds_set (i := 1) (sc_law_refused).nd rfl (Or.inl rfl) ?_; (exact pd_bl)); (refine pdb_cons ?_ ?_; (refine pds_try rfl rfl (fun pins Q => ?_) ?_; (refine pdb_cons ?_ ?_; (refine pds_expr ?_; (refine pd_make G_Lows hr' rfl ?_; (refine pda_cons ?_ ?_; (exact pd_var 0); (exact pda_nil)))); (exact pdb_nil)); (refine pdh_cons (i := 2) rfl T.g_NoWay (hmo_NoWay T) (sc_law_refused).nd rfl rfl (fun e B => ?_) ?_; (refine pdb_cons ?_ ?_; (refine pds_set (i := 1) (sc_law_refused).nd rfl (Or.inl rfl) ?_; (refine pd_and ?_ ?_; (refine pd_exsC rfl T.b_isinstance rfl T.g_WhenceError (kmo_WhenceError T) ?_; (exact pd_var 2)); (refine pd_one ?_; (refine pd_exsT (T := "ValueError") rfl T.b_isinstance rfl T.b_ValueError (by decide +kernel) (kmo_ValueError T) ?_; (exact pd_var 2))))); (exact pdb_nil)); (exact pdh_nil))); (refine pdb_cons ?_ ?_; (refine pds_ret ?_; (exact pd_var 1)); (exact pdb_nil)))
theorem ok_law_refused (T : Txt K mg t) {k k' : Nat} (hk : k' + 1 ≤ k) {F_Lows : List D → M (List (Str × D))} (G_Lows : Ctor P w K mg base k' "Lows" t.C_Lows F_Lows) {F : List D → M D} (hL : ∀ ds r, F ds = some r → ds.length = 1) (hq : ∀ ds r, F ds = some r → ∃ d, r = .ok d ∧ fnRes (den_law_refused t F_Lows (rho0 N_law_refused ds)) = ok d) : Def P w K mg base (k + 1) "_law_refused" F := by
  obtain ⟨fd, Fu, bi⟩ := T.F_law_refused
  exact ⟨_, _, _, T.g_law_refused, Fu.kp, bi, hL, fn_D Fu sc_law_refused hL fun cdv A outer s H E hr => ⟨_, fun B => tm_law_refused T hk G_Lows hr B, hq⟩⟩
noncomputable def N_law : List Str := ["_law_script", "_law_many", "_law_way", "_law_last", "_law_found", "_law_due", "_law_cell", "_law_new", "_law_plus", "_law_times", "_law_odd"]
theorem sc_law : FnScope N_law ["_law_script"] (defScope s_law) := ⟨rfl, rfl, rfl, by decide +kernel, rfl, by decide +kernel, by decide +kernel⟩
noncomputable def den_law (t : Adr) (F_law_at : List D → M D) (F_law_lows : List D → M D) (F_law_refused : List D → M D) (F_law_same : List D → M D) (F_law_sums : List D → M D) (F_Lows : List D → M (List (Str × D))) (M_plus : Addr → Option (List D → M D)) (M_times : Addr → Option (List D → M D)) : Rho → Option Out :=
    (sSeq (sSet 1 (b2 gIx (mkL (aCons (con (.int 1)) (aCons (con (.int 2)) (aCons (con (.int 3)) (aCons (con (.int 4)) (aCons (con (.int 5)) (aCons (con (.int 20)) aNil))))))) (b2 gMod (app F_law_at (aCons (look 0) (aCons (con (.int 0)) aNil))) (con (.int 6)))))
    (sSeq (sSet 2 (app (mkO t.C_Lows F_Lows) (aCons (look 1) aNil)))
    (sSeq (sIf (notB (test (app F_law_same (aCons (mkT (aCons (fld (cs t) "nought" (look 2)) (aCons (fld (cs t) "one" (look 2)) aNil))) (aCons (mkT (aCons (mkT aNil) (aCons (mkT (aCons (con (.int 0)) aNil)) aNil))) aNil))))) (sSeq (sRet (con (.bl false)))
    sNil) sNil)
    (sSeq (sSet 3 (app F_law_lows (aCons (app F_law_at (aCons (look 0) (aCons (con (.int 1)) aNil))) (aCons (look 1) aNil))))
    (sSeq (sSet 4 (fld (cs t) "nought" (look 2)))
    (sSeq (sSet 5 (mkT aNil))
    (sSeq (sForE (cut3 (look 0) oNone (oPart (con (.int 20)))) (gN 6) (sSeq (sSet 7 (app F_law_lows (aCons (look 6) (aCons (look 1) aNil))))
    (sSeq (sSet 8 (f1 toT (cut3 (f1 srtLN (b2 gPlus (look 3) (look 7))) oNone (oPart (look 1)))))
    (sSeq (sSet 9 (f1 toT (cut3 (f1 srtLN (app F_law_sums (aCons (look 3) (aCons (look 7) aNil)))) oNone (oPart (look 1)))))
    (sSeq (sIf (notB (test (app F_law_same (aCons (mkT (aCons (appM "plus" M_plus (look 2) (aCons (look 3) (aCons (look 7) aNil))) (aCons (appM "plus" M_plus (look 2) (aCons (look 7) (aCons (look 3) aNil))) aNil))) (aCons (mkT (aCons (look 8) (aCons (look 8) aNil))) aNil))))) (sSeq (sRet (con (.bl false)))
    sNil) sNil)
    (sSeq (sIf (notB (test (app F_law_same (aCons (mkT (aCons (appM "times" M_times (look 2) (aCons (look 3) (aCons (look 7) aNil))) (aCons (appM "times" M_times (look 2) (aCons (look 7) (aCons (look 3) aNil))) aNil))) (aCons (mkT (aCons (look 9) (aCons (look 9) aNil))) aNil))))) (sSeq (sRet (con (.bl false)))
    sNil) sNil)
    (sSeq (sSet 4 (appM "plus" M_plus (look 2) (aCons (look 4) (aCons (look 7) aNil))))
    (sSeq (sSet 5 (b2 gPlus (look 5) (look 7)))
    (sSeq (sSet 3 (look 7))
    sNil)))))))))
    (sSeq (sSet 5 (f1 toT (cut3 (f1 srtLN (look 5)) oNone (oPart (look 1)))))
    (sSeq (sSet 9 (f1 toT (cut3 (f1 srtLN (app F_law_sums (aCons (look 5) (aCons (look 3) aNil)))) oNone (oPart (look 1)))))
    (sSeq (sIf (orB (notB (test (app F_law_same (aCons (look 4) (aCons (look 5) aNil))))) (notB (test (app F_law_same (aCons (appM "times" M_times (look 2) (aCons (look 4) (aCons (look 3) aNil))) (aCons (look 9) aNil)))))) (sSeq (sRet (con (.bl false)))
    sNil) sNil)
    (sSeq (sIf (notB (test (app F_law_same (aCons (appM "times" M_times (look 2) (aCons (look 5) (aCons (look 5) aNil))) (aCons (f1 toT (cut3 (f1 srtLN (app F_law_sums (aCons (look 5) (aCons (look 5) aNil)))) oNone (oPart (look 1)))) aNil))))) (sSeq (sRet (con (.bl false)))
    sNil) sNil)
    (sSeq (sSet 10 (mkL (aCons (con (.int 0)) (aCons (b2 gSub (con (.int 0)) (b2 gMod (app F_law_at (aCons (look 0) (aCons (con (.int 2)) aNil))) (b2 gPow (con (.int 10)) (con (.int 60))))) (aCons (con (.bl true)) (aCons (con (.bl false)) (aCons (con .non) (aCons (con (.str "1")) (aCons (mkT (aCons (con (.int 1)) aNil)) (aCons (mkL (aCons (con (.int 1)) aNil)) aNil))))))))))
    (sSeq (sRet (app F_law_refused (aCons (b2 gIx (look 10) (b2 gMod (app F_law_at (aCons (look 0) (aCons (con (.int 3)) aNil))) (con (.int 8)))) aNil)))
    sNil)))))))))))))
theorem tm_law (T : Txt K mg t) {k k' : Nat} (hk : k' + 1 ≤ k) {F_law_at : List D → M D} (G_law_at : Def P w K mg base k "_law_at" F_law_at) {F_law_lows : List D → M D} (G_law_lows : Def P w K mg base k "_law_lows" F_law_lows) {F_law_refused : List D → M D} (G_law_refused : Def P w K mg base k "_law_refused" F_law_refused) {F_law_same : List D → M D} (G_law_same : Def P w K mg base k "_law_same" F_law_same) {F_law_sums : List D → M D} (G_law_sums : Def P w K mg base k "_law_sums" F_law_sums) {F_Lows : List D → M (List (Str × D))} (G_Lows : Ctor P w K mg base k' "Lows" t.C_Lows F_Lows) {M_plus : Addr → Option (List D → M D)} (GM_plus : ∀ C F, M_plus C = some F → Mth P w K mg base k C "plus" F) {M_times : Addr → Option (List D → M D)} (GM_times : ∀ C F, M_times C = some F → Mth P w K mg base k C "times" F) {cdv : Value} {A : Around} {outer : List Env} {s : Shared} {H : Hp} {E : XK} (hr : Room k (A.deeper (envOfC "law" (defScope s_law) s.heap.objs.size t.f_law cdv))) (B : Hp) :
    PDB (cxN P w K mg base N_law "law" (defScope s_law) t.f_law cdv A outer s H E) B (defBody s_law) (den_law t F_law_at F_law_lows F_law_refused F_law_same F_law_sums F_Lows M_plus M_times) :=
  by
  have hr' := hr.mono hk
  refine pdb_cons ?_ ?_; (refine pds_set (i := 1) (sc_law).nd rfl (Or.inl rfl) ?_; (refine pd_ix ?_ ?_ (fun _ _ => rfl); (refine pd_lst ?_; (refine pda_cons ?_ ?_; (exact pd_int); (refine pda_cons ?_ ?_; (exact pd_int); (refine pda_cons ?_ ?_; (exact pd_int); (refine pda_cons ?_ ?_; (exact pd_int); (refine pda_cons ?_ ?_; (exact pd_int); (refine pda_cons ?_ ?_; (exact pd_int); (exact pda_nil)))))))); (refine pd_mod ?_ ?_; (refine pd_call G_law_at hr rfl ?_; (refine pda_cons ?_ ?_; (exact pd_var 0); (refine pda_cons ?_ ?_; (exact pd_int); (exact pda_nil)))); (exact pd_int)))); (refine pdb_cons ?_ ?_; (refine pds_set (i := 2) (sc_law).nd rfl (Or.inl rfl) ?_; (refine pd_make G_Lows hr' rfl ?_; (refine pda_cons ?_ ?_; (exact pd_var 1); (exact pda_nil)))); (refine pdb_cons ?_ ?_; (refine pds_if ?_ ?_ ?_; (refine pdt_not ?_; (refine pdt_val ?_; (refine pd_call G_law_same hr rfl ?_; (refine pda_cons ?_ ?_; (refine pd_tup ?_; (refine pda_cons ?_ ?_; (refine pd_fld (f := "nought") (T.nf_nought) ?_; (exact pd_var 2)); (refine pda_cons ?_ ?_; (refine pd_fld (f := "one") (T.nf_one) ?_; (exact pd_var 2)); (exact pda_nil)))); (refine pda_cons ?_ ?_; (refine pd_tup ?_; (refine pda_cons ?_ ?_; (refine pd_tup ?_; (exact pda_nil)); (refine pda_cons ?_ ?_; (refine pd_tup ?_; (refine pda_cons ?_ ?_; (exact pd_int); (exact pda_nil))); (exact pda_nil)))); (exact pda_nil)))))); (refine pdb_cons ?_ ?_; (refine pds_ret ?_; (exact pd_bl)); (exact pdb_nil)); (exact pdb_nil)); (refine pdb_cons ?_ ?_; (refine pds_set (i := 3) (sc_law).nd rfl (Or.inl rfl) ?_; (refine pd_call G_law_lows hr rfl ?_; (refine pda_cons ?_ ?_; (refine pd_call G_law_at hr rfl ?_; (refine pda_cons ?_ ?_; (exact pd_var 0); (refine pda_cons ?_ ?_; (exact pd_int); (exact pda_nil)))); (refine pda_cons ?_ ?_; (exact pd_var 1); (exact pda_nil))))); (refine pdb_cons ?_ ?_; (refine pds_set (i := 4) (sc_law).nd rfl (Or.inl rfl) ?_; (refine pd_fld (f := "nought") (T.nf_nought) ?_; (exact pd_var 2))); (refine pdb_cons ?_ ?_; (refine pds_set (i := 5) (sc_law).nd rfl (Or.inl rfl) ?_; (refine pd_tup ?_; (exact pda_nil))); (refine pdb_cons ?_ ?_; (refine pds_forE PassesOwn.never rfl ?_ (fun B => ?_) (fun B => ?_); (refine pd_slice ?_ ?_ ?_; (exact pd_var 0); (exact pdo_none); (refine pdo_some ?_; (exact pd_int))); (exact pdg_name (i := 6) (sc_law).nd rfl (Or.inl rfl)); (refine pdb_cons ?_ ?_; (refine pds_set (i := 7) (sc_law).nd rfl (Or.inl rfl) ?_; (refine pd_call G_law_lows hr rfl ?_; (refine pda_cons ?_ ?_; (exact pd_var 6); (refine pda_cons ?_ ?_; (exact pd_var 1); (exact pda_nil))))); (refine pdb_cons ?_ ?_; (refine pds_set (i := 8) (sc_law).nd rfl (Or.inl rfl) ?_; (refine pd_tuple rfl T.b_tuple ?_; (refine pd_slice ?_ ?_ ?_; (refine pd_sortedN rfl rfl T.b_sorted ?_; (refine pd_plus ?_ ?_; (exact pd_var 3); (exact pd_var 7))); (exact pdo_none); (refine pdo_some ?_; (exact pd_var 1))))); (refine pdb_cons ?_ ?_; (refine pds_set (i := 9) (sc_law).nd rfl (Or.inl rfl) ?_; (refine pd_tuple rfl T.b_tuple ?_; (refine pd_slice ?_ ?_ ?_; (refine pd_sortedN rfl rfl T.b_sorted ?_; (refine pd_call G_law_sums hr rfl ?_; (refine pda_cons ?_ ?_; (exact pd_var 3); (refine pda_cons ?_ ?_; (exact pd_var 7); (exact pda_nil))))); (exact pdo_none); (refine pdo_some ?_; (exact pd_var 1))))); (refine pdb_cons ?_ ?_; (refine pds_if ?_ ?_ ?_; (refine pdt_not ?_; (refine pdt_val ?_; (refine pd_call G_law_same hr rfl ?_; (refine pda_cons ?_ ?_; (refine pd_tup ?_; (refine pda_cons ?_ ?_; (refine pd_meth GM_plus hr ?_ ?_; (exact pd_var 2); (refine pda_cons ?_ ?_; (exact pd_var 3); (refine pda_cons ?_ ?_; (exact pd_var 7); (exact pda_nil)))); (refine pda_cons ?_ ?_; (refine pd_meth GM_plus hr ?_ ?_; (exact pd_var 2); (refine pda_cons ?_ ?_; (exact pd_var 7); (refine pda_cons ?_ ?_; (exact pd_var 3); (exact pda_nil)))); (exact pda_nil)))); (refine pda_cons ?_ ?_; (refine pd_tup ?_; (refine pda_cons ?_ ?_; (exact pd_var 8); (refine pda_cons ?_ ?_; (exact pd_var 8); (exact pda_nil)))); (exact pda_nil)))))); (refine pdb_cons ?_ ?_; (refine pds_ret ?_; (exact pd_bl)); (exact pdb_nil)); (exact pdb_nil)); (refine pdb_cons ?_ ?_; (refine pds_if ?_ ?_ ?_; (refine pdt_not ?_; (refine pdt_val ?_; (refine pd_call G_law_same hr rfl ?_; (refine pda_cons ?_ ?_; (refine pd_tup ?_; (refine pda_cons ?_ ?_; (refine pd_meth GM_times hr ?_ ?_; (exact pd_var 2); (refine pda_cons ?_ ?_; (exact pd_var 3); (refine pda_cons ?_ ?_; (exact pd_var 7); (exact pda_nil)))); (refine pda_cons ?_ ?_; (refine pd_meth GM_times hr ?_ ?_; (exact pd_var 2); (refine pda_cons ?_ ?_; (exact pd_var 7); (refine pda_cons ?_ ?_; (exact pd_var 3); (exact pda_nil)))); (exact pda_nil)))); (refine pda_cons ?_ ?_; (refine pd_tup ?_; (refine pda_cons ?_ ?_; (exact pd_var 9); (refine pda_cons ?_ ?_; (exact pd_var 9); (exact pda_nil)))); (exact pda_nil)))))); (refine pdb_cons ?_ ?_; (refine pds_ret ?_; (exact pd_bl)); (exact pdb_nil)); (exact pdb_nil)); (refine pdb_cons ?_ ?_; (refine pds_set (i := 4) (sc_law).nd rfl (Or.inl rfl) ?_; (refine pd_meth GM_plus hr ?_ ?_; (exact pd_var 2); (refine pda_cons ?_ ?_; (exact pd_var 4); (refine pda_cons ?_ ?_; (exact pd_var 7); (exact pda_nil))))); (refine pdb_cons ?_ ?_; (refine pds_set (i := 5) (sc_law).nd rfl (Or.inl rfl) ?_; (refine pd_plus ?_ ?_; (exact pd_var 5); (exact pd_var 7))); (refine pdb_cons ?_ ?_; (refine pds_set (i := 3) (sc_law).nd rfl (Or.inl rfl) ?_; (exact pd_var 7)); (exact pdb_nil)))))))))); (refine pdb_cons ?_ ?_; (refine pds_set (i := 5) (sc_law).nd rfl (Or.inl rfl) ?_; (refine pd_tuple rfl T.b_tuple ?_; (refine pd_slice ?_ ?_ ?_; (refine pd_sortedN rfl rfl T.b_sorted ?_; (exact pd_var 5)); (exact pdo_none); (refine pdo_some ?_; (exact pd_var 1))))); (refine pdb_cons ?_ ?_; (refine pds_set (i := 9) (sc_law).nd rfl (Or.inl rfl) ?_; (refine pd_tuple rfl T.b_tuple ?_; (refine pd_slice ?_ ?_ ?_; (refine pd_sortedN rfl rfl T.b_sorted ?_; (refine pd_call G_law_sums hr rfl ?_; (refine pda_cons ?_ ?_; (exact pd_var 5); (refine pda_cons ?_ ?_; (exact pd_var 3); (exact pda_nil))))); (exact pdo_none); (refine pdo_some ?_; (exact pd_var 1))))); (refine pdb_cons ?_ ?_; (refine pds_if ?_ ?_ ?_; (refine PDW.pdt ?_; (refine pdw_or ?_ ?_; (refine pdt_not ?_; (refine pdt_val ?_; (refine pd_call G_law_same hr rfl ?_; (refine pda_cons ?_ ?_; (exact pd_var 4); (refine pda_cons ?_ ?_; (exact pd_var 5); (exact pda_nil)))))); (refine pdw_or1 ?_; (refine pdt_not ?_; (refine pdt_val ?_; (refine pd_call G_law_same hr rfl ?_; (refine pda_cons ?_ ?_; (refine pd_meth GM_times hr ?_ ?_; (exact pd_var 2); (refine pda_cons ?_ ?_; (exact pd_var 4); (refine pda_cons ?_ ?_; (exact pd_var 3); (exact pda_nil)))); (refine pda_cons ?_ ?_; (exact pd_var 9); (exact pda_nil))))))))); (refine pdb_cons ?_ ?_; (refine pds_ret ?_; (exact pd_bl)); (exact pdb_nil)); (exact pdb_nil)); (refine pdb_cons ?_ ?_; (refine pds_if ?_ ?_ ?_; (refine pdt_not ?_; (refine pdt_val ?_; (refine pd_call G_law_same hr rfl ?_; (refine pda_cons ?_ ?_; (refine pd_meth GM_times hr ?_ ?_; (exact pd_var 2); (refine pda_cons ?_ ?_; (exact pd_var 5); (refine pda_cons ?_ ?_; (exact pd_var 5); (exact pda_nil)))); (refine pda_cons ?_ ?_; (refine pd_tuple rfl T.b_tuple ?_; (refine pd_slice ?_ ?_ ?_; (refine pd_sortedN rfl rfl T.b_sorted ?_; (refine pd_call G_law_sums hr rfl ?_; (refine pda_cons ?_ ?_; (exact pd_var 5); (refine pda_cons ?_ ?_; (exact pd_var 5); (exact pda_nil))))); (exact pdo_none); (refine pdo_some ?_; (exact pd_var 1)))); (exact pda_nil)))))); (refine pdb_cons ?_ ?_; (refine pds_ret ?_; (exact pd_bl)); (exact pdb_nil)); (exact pdb_nil)); (refine pdb_cons ?_ ?_; (refine pds_set (i := 10) (sc_law).nd rfl (Or.inl rfl) ?_; (refine pd_lst ?_; (refine pda_cons ?_ ?_; (exact pd_int); (refine pda_cons ?_ ?_; (refine pd_sub ?_ ?_; (exact pd_int); (refine pd_mod ?_ ?_; (refine pd_call G_law_at hr rfl ?_; (refine pda_cons ?_ ?_; (exact pd_var 0); (refine pda_cons ?_ ?_; (exact pd_int); (exact pda_nil)))); (refine pd_pow ?_ ?_; (exact pd_int); (exact pd_int)))); (refine pda_cons ?_ ?_; (exact pd_bl); (refine pda_cons ?_ ?_; (exact pd_bl); (refine pda_cons ?_ ?_; (exact pd_non); (refine pda_cons ?_ ?_; (exact pd_str); (refine pda_cons ?_ ?_; (refine pd_tup ?_; (refine pda_cons ?_ ?_; (exact pd_int); (exact pda_nil))); (refine pda_cons ?_ ?_; (refine pd_lst ?_; (refine pda_cons ?_ ?_; (exact pd_int); (exact pda_nil))); (exact pda_nil))))))))))); (refine pdb_cons ?_ ?_; (refine pds_ret ?_; (refine pd_call G_law_refused hr rfl ?_; (refine pda_cons ?_ ?_; (refine pd_ix ?_ ?_ (fun _ _ => rfl); (exact pd_var 10); (refine pd_mod ?_ ?_; (refine pd_call G_law_at hr rfl ?_; (refine pda_cons ?_ ?_; (exact pd_var 0); (refine pda_cons ?_ ?_; (exact pd_int); (exact pda_nil)))); (exact pd_int))); (exact pda_nil)))); (exact pdb_nil)))))))))))))
theorem fnd_law (T : Txt K mg t) {fd : FuncData} (Fu : Fun K "law" "law" s_law t.f_law fd) {k k' : Nat} (hk : k' + 1 ≤ k) {F_law_at : List D → M D} (G_law_at : Def P w K mg base k "_law_at" F_law_at) {F_law_lows : List D → M D} (G_law_lows : Def P w K mg base k "_law_lows" F_law_lows) {F_law_refused : List D → M D} (G_law_refused : Def P w K mg base k "_law_refused" F_law_refused) {F_law_same : List D → M D} (G_law_same : Def P w K mg base k "_law_same" F_law_same) {F_law_sums : List D → M D} (G_law_sums : Def P w K mg base k "_law_sums" F_law_sums) {F_Lows : List D → M (List (Str × D))} (G_Lows : Ctor P w K mg base k' "Lows" t.C_Lows F_Lows) {M_plus : Addr → Option (List D → M D)} (GM_plus : ∀ C F, M_plus C = some F → Mth P w K mg base k C "plus" F) {M_times : Addr → Option (List D → M D)} (GM_times : ∀ C F, M_times C = some F → Mth P w K mg base k C "times" F) {F : List D → M D} (hL : ∀ ds r, F ds = some r → ds.length = 1) (hq : ∀ ds r, F ds = some r → ∃ d, r = .ok d ∧ fnRes (den_law t F_law_at F_law_lows F_law_refused F_law_same F_law_sums F_Lows M_plus M_times (rho0 N_law ds)) = ok d) : FnD P w K mg base (k + 1) t.f_law fd ["_law_script"] F :=
  fn_D Fu sc_law hL fun cdv A outer s H E hr => ⟨_, fun B => tm_law T hk G_law_at G_law_lows G_law_refused G_law_same G_law_sums G_Lows GM_plus GM_times hr B, hq⟩
theorem ok_law (T : Txt K mg t) {k k' : Nat} (hk : k' + 1 ≤ k) {F_law_at : List D → M D} (G_law_at : Def P w K mg base k "_law_at" F_law_at) {F_law_lows : List D → M D} (G_law_lows : Def P w K mg base k "_law_lows" F_law_lows) {F_law_refused : List D → M D} (G_law_refused : Def P w K mg base k "_law_refused" F_law_refused) {F_law_same : List D → M D} (G_law_same : Def P w K mg base k "_law_same" F_law_same) {F_law_sums : List D → M D} (G_law_sums : Def P w K mg base k "_law_sums" F_law_sums) {F_Lows : List D → M (List (Str × D))} (G_Lows : Ctor P w K mg base k' "Lows" t.C_Lows F_Lows) {M_plus : Addr → Option (List D → M D)} (GM_plus : ∀ C F, M_plus C = some F → Mth P w K mg base k C "plus" F) {M_times : Addr → Option (List D → M D)} (GM_times : ∀ C F, M_times C = some F → Mth P w K mg base k C "times" F) {F : List D → M D} (hL : ∀ ds r, F ds = some r → ds.length = 1) (hq : ∀ ds r, F ds = some r → ∃ d, r = .ok d ∧ fnRes (den_law t F_law_at F_law_lows F_law_refused F_law_same F_law_sums F_Lows M_plus M_times (rho0 N_law ds)) = ok d) : Def P w K mg base (k + 1) "law" F := by
  obtain ⟨fd, Fu, bi⟩ := T.F_law
  exact ⟨_, _, _, T.g_law, Fu.kp, bi, hL, fn_D Fu sc_law hL fun cdv A outer s H E hr => ⟨_, fun B => tm_law T hk G_law_at G_law_lows G_law_refused G_law_same G_law_sums G_Lows GM_plus GM_times hr B, hq⟩⟩
end
end K05
set_option Elab.async false
set_option linter.all false
set_option maxRecDepth 100000
set_option maxHeartbeats 4000000
namespace K05
open PySem PySem.Spec PyProof.Rows L2 L2.PU
theorem srt_congr {xs ys : List Int} (h : xs.Perm ys) : srtN xs = srtN ys := srtN_of (srtN_pair xs) ((srtN_perm xs).trans h)
noncomputable def low (m : Nat) (xs : List Int) : List Int := (srtN xs).take m
noncomputable def sums (a b : List Int) : List Int := a.flatMap fun x => b.map fun y => x + y
theorem low_len (m : Nat) (xs : List Int) : (low m xs).length ≤ m ∧ (low m xs).length ≤ xs.length := by
  unfold low
  rw [List.length_take, srtN_len]
  omega
theorem sums_len (a b : List Int) : (sums a b).length = a.length * b.length := by
  unfold sums
  induction a with
  | nil => simp
  | cons x a ih => rw [List.flatMap_cons, List.length_append, ih, List.length_map, List.length_cons, Nat.add_mul]; omega
theorem flat_cons {α : Type} (f : α → Int) (g : α → List Int) (l : List α) : (l.flatMap fun y => f y :: g y).Perm (l.map f ++ l.flatMap g) := by
  induction l with
  | nil => exact .nil
  | cons y l ih =>
    rw [List.flatMap_cons, List.map_cons, List.flatMap_cons, List.cons_append, List.cons_append]
    refine List.Perm.cons _ ?_
    refine (List.Perm.append_left _ ih).trans ?_
    rw [← List.append_assoc, ← List.append_assoc]
    exact List.Perm.append_right _ List.perm_append_comm
theorem sums_comm (a b : List Int) : (sums a b).Perm (sums b a) := by
  induction a with
  | nil =>
    have e : sums b [] = [] := by simp [sums]
    rw [e]
    exact .nil
  | cons x a ih =>
    have e1 : sums (x :: a) b = (b.map fun y => x + y) ++ sums a b := rfl
    have e2 : sums b (x :: a) = b.flatMap fun y => (y + x) :: (a.map fun z => y + z) := rfl
    have e3 : (b.map fun y => y + x) = b.map fun y => x + y := List.map_congr_left fun y _ => Int.add_comm y x
    rw [e1, e2]
    refine List.Perm.trans ?_ (flat_cons (fun y => y + x) (fun y => a.map fun z => y + z) b).symm
    rw [e3]
    exact List.Perm.append_left _ ih
theorem low_low (m : Nat) (D ys : List Int) : low m (low m D ++ ys) = low m (D ++ ys) := by
  by_cases hm : D.length ≤ m
  · have e : low m D = srtN D := List.take_of_length_le (by rw [srtN_len]; exact hm)
    unfold low at e ⊢
    rw [e, srt_congr (List.Perm.append_right ys (srtN_perm D))]
  have hs := srtN_pair D
  have hp := srtN_perm D
  have hl : (srtN D).length = D.length := srtN_len D
  generalize srtN D = S at hs hp hl
  unfold low
  have eS : low m D = S.take m := by
    unfold low
    rw [← srtN_of hs hp]
  have eS' : (srtN D).take m = S.take m := eS
  rw [eS']
  have hst : S.take m ++ S.drop m = S := List.take_append_drop m S
  have hTl : (S.take m).length = m := by rw [List.length_take]; omega
  have hTR : ∀ u ∈ S.take m, ∀ r ∈ S.drop m, u ≤ r := by
    rw [← hst] at hs
    exact (List.pairwise_append.mp hs).2.2
  have hpR : (S.take m ++ S.drop m).Perm D := by rw [hst]; exact hp
  generalize S.take m = T at hTl hTR hpR ⊢
  generalize S.drop m = R at hTR hpR
  have hU := srtN_pair (T ++ ys)
  have hUp := srtN_perm (T ++ ys)
  have hUl : m ≤ (srtN (T ++ ys)).length := by rw [srtN_len, List.length_append]; omega
  generalize srtN (T ++ ys) = U at hU hUp hUl ⊢
  have hUs : U.take m ++ U.drop m = U := List.take_append_drop m U
  have key : ∀ u ∈ U.take m, ∀ r ∈ R, u ≤ r := by
    intro u hu r hr
    obtain ⟨i, hi, rfl⟩ := List.mem_iff_getElem.mp hu
    have hi' : i < m := by rw [List.length_take] at hi; omega
    rw [List.getElem_take]
    have hiU : i < U.length := by omega
    by_cases hle : U[i] ≤ r
    · exact hle
    exfalso
    have c1 : m ≤ (T ++ ys).countP (fun z => decide (z ≤ r)) := by
      rw [List.countP_append]
      have : T.countP (fun z => decide (z ≤ r)) = T.length := List.countP_eq_length.mpr fun z hz => by simpa using hTR z hz r hr
      omega
    rw [← hUp.countP_eq] at c1
    have c2 : U.countP (fun z => decide (z ≤ r)) ≤ i := by
      rw [← List.take_append_drop i U, List.countP_append]
      have d0 : (U.drop i).countP (fun z => decide (z ≤ r)) = 0 := by
        rw [List.countP_eq_zero]
        intro z hz
        obtain ⟨j, hj, rfl⟩ := List.mem_iff_getElem.mp hz
        rw [List.getElem_drop]
        have hij : i + j < U.length := by rw [List.length_drop] at hj; omega
        have : U[i] ≤ U[i + j] := by
          by_cases hj0 : j = 0
          · subst hj0; exact Int.le_refl _
          · exact (List.pairwise_iff_getElem.mp hU) i (i + j) hiU hij (by omega)
        simp
        omega
      have d1 := List.countP_le_length (p := fun z => decide (z ≤ r)) (l := U.take i)
      rw [List.length_take] at d1
      omega
    omega
  have hV : U.take m ++ srtN (U.drop m ++ R) = srtN (D ++ ys) := by
    refine srtN_of ?_ ?_
    · rw [← hUs] at hU
      obtain ⟨h1, h2, h3⟩ := List.pairwise_append.mp hU
      refine List.pairwise_append.mpr ⟨h1, srtN_pair _, fun u hu v hv => ?_⟩
      rcases List.mem_append.mp ((srtN_perm _).mem_iff.mp hv) with hv | hv
      · exact h3 u hu v hv
      · exact key u hu v hv
    · refine (List.Perm.append_left _ (srtN_perm _)).trans ?_
      rw [← List.append_assoc, hUs]
      refine (List.Perm.append_right R hUp).trans ?_
      refine List.Perm.trans ?_ (List.Perm.append_right ys hpR)
      rw [List.append_assoc, List.append_assoc]
      exact List.Perm.append_left T List.perm_append_comm
  rw [← hV]
  have hlen : (U.take m).length = m := by rw [List.length_take]; omega
  rw [List.take_append_of_le_length (by omega)]
  exact (List.take_of_length_le (by omega)).symm
noncomputable abbrev tI (xs : List Int) : D := .tup (xs.map D.int)
noncomputable abbrev lI (xs : List Int) : D := .lst (xs.map D.int)
theorem imm_ints : ∀ (xs : List Int), immL (xs.map D.int) = true
  | [] => rfl
  | x :: xs => by
    show ((D.int x).imm && immL (xs.map D.int)) = true
    rw [imm_ints xs]; rfl
theorem imm_tI (xs : List Int) : (tI xs).imm = true := imm_ints xs
theorem pl_ints : ∀ (xs : List Int), plL (xs.map D.int) = true
  | [] => rfl
  | x :: xs => by
    show ((D.int x).pl && plL (xs.map D.int)) = true
    rw [pl_ints xs]; rfl
theorem pl_tI {xs : List Int} (h : xs.length ≤ 1000) : (tI xs).pl = true := by
  show (decide ((xs.map D.int).length ≤ 100000) && plL (xs.map D.int)) = true
  rw [pl_ints, decide_eq_true (by rw [List.length_map]; omega)]; rfl
theorem dep_ints : ∀ (xs : List Int), depL (xs.map D.int) = 0
  | [] => rfl
  | x :: xs => by
    show max (D.int x).dep (depL (xs.map D.int)) = 0
    rw [dep_ints xs]; rfl
theorem dep_tI (xs : List Int) : (tI xs).dep ≤ 1 := by
  show depL (xs.map D.int) + 1 ≤ 1
  rw [dep_ints]; exact Nat.le_refl _
theorem srt_l {xs : List Int} (h : xs.length ≤ 1000) : srtLN (lI xs) = ok (lI (srtN xs)) := by
  show (match numL (xs.map D.int) with | some xs => if xs.length ≤ 1000 then ok (D.lst ((srtN xs).map .int)) else none | none => none) = _
  rw [numL_map]
  exact if_pos h
theorem srt_t {xs : List Int} (h : xs.length ≤ 1000) : srtLN (tI xs) = ok (lI (srtN xs)) := by
  show (match numL (xs.map D.int) with | some xs => if xs.length ≤ 1000 then ok (D.lst ((srtN xs).map .int)) else none | none => none) = _
  rw [numL_map]
  exact if_pos h
theorem cut_m (xs : List Int) (m : Nat) : L2.PU.cutD (xs.map D.int) none (some (m : Int)) = (xs.take m).map D.int := by
  unfold L2.PU.cutD
  rw [HT.sIx_none, HT.sIx_nat, List.drop_zero, Nat.sub_zero, List.map_take]
  rcases Nat.le_total m (xs.map D.int).length with h | h
  · rw [Nat.min_eq_left h]
  · rw [Nat.min_eq_right h, List.take_length, List.take_of_length_le h]
theorem low_ok {f g : Rho → M D} {ρ : Rho} {x : D} {xs : List Int} {m : Nat} (hf : f ρ = ok x) (hx : srtLN x = ok (lI (srtN xs))) (hg : g ρ = ok (.int (m : Int))) : f1 toT (cut3 (f1 srtLN f) oNone (oPart g)) ρ = ok (tI (low m xs)) := by
  have e1 := f1_ok hf hx
  have e2 : cut3 (f1 srtLN f) oNone (oPart g) ρ = ok (lI (low m xs)) := by
    unfold low
    rw [show lI ((srtN xs).take m) = .lst (L2.PU.cutD ((srtN xs).map D.int) none (some (m : Int))) by rw [cut_m]]
    unfold cut3 oPart
    rw [e1, hg]
    rfl
  exact f1_ok e2 rfl
theorem cat_t {f g : Rho → M D} {ρ : Rho} {xs ys : List Int} (hf : f ρ = ok (tI xs)) (hg : g ρ = ok (tI ys)) (hl : xs.length + ys.length ≤ 1000) : b2 gPlus f g ρ = ok (tI (xs ++ ys)) := by
  refine b2_ok hf hg ?_
  show (if (xs.map D.int).length + (ys.map D.int).length ≤ 100000 then ok (D.tup (xs.map D.int ++ ys.map D.int)) else none) = _
  rw [if_pos (by rw [List.length_map, List.length_map]; omega), ← List.map_append]
noncomputable def whD : D → Int → Option Bool
  | .int i, l => some (decide (l ≤ i))
  | .obj _ _, _ => none
  | .exc _, _ => none
  | .set _, _ => none
  | _, _ => some false
noncomputable def fWhole : List D → M D
  | [x, .int l] => match whD x l with
    | some b => ok (.bl b)
    | none => none
  | _ => none
theorem whole_den (t : Adr) : ∀ ds r, fWhole ds = some r → ∃ d, r = .ok d ∧ fnRes (den_is_whole t (rho0 N_is_whole ds)) = ok d := by
  intro ds r h
  unfold fWhole at h
  split at h
  · rename_i x l
    have e0 : rho0 N_is_whole [x, .int l] = [some (.sh x), some (.sh (.int l))] := rfl
    rw [e0]
    cases x with
    | obj C fs => cases h
    | exc C => cases h
    | set ss => cases h
    | _ => cases h; exact ⟨_, rfl, by simp [den_is_whole, sSeq, sRet, andV, notV, isi, tyN, isB, look, SV.cur, bnd, ok, lft, blOf, b2, gGe, fnRes]⟩
  · cases h
noncomputable def flds (n : Int) : List (Str × D) := [("many", .int n), ("nought", .tup []), ("one", tI [0])]
noncomputable def oL (t : Adr) (n : Int) : D := .obj t.C_Lows (flds n)
noncomputable def iL (t : Adr) : List D → M (List (Str × D))
  | [x] => match x, whD x 1 with
    | .int n, some true => ok (flds n)
    | _, some false => err t.X_NoWay
    | _, _ => none
  | _ => none
theorem csW (t : Adr) : cs t t.C_Lows = true := by simp [cs]
theorem i_den (t : Adr) : ∀ ds r a dx, iL t ds = some r → iniResX a t.C_Lows dx (den_Lows___init__ t fWhole (rhoI N_Lows___init__ a t.C_Lows dx ds)) = some r := by
  intro ds r a dx h
  unfold iL at h
  split at h
  · rename_i x
    have e0 : rhoI N_Lows___init__ a t.C_Lows dx [x] = [some (.oin a t.C_Lows dx []), some (.sh x)] := rfl
    rw [e0]
    split at h
    · rename_i n hw
      cases h
      have hf : fWhole [.int n, .int 1] = some (.ok (.bl true)) := by unfold fWhole; dsimp only; rw [hw]; rfl
      have n1 : (Str.ofString "many" : Str) ≠ Str.ofString "nought" := by decide +kernel
      have n2 : (Str.ofString "many" : Str) ≠ Str.ofString "one" := by decide +kernel
      have n3 : (Str.ofString "nought" : Str) ≠ Str.ofString "one" := by decide +kernel
      simp [den_Lows___init__, sSeq, sIf, notB, test, tru, app, aCons, aNil, look, SV.cur, con, bnd, ok, lft, hf, sFldN, sFldI, mkT, D.imm, immL, L2.PU.putAt, csW, putD, sNil, iniResX, iniRes, n1, n2, n3, flds]
    · rename_i x _ n hw
      cases h
      have hf : fWhole [x, .int 1] = some (.ok (.bl false)) := by unfold fWhole; dsimp only; rw [hw]; rfl
      simp [den_Lows___init__, sSeq, sIf, notB, test, tru, app, aCons, aNil, look, SV.cur, con, bnd, ok, lft, hf, sRaise, iniResX, err]
    · cases h
  · cases h
noncomputable def fPlus (t : Adr) : List D → M D := viaD 3 fun ds => fnRes (den_Lows_plus t (rho0 N_Lows_plus ds))
noncomputable def fTimes (t : Adr) : List D → M D := viaD 3 fun ds => fnRes (den_Lows_times t (rho0 N_Lows_times ds))
theorem fld_many (t : Adr) (m : Nat) (rest : Rho) : fld (cs t) "many" (look 0) (some (.sh (oL t (m : Int))) :: rest) = ok (.int (m : Int)) := fld_ok (C := t.C_Lows) (d := .int (m : Int)) rfl (csW t) rfl
theorem plus_sp (t : Adr) (m : Nat) {a b : List Int} (hl : a.length + b.length ≤ 1000) : fPlus t [oL t m, tI a, tI b] = ok (tI (low m (a ++ b))) := by
  refine viaD_of rfl ?_
  have e0 : rho0 N_Lows_plus [oL t m, tI a, tI b] = [some (.sh (oL t m)), some (.sh (tI a)), some (.sh (tI b))] := rfl
  rw [e0]
  unfold den_Lows_plus
  rw [sSeq_rt (sRet_ok (low_ok (cat_t (f := look 1) (g := look 2) rfl rfl hl) (srt_t (by rw [List.length_append]; exact hl)) (fld_many t m _)))]
  rfl
noncomputable def bodyT : Rho → Option Out := (sSeq (sExt2 3 (aCons (cmp 1 (itE (look 2)) [5] h1 (fun _ => ok true) (b2 gPlus (look 4) (look 5))) aNil))
    sNil)
theorem times_loop {o x : D} {b : List Int} (hb : b.length ≤ 1000) : ∀ (l acc : List Int) (s4 : Option SV), acc.length + l.length * b.length ≤ 1000 →
    ∃ s4', loop (gN 4) bodyT (l.map D.int) [some (.sh o), some (.sh x), some (.sh (tI b)), some (.own (acc.map D.int)), s4] = some (.nx [some (.sh o), some (.sh x), some (.sh (tI b)), some (.own ((acc ++ sums l b).map D.int)), s4']) := by
  intro l
  induction l with
  | nil =>
    intro acc s4 _
    exact ⟨s4, by simp [loop, sums]⟩
  | cons z l ih =>
    intro acc s4 hl
    rw [List.length_cons, Nat.add_mul, Nat.one_mul] at hl
    have c1 : cmp 1 (itE (look 2)) [5] h1 (fun _ => ok true) (b2 gPlus (look 4) (look 5)) [some (.sh o), some (.sh x), some (.sh (tI b)), some (.own (acc.map D.int)), some (.sh (.int z))] = ok (.lst (b.map fun y => D.int (z + y))) :=
      cmp_one (l := b) (e := D.int) (g := fun y => D.int (z + y)) rfl hb fun y _ => ⟨rfl, rfl⟩
    have c2 : (b.map fun y => D.int (z + y)) = (b.map fun y => z + y).map D.int := by rw [List.map_map]; rfl
    rw [c2] at c1
    have s1 : sExt2 3 (aCons (cmp 1 (itE (look 2)) [5] h1 (fun _ => ok true) (b2 gPlus (look 4) (look 5))) aNil) [some (.sh o), some (.sh x), some (.sh (tI b)), some (.own (acc.map D.int)), some (.sh (.int z))] = some (.nx [some (.sh o), some (.sh x), some (.sh (tI b)), some (.own ((acc ++ b.map fun y => z + y).map D.int)), some (.sh (.int z))]) := by
      unfold sExt2
      show lft _ _ _ = _
      rw [aCons_ok c1 aNil_ok]
      show (if immL ((b.map fun y => z + y).map D.int) = true ∧ (acc.map D.int).length + ((b.map fun y => z + y).map D.int).length ≤ 100000 then _ else _) = _
      rw [if_pos ⟨imm_ints _, by simp only [List.length_map]; omega⟩, List.map_append]
      rfl
    obtain ⟨s4', h⟩ := ih (acc ++ b.map fun y => z + y) (some (.sh (.int z))) (by rw [List.length_append, List.length_map]; omega)
    refine ⟨s4', ?_⟩
    have e : bodyT [some (.sh o), some (.sh x), some (.sh (tI b)), some (.own (acc.map D.int)), some (.sh (.int z))] = some (.nx [some (.sh o), some (.sh x), some (.sh (tI b)), some (.own ((acc ++ b.map fun y => z + y).map D.int)), some (.sh (.int z))]) := by
      unfold bodyT
      rw [sSeq_nx s1]
      rfl
    rw [List.map_cons]
    refine (loop_cons (ρ1 := [some (.sh o), some (.sh x), some (.sh (tI b)), some (.own (acc.map D.int)), some (.sh (.int z))]) rfl e).trans ?_
    rw [h]
    have e3 : sums (z :: l) b = (b.map fun y => z + y) ++ sums l b := rfl
    rw [e3, List.append_assoc]
theorem times_sp (t : Adr) (m : Nat) {a b : List Int} (hb : b.length ≤ 1000) (hl : a.length * b.length ≤ 1000) : fTimes t [oL t m, tI a, tI b] = ok (tI (low m (sums a b))) := by
  refine viaD_of rfl ?_
  have e0 : rho0 N_Lows_times [oL t m, tI a, tI b] = [some (.sh (oL t m)), some (.sh (tI a)), some (.sh (tI b)), none, none] := rfl
  rw [e0]
  unfold den_Lows_times
  have s1 : sNew 3 aNil [some (.sh (oL t m)), some (.sh (tI a)), some (.sh (tI b)), none, none] = some (.nx [some (.sh (oL t m)), some (.sh (tI a)), some (.sh (tI b)), some (.own []), none]) := by simp [sNew, aNil, ok, lft, immL]
  rw [sSeq_nx s1]
  obtain ⟨s4, lp⟩ := times_loop (o := oL t m) (x := tI a) hb a [] none (by simpa using hl)
  have s2 : sForN 1 (gN 4) bodyT [some (.sh (oL t m)), some (.sh (tI a)), some (.sh (tI b)), some (.own []), none] = some (.nx [some (.sh (oL t m)), some (.sh (tI a)), some (.sh (tI b)), some (.own ((sums a b).map D.int)), s4]) := lp
  show fnRes (sSeq (sForN 1 (gN 4) bodyT) _ _) = _
  rw [sSeq_nx s2, sSeq_rt (sRet_ok (low_ok (f := look 3) (x := lI (sums a b)) rfl (srt_l (by rw [sums_len]; exact hl)) (fld_many t m _)))]
  rfl
noncomputable def bodyS : Rho → Option Out := (sSeq (sOwn lApp 2 (aCons (b2 gPlus (look 3) (look 4)) aNil))
    sNil)
theorem own_app {ρ ρ' : Rho} {i : Nat} {g : Rho → M D} {acc : List Int} {z : Int} (h1 : ρ[i]? = some (some (.own (acc.map D.int)))) (hg : g ρ = ok (.int z)) (hl : acc.length < 1000) (e : ρ.set i (some (.own ((acc ++ [z]).map D.int))) = ρ') : sOwn lApp i (aCons g aNil) ρ = some (.nx ρ') := by
  unfold sOwn
  rw [h1]
  show lft _ _ _ = _
  rw [aCons_ok hg aNil_ok]
  show (if immL [D.int z] = true ∧ (acc.map D.int).length < 100000 then (match lApp (acc.map D.int) [D.int z] with | some ds' => some (Out.nx (ρ.set i (some (.own ds')))) | none => none) else none) = _
  rw [if_pos ⟨rfl, by rw [List.length_map]; omega⟩, ← e, List.map_append]
  rfl
theorem sums_in {x y : D} {z : Int} : ∀ (l acc : List Int) (s4 : Option SV), acc.length + l.length ≤ 1000 →
    ∃ s4', loop (gN 4) bodyS (l.map D.int) [some (.sh x), some (.sh y), some (.own (acc.map D.int)), some (.sh (.int z)), s4] = some (.nx [some (.sh x), some (.sh y), some (.own ((acc ++ l.map fun u => z + u).map D.int)), some (.sh (.int z)), s4']) := by
  intro l
  induction l with
  | nil =>
    intro acc s4 _
    exact ⟨s4, by simp [loop]⟩
  | cons u l ih =>
    intro acc s4 hl
    rw [List.length_cons] at hl
    obtain ⟨s4', h⟩ := ih (acc ++ [z + u]) (some (.sh (.int u))) (by rw [List.length_append, List.length_singleton]; omega)
    refine ⟨s4', ?_⟩
    have e : bodyS [some (.sh x), some (.sh y), some (.own (acc.map D.int)), some (.sh (.int z)), some (.sh (.int u))] = some (.nx [some (.sh x), some (.sh y), some (.own ((acc ++ [z + u]).map D.int)), some (.sh (.int z)), some (.sh (.int u))]) := by
      unfold bodyS
      rw [sSeq_nx (own_app (acc := acc) (z := z + u) rfl rfl (by omega) rfl)]
      rfl
    rw [List.map_cons]
    refine (loop_cons (ρ1 := [some (.sh x), some (.sh y), some (.own (acc.map D.int)), some (.sh (.int z)), some (.sh (.int u))]) rfl e).trans ?_
    rw [h, List.map_cons, List.append_assoc]
    rfl
noncomputable def bodyS2 : Rho → Option Out := (sSeq (sForN 1 (gN 4) bodyS)
    sNil)
theorem sums_out {x : D} {b : List Int} : ∀ (l acc : List Int) (s3 s4 : Option SV), acc.length + l.length * b.length ≤ 1000 →
    ∃ s3' s4', loop (gN 3) bodyS2 (l.map D.int) [some (.sh x), some (.sh (tI b)), some (.own (acc.map D.int)), s3, s4] = some (.nx [some (.sh x), some (.sh (tI b)), some (.own ((acc ++ sums l b).map D.int)), s3', s4']) := by
  intro l
  induction l with
  | nil =>
    intro acc s3 s4 _
    exact ⟨s3, s4, by simp [loop, sums]⟩
  | cons z l ih =>
    intro acc s3 s4 hl
    rw [List.length_cons, Nat.add_mul, Nat.one_mul] at hl
    obtain ⟨s4a, h1⟩ := sums_in (x := x) (y := tI b) (z := z) b acc s4 (by omega)
    obtain ⟨s3', s4', h⟩ := ih (acc ++ b.map fun u => z + u) (some (.sh (.int z))) s4a (by rw [List.length_append, List.length_map]; omega)
    refine ⟨s3', s4', ?_⟩
    have s1 : sForN 1 (gN 4) bodyS [some (.sh x), some (.sh (tI b)), some (.own (acc.map D.int)), some (.sh (.int z)), s4] = _ := h1
    have e : bodyS2 [some (.sh x), some (.sh (tI b)), some (.own (acc.map D.int)), some (.sh (.int z)), s4] = some (.nx [some (.sh x), some (.sh (tI b)), some (.own ((acc ++ b.map fun u => z + u).map D.int)), some (.sh (.int z)), s4a]) := by
      unfold bodyS2
      rw [sSeq_nx s1]
      rfl
    rw [List.map_cons]
    refine (loop_cons (ρ1 := [some (.sh x), some (.sh (tI b)), some (.own (acc.map D.int)), some (.sh (.int z)), s4]) rfl e).trans ?_
    rw [h]
    have e3 : sums (z :: l) b = (b.map fun y => z + y) ++ sums l b := rfl
    rw [e3, List.append_assoc]
noncomputable def fSums (t : Adr) : List D → M D := viaD 2 fun ds => fnRes (den_law_sums t (rho0 N_law_sums ds))
theorem sums_sp (t : Adr) {a b : List Int} (hl : a.length * b.length ≤ 1000) : fSums t [tI a, tI b] = ok (lI (sums a b)) := by
  refine viaD_of rfl ?_
  have e0 : rho0 N_law_sums [tI a, tI b] = [some (.sh (tI a)), some (.sh (tI b)), none, none, none] := rfl
  rw [e0]
  unfold den_law_sums
  have s1 : sNew 2 aNil [some (.sh (tI a)), some (.sh (tI b)), none, none, none] = some (.nx [some (.sh (tI a)), some (.sh (tI b)), some (.own []), none, none]) := by simp [sNew, aNil, ok, lft, immL]
  rw [sSeq_nx s1]
  obtain ⟨s3, s4, lp⟩ := sums_out (x := tI a) (b := b) a [] none none (by simpa using hl)
  have s2 : sForN 0 (gN 3) bodyS2 [some (.sh (tI a)), some (.sh (tI b)), some (.own []), none, none] = some (.nx [some (.sh (tI a)), some (.sh (tI b)), some (.own ((sums a b).map D.int)), s3, s4]) := lp
  show fnRes (sSeq (sForN 0 (gN 3) bodyS2) _ _) = _
  rw [sSeq_nx s2]
  rfl
noncomputable def bodyR : Rho → Option Out := (sSeq (sOwn lApp 2 (aCons (app fNumber (aCons (b2 gPlus (b2 gFdiv (look 0) (con (.int 5))) (b2 gTimes (b2 gFdiv (look 3) (con (.int 2))) (b2 gMod (look 0) (con (.int 1000))))) aNil)) aNil))
    sNil)
noncomputable def fLows (t : Adr) : List D → M D := viaD 2 fun ds => fnRes (den_law_lows t fNumber (rho0 N_law_lows ds))
theorem lows_sp (t : Adr) (c : Int) (m : Nat) : ∃ xs : List Int, xs.length ≤ 4 ∧ fLows t [.int c, .int (m : Int)] = ok (tI xs) := by
  obtain ⟨j, hj⟩ : ∃ j : Nat, min (m : Int) (c % 5) = (j : Int) := ⟨(min (m : Int) (c % 5)).toNat, by omega⟩
  have hj4 : j ≤ 4 := by omega
  have m1 : b2 gMin (look 1) (b2 gMod (look 0) (con (.int 5))) [some (.sh (.int c)), some (.sh (.int (m : Int))), some (.own []), none] = ok (.int (j : Int)) := by
    rw [← hj]
    refine b2_ok (x := .int (m : Int)) rfl (mod_ok (i := c) (j := 5) rfl rfl (by decide)) ?_
    show ok (D.int (if c % 5 < (m : Int) then c % 5 else (m : Int))) = _
    congr 2
    split <;> omega
  have lp : ∃ ρ', loop (gN 3) bodyR (rng 0 j) [some (.sh (.int c)), some (.sh (.int (m : Int))), some (.own []), none] = some (.nx ρ') ∧ ∃ (acc : List Int) (o : Option SV), acc.length = (rng 0 j).length ∧ ρ' = [some (.sh (.int c)), some (.sh (.int (m : Int))), some (.own (acc.map D.int)), o] := by
    refine loop_inv0 (fun p ρ => ∃ (acc : List Int) (o : Option SV), acc.length = p.length ∧ ρ = [some (.sh (.int c)), some (.sh (.int (m : Int))), some (.own (acc.map D.int)), o]) _ _ ⟨[], none, rfl, rfl⟩ ?_
    rintro p d q ρ e ⟨acc, o, hl, rfl⟩
    have hr : (rng 0 j).length = j := by unfold rng; rw [List.length_map, List.length_range]
    have hpl : p.length < j := by rw [← hr, e, List.length_append, List.length_cons]; omega
    have hd : d ∈ rng 0 j := by rw [e]; exact List.mem_append_right _ List.mem_cons_self
    unfold rng at hd
    obtain ⟨i, hi, rfl⟩ := List.mem_map.mp hd
    have hi' := List.mem_range.mp hi
    refine ⟨_, _, rfl, .inl ?_, acc ++ [num (c / 5 + (0 + (i : Int)) / 2 * (c % 1000))], some (.sh (.int (0 + (i : Int)))), by simp [hl], rfl⟩
    unfold bodyR
    have g1 : app fNumber (aCons (b2 gPlus (b2 gFdiv (look 0) (con (.int 5))) (b2 gTimes (b2 gFdiv (look 3) (con (.int 2))) (b2 gMod (look 0) (con (.int 1000))))) aNil) [some (.sh (.int c)), some (.sh (.int (m : Int))), some (.own (acc.map D.int)), some (.sh (.int (0 + (i : Int))))] = ok (.int (num (c / 5 + (0 + (i : Int)) / 2 * (c % 1000)))) :=
      (app_ok (aCons_ok (add_ok (fdiv_ok (i := c) (j := 5) rfl rfl (by decide) (by decide)) (mul_ok (fdiv_ok (i := 0 + (i : Int)) (j := 2) rfl rfl (by decide) (by decide)) (mod_ok (i := c) (j := 1000) rfl rfl (by decide)) (mulB_int (by omega) (by omega) (by omega) (by omega)))) aNil_ok)).trans rfl
    have s1 : sOwn lApp 2 (aCons (app fNumber (aCons (b2 gPlus (b2 gFdiv (look 0) (con (.int 5))) (b2 gTimes (b2 gFdiv (look 3) (con (.int 2))) (b2 gMod (look 0) (con (.int 1000))))) aNil)) aNil) [some (.sh (.int c)), some (.sh (.int (m : Int))), some (.own (acc.map D.int)), some (.sh (.int (0 + (i : Int))))] = some (.nx [some (.sh (.int c)), some (.sh (.int (m : Int))), some (.own ((acc ++ [num (c / 5 + (0 + (i : Int)) / 2 * (c % 1000))]).map D.int)), some (.sh (.int (0 + (i : Int))))]) :=
      own_app (acc := acc) rfl g1 (by omega) rfl
    show sSeq _ _ [some (.sh (.int c)), some (.sh (.int (m : Int))), some (.own (acc.map D.int)), some (.sh (.int (0 + (i : Int))))] = _
    rw [sSeq_nx s1]
    rfl
  obtain ⟨ρ', lp, acc, o, hl, rfl⟩ := lp
  have hr : (rng 0 j).length = j := by unfold rng; rw [List.length_map, List.length_range]
  refine ⟨srtN acc, by rw [srtN_len]; omega, viaD_of rfl ?_⟩
  have e0 : rho0 N_law_lows [.int c, .int (m : Int)] = [some (.sh (.int c)), some (.sh (.int (m : Int))), none, none] := rfl
  rw [e0]
  unfold den_law_lows
  have s1 : sNew 2 aNil [some (.sh (.int c)), some (.sh (.int (m : Int))), none, none] = some (.nx [some (.sh (.int c)), some (.sh (.int (m : Int))), some (.own []), none]) := by simp [sNew, aNil, ok, lft, immL]
  rw [sSeq_nx s1]
  have s2 : sForR1 (b2 gMin (look 1) (b2 gMod (look 0) (con (.int 5)))) (gN 3) bodyR [some (.sh (.int c)), some (.sh (.int (m : Int))), some (.own []), none] = _ := (sForR1_ok m1 (by omega) (by omega)).trans lp
  show fnRes (sSeq (sForR1 (b2 gMin (look 1) (b2 gMod (look 0) (con (.int 5)))) (gN 3) bodyR) _ _) = _
  rw [sSeq_nx s2, sSeq_rt (sRet_ok (f1_ok (g := toT) (f1_ok (f := look 2) (d := lI acc) rfl (srt_l (by omega))) rfl))]
  rfl
noncomputable def S3 : List D → Prop := fun ds => ∃ x, ds = [x] ∧ whD x 1 = some false
theorem refused_den {K : PySem.W.Frag} {mg : Str → Option Value} {t : Adr} (T : Txt K mg t) : ∀ ds r, tt S3 ds = some r → ∃ d, r = .ok d ∧ fnRes (den_law_refused t (iL t) (rho0 N_law_refused ds)) = ok d := by
  intro ds r h
  obtain ⟨hS, e⟩ := tt_inv h
  clear h
  subst e
  obtain ⟨x, rfl, hw⟩ := hS
  refine ⟨_, rfl, ?_⟩
  have e0 : rho0 N_law_refused [x] = [some (.sh x), none, none] := rfl
  rw [e0]
  have hi : iL t [x] = some (.error t.X_NoWay) := by
    unfold iL
    dsimp only
    rw [hw]
    cases x <;> rfl
  simp [den_law_refused, sSeq, sSet, setV, sTry, sDrop, app, mkO, aCons, aNil, look, SV.cur, bnd, ok, lft, con, D.imm, hi, hands, hm_NoWay, aft, exs, km_WhenceError, km_ValueError, andV, blOf, sNil, sRet, fnRes]
noncomputable def oddL (b : Int) : List D := [.int 0, .int b, .bl true, .bl false, .non, .str "1", .tup [.int 1], .lst [.int 1]]
theorem odd_at {b j : Int} (hb : b ≤ 0) (h0 : 0 ≤ j) (h1 : j < 8) : ∃ x, gIx (.lst (oddL b)) (.int j) = some (.ok x) ∧ whD x 1 = some false := by
  have hj : j = 0 ∨ j = 1 ∨ j = 2 ∨ j = 3 ∨ j = 4 ∨ j = 5 ∨ j = 6 ∨ j = 7 := by omega
  rcases hj with rfl | rfl | rfl | rfl | rfl | rfl | rfl | rfl
  · exact ⟨_, rfl, rfl⟩
  · exact ⟨.int b, rfl, by simp [whD]; omega⟩
  · exact ⟨_, rfl, rfl⟩
  · exact ⟨_, rfl, rfl⟩
  · exact ⟨_, rfl, rfl⟩
  · exact ⟨_, rfl, rfl⟩
  · exact ⟨_, rfl, rfl⟩
  · exact ⟨_, rfl, rfl⟩
end K05
set_option Elab.async false
set_option linter.all false
set_option maxRecDepth 100000
set_option maxHeartbeats 4000000
namespace K05
open PySem PySem.Spec PyProof.Rows L2 L2.PU
open Classical in
noncomputable def mP (t : Adr) : Addr → Option (List D → M D) := fun C => if C = t.C_Lows then some (fPlus t) else none
open Classical in
noncomputable def mT (t : Adr) : Addr → Option (List D → M D) := fun C => if C = t.C_Lows then some (fTimes t) else none
noncomputable def sLawS : List D → Prop := fun ds => ∃ ns : List Int, ds = [.lst (ns.map D.int)] ∧ ns.length ≤ 63
noncomputable abbrev Rl (ns : List Int) (s1 s2 s3 s4 s5 s6 s7 s8 s9 s10 : Option SV) : Rho := [some (.sh (.lst (ns.map D.int))), s1, s2, s3, s4, s5, s6, s7, s8, s9, s10]
theorem same_two {k : Nat} {x : D} (hp : x.pl = true) (hd : x.dep + 1 < k) : fSame k [.tup [x, x], .tup [x, x]] = ok (.bl true) :=
  fSame_self (by simp [D.pl, plL, hp]) (by show max x.dep (max x.dep 0) + 1 < k; omega)
section
variable {t : Adr} {m : Nat} {a b : List Int} {f : Rho → M D} {g : Rho → M (List D)} {ρ : Rho}
theorem w_plus (hl : a.length + b.length ≤ 1000) (h1 : f ρ = ok (oL t m)) (h2 : g ρ = ok [tI a, tI b]) : appM "plus" (mP t) f g ρ = ok (tI (low m (a ++ b))) :=
  (appM_ok (C := t.C_Lows) h1 (if_pos rfl) rfl h2).trans (plus_sp t m hl)
theorem w_times (hb : b.length ≤ 1000) (hl : a.length * b.length ≤ 1000) (h1 : f ρ = ok (oL t m)) (h2 : g ρ = ok [tI a, tI b]) : appM "times" (mT t) f g ρ = ok (tI (low m (sums a b))) :=
  (appM_ok (C := t.C_Lows) h1 (if_pos rfl) rfl h2).trans (times_sp t m hb hl)
end
noncomputable def bodyL (t : Adr) : Rho → Option Out := (sSeq (sSet 7 (app (fLows t) (aCons (look 6) (aCons (look 1) aNil))))
    (sSeq (sSet 8 (f1 toT (cut3 (f1 srtLN (b2 gPlus (look 3) (look 7))) oNone (oPart (look 1)))))
    (sSeq (sSet 9 (f1 toT (cut3 (f1 srtLN (app (fSums t) (aCons (look 3) (aCons (look 7) aNil)))) oNone (oPart (look 1)))))
    (sSeq (sIf (notB (test (app (fSame 8) (aCons (mkT (aCons (appM "plus" (mP t) (look 2) (aCons (look 3) (aCons (look 7) aNil))) (aCons (appM "plus" (mP t) (look 2) (aCons (look 7) (aCons (look 3) aNil))) aNil))) (aCons (mkT (aCons (look 8) (aCons (look 8) aNil))) aNil))))) (sSeq (sRet (con (.bl false)))
    sNil) sNil)
    (sSeq (sIf (notB (test (app (fSame 8) (aCons (mkT (aCons (appM "times" (mT t) (look 2) (aCons (look 3) (aCons (look 7) aNil))) (aCons (appM "times" (mT t) (look 2) (aCons (look 7) (aCons (look 3) aNil))) aNil))) (aCons (mkT (aCons (look 9) (aCons (look 9) aNil))) aNil))))) (sSeq (sRet (con (.bl false)))
    sNil) sNil)
    (sSeq (sSet 4 (appM "plus" (mP t) (look 2) (aCons (look 4) (aCons (look 7) aNil))))
    (sSeq (sSet 5 (b2 gPlus (look 5) (look 7)))
    (sSeq (sSet 3 (look 7))
    sNil))))))))
noncomputable abbrev sI (xs : List Int) : Option SV := some (.sh (tI xs))
theorem body_ok (t : Adr) {ns : List Int} {m : Nat} {xs dd : List Int} (c : Int) (hm : m ≤ 20) (hx : xs.length ≤ 4) (hd : dd.length ≤ 100) (s7 s8 s9 s10 : Option SV) : ∃ (ys : List Int) (u v : D), ys.length ≤ 4 ∧
    bodyL t (Rl ns (some (.sh (.int m))) (some (.sh (oL t m))) (sI xs) (sI (low m dd)) (sI dd) (some (.sh (.int c))) s7 s8 s9 s10) = some (.nx (Rl ns (some (.sh (.int m))) (some (.sh (oL t m))) (sI ys) (sI (low m (dd ++ ys))) (sI (dd ++ ys)) (some (.sh (.int c))) (sI ys) (some (.sh u)) (some (.sh v)) s10)) := by
  obtain ⟨ys, hy, es⟩ := lows_sp t c m
  refine ⟨ys, tI (low m (xs ++ ys)), tI (low m (sums xs ys)), hy, ?_⟩
  have hxy : xs.length * ys.length ≤ 16 := Nat.mul_le_mul hx hy
  have hyx : ys.length * xs.length ≤ 16 := Nat.mul_le_mul hy hx
  unfold bodyL
  have e7 : app (fLows t) (aCons (look 6) (aCons (look 1) aNil)) (Rl ns (some (.sh (.int m))) (some (.sh (oL t m))) (sI xs) (sI (low m dd)) (sI dd) (some (.sh (.int c))) s7 s8 s9 s10) = ok (tI ys) := (app_ok (aCons_ok (d := .int c) rfl (aCons_ok (d := .int m) rfl aNil_ok))).trans es
  rw [sSeq_nx (sSet_imm e7 (imm_tI _))]
  show sSeq _ _ (Rl ns (some (.sh (.int m))) (some (.sh (oL t m))) (sI xs) (sI (low m dd)) (sI dd) (some (.sh (.int c))) (sI ys) s8 s9 s10) = _
  have e8 : f1 toT (cut3 (f1 srtLN (b2 gPlus (look 3) (look 7))) oNone (oPart (look 1))) (Rl ns (some (.sh (.int m))) (some (.sh (oL t m))) (sI xs) (sI (low m dd)) (sI dd) (some (.sh (.int c))) (sI ys) s8 s9 s10) = ok (tI (low m (xs ++ ys))) := low_ok (cat_t (f := look 3) (g := look 7) rfl rfl (by omega)) (srt_t (by rw [List.length_append]; omega)) rfl
  rw [sSeq_nx (sSet_imm e8 (imm_tI _))]
  generalize hv : tI (low m (xs ++ ys)) = v
  show sSeq _ _ (Rl ns (some (.sh (.int m))) (some (.sh (oL t m))) (sI xs) (sI (low m dd)) (sI dd) (some (.sh (.int c))) (sI ys) (some (.sh v)) s9 s10) = _
  have e9 : f1 toT (cut3 (f1 srtLN (app (fSums t) (aCons (look 3) (aCons (look 7) aNil)))) oNone (oPart (look 1))) (Rl ns (some (.sh (.int m))) (some (.sh (oL t m))) (sI xs) (sI (low m dd)) (sI dd) (some (.sh (.int c))) (sI ys) (some (.sh v)) s9 s10) = ok (tI (low m (sums xs ys))) :=
    low_ok ((app_ok (aCons_ok (d := tI xs) rfl (aCons_ok (d := tI ys) rfl aNil_ok))).trans (sums_sp t (by omega))) (srt_l (by rw [sums_len]; omega)) rfl
  rw [sSeq_nx (sSet_imm e9 (imm_tI _))]
  generalize hu : tI (low m (sums xs ys)) = u
  show sSeq _ _ (Rl ns (some (.sh (.int m))) (some (.sh (oL t m))) (sI xs) (sI (low m dd)) (sI dd) (some (.sh (.int c))) (sI ys) (some (.sh v)) (some (.sh u)) s10) = _
  generalize hρ : Rl ns (some (.sh (.int m))) (some (.sh (oL t m))) (sI xs) (sI (low m dd)) (sI dd) (some (.sh (.int c))) (sI ys) (some (.sh v)) (some (.sh u)) s10 = ρ
  have l2 : look 2 ρ = ok (oL t m) := by rw [← hρ]; rfl
  have l3 : look 3 ρ = ok (tI xs) := by rw [← hρ]; rfl
  have l4 : look 4 ρ = ok (tI (low m dd)) := by rw [← hρ]; rfl
  have l7 : look 7 ρ = ok (tI ys) := by rw [← hρ]; rfl
  have l8 : look 8 ρ = ok v := by rw [← hρ]; rfl
  have l9 : look 9 ρ = ok u := by rw [← hρ]; rfl
  have p1 := w_plus (a := xs) (b := ys) (by omega) l2 (aCons_ok l3 (aCons_ok l7 aNil_ok))
  have p2 := w_plus (a := ys) (b := xs) (by omega) l2 (aCons_ok l7 (aCons_ok l3 aNil_ok))
  rw [show low m (ys ++ xs) = low m (xs ++ ys) by unfold low; rw [srt_congr List.perm_append_comm]] at p2
  have p3 := w_times (a := xs) (b := ys) (by omega) (by omega) l2 (aCons_ok l3 (aCons_ok l7 aNil_ok))
  have p4 := w_times (a := ys) (b := xs) (by omega) (by omega) l2 (aCons_ok l7 (aCons_ok l3 aNil_ok))
  rw [show low m (sums ys xs) = low m (sums xs ys) by unfold low; rw [srt_congr (sums_comm ys xs)]] at p4
  rw [hv] at p1 p2
  rw [hu] at p3 p4
  have w1 := low_len m (xs ++ ys)
  have w2 := low_len m (sums xs ys)
  have w3 := low_len m dd
  have pv : v.pl = true ∧ v.dep ≤ 1 := by rw [← hv]; exact ⟨pl_tI (by omega), dep_tI _⟩
  have pu : u.pl = true ∧ u.dep ≤ 1 := by rw [← hu]; exact ⟨pl_tI (by omega), dep_tI _⟩
  have k1 : app (fSame 8) (aCons (mkT (aCons (appM "plus" (mP t) (look 2) (aCons (look 3) (aCons (look 7) aNil))) (aCons (appM "plus" (mP t) (look 2) (aCons (look 7) (aCons (look 3) aNil))) aNil))) (aCons (mkT (aCons (look 8) (aCons (look 8) aNil))) aNil)) ρ = ok (.bl true) := by
    rw [app_ok (aCons_ok (mkT_ok (aCons_ok p1 (aCons_ok p2 aNil_ok))) (aCons_ok (mkT_ok (aCons_ok l8 (aCons_ok l8 aNil_ok))) aNil_ok))]
    exact same_two pv.1 (by have := pv.2; omega)
  have k2 : app (fSame 8) (aCons (mkT (aCons (appM "times" (mT t) (look 2) (aCons (look 3) (aCons (look 7) aNil))) (aCons (appM "times" (mT t) (look 2) (aCons (look 7) (aCons (look 3) aNil))) aNil))) (aCons (mkT (aCons (look 9) (aCons (look 9) aNil))) aNil)) ρ = ok (.bl true) := by
    rw [app_ok (aCons_ok (mkT_ok (aCons_ok p3 (aCons_ok p4 aNil_ok))) (aCons_ok (mkT_ok (aCons_ok l9 (aCons_ok l9 aNil_ok))) aNil_ok))]
    exact same_two pu.1 (by have := pu.2; omega)
  have p5 := w_plus (a := low m dd) (b := ys) (by omega) l2 (aCons_ok l4 (aCons_ok l7 aNil_ok))
  rw [low_low] at p5
  rw [sSeq_nx (pass_not k1), sSeq_nx (pass_not k2), sSeq_nx (sSet_imm p5 (imm_tI _)), ← hρ]
  show sSeq _ _ (Rl ns (some (.sh (.int m))) (some (.sh (oL t m))) (sI xs) (sI (low m (dd ++ ys))) (sI dd) (some (.sh (.int c))) (sI ys) (some (.sh v)) (some (.sh u)) s10) = _
  rw [sSeq_nx (sSet_imm (cat_t (f := look 5) (g := look 7) (xs := dd) (ys := ys) rfl rfl (by omega)) (imm_tI _))]
  show sSeq _ _ (Rl ns (some (.sh (.int m))) (some (.sh (oL t m))) (sI xs) (sI (low m (dd ++ ys))) (sI (dd ++ ys)) (some (.sh (.int c))) (sI ys) (some (.sh v)) (some (.sh u)) s10) = _
  rw [sSeq_nx (sSet_imm (f := look 7) (d := tI ys) rfl (imm_tI _))]
  rfl
theorem many_at {j : Int} (h0 : 0 ≤ j) (h1 : j < 6) : ∃ m : Nat, 1 ≤ m ∧ m ≤ 20 ∧ gIx (.lst [.int 1, .int 2, .int 3, .int 4, .int 5, .int 20]) (.int j) = some (.ok (.int (m : Int))) := by
  have hj : j = 0 ∨ j = 1 ∨ j = 2 ∨ j = 3 ∨ j = 4 ∨ j = 5 := by omega
  rcases hj with rfl | rfl | rfl | rfl | rfl | rfl
  · exact ⟨1, by decide, by decide, rfl⟩
  · exact ⟨2, by decide, by decide, rfl⟩
  · exact ⟨3, by decide, by decide, rfl⟩
  · exact ⟨4, by decide, by decide, rfl⟩
  · exact ⟨5, by decide, by decide, rfl⟩
  · exact ⟨20, by decide, by decide, rfl⟩
theorem cut20 {ns : List Int} : L2.PU.cutD (ns.map D.int) none (some (20 : Int)) = (ns.take 20).map D.int := cut_m ns 20
theorem lows_made (t : Adr) {f : Rho → M D} {ρ : Rho} {m : Nat} (hm : 1 ≤ m) (hf : f ρ = ok (.int (m : Int))) : app (mkO t.C_Lows (iL t)) (aCons f aNil) ρ = ok (oL t m) := by
  have hw : whD (.int (m : Int)) 1 = some true := by simp [whD]; omega
  have i1 : iL t [.int (m : Int)] = ok (flds m) := by
    unfold iL
    dsimp only
    rw [hw]
  rw [app_ok (aCons_ok hf aNil_ok)]
  unfold mkO
  rw [i1]
  rfl
end K05
set_option Elab.async false
set_option linter.all false
set_option maxRecDepth 100000
set_option maxHeartbeats 4000000
namespace K05
open PySem PySem.Spec PyProof.Rows L2 L2.PU
theorem p60 : (10 : Int) ^ (60 : Int).toNat = 1000000000000000000000000000000000000000000000000000000000000 := by decide
theorem law_den {K : PySem.W.Frag} {mg : Str → Option Value} {t : Adr} (X : Txt K mg t) : ∀ ds r, tt sLawS ds = some r → ∃ d, r = .ok d ∧ fnRes (den_law t fAt (fLows t) (tt S3) (fSame 8) (fSums t) (iL t) (mP t) (mT t) (rho0 N_law ds)) = ok d := by
  intro ds r hr
  obtain ⟨hS, e⟩ := tt_inv hr
  clear hr
  subst e
  obtain ⟨ns, rfl, hns⟩ := hS
  refine ⟨_, rfl, ?_⟩
  have e0 : rho0 N_law [.lst (ns.map D.int)] = Rl ns none none none none none none none none none none := rfl
  rw [e0]
  unfold den_law
  obtain ⟨m, m1, m2, hm⟩ := many_at (j := atZ ns 0 % 6) (by omega) (by omega)
  have e1 : b2 gIx (mkL (aCons (con (.int 1)) (aCons (con (.int 2)) (aCons (con (.int 3)) (aCons (con (.int 4)) (aCons (con (.int 5)) (aCons (con (.int 20)) aNil))))))) (b2 gMod (app fAt (aCons (look 0) (aCons (con (.int 0)) aNil))) (con (.int 6))) (Rl ns none none none none none none none none none none) = ok (.int (m : Int)) :=
    b2_ok (x := .lst [.int 1, .int 2, .int 3, .int 4, .int 5, .int 20]) rfl (mod_ok (at_app 0) rfl (by decide)) hm
  rw [sSeq_nx (sSet_imm e1 rfl)]
  show fnRes (sSeq _ _ (Rl ns (some (.sh (.int m))) none none none none none none none none none)) = _
  rw [sSeq_nx (sSet_any (lows_made t (f := look 1) m1 rfl) rfl)]
  show fnRes (sSeq _ _ (Rl ns (some (.sh (.int m))) (some (.sh (oL t m))) none none none none none none none none)) = _
  have fN : ∀ ρ : Rho, look 2 ρ = ok (oL t m) → fld (cs t) "nought" (look 2) ρ = ok (tI []) := fun ρ h => fld_ok (C := t.C_Lows) h (csW t) rfl
  have fO : ∀ ρ : Rho, look 2 ρ = ok (oL t m) → fld (cs t) "one" (look 2) ρ = ok (tI [0]) := fun ρ h => fld_ok (C := t.C_Lows) h (csW t) rfl
  have k3 : app (fSame 8) (aCons (mkT (aCons (fld (cs t) "nought" (look 2)) (aCons (fld (cs t) "one" (look 2)) aNil))) (aCons (mkT (aCons (mkT aNil) (aCons (mkT (aCons (con (.int 0)) aNil)) aNil))) aNil)) (Rl ns (some (.sh (.int m))) (some (.sh (oL t m))) none none none none none none none none) = ok (.bl true) := by
    rw [app_ok (aCons_ok (mkT_ok (aCons_ok (fN _ rfl) (aCons_ok (fO _ rfl) aNil_ok))) (aCons_ok (d := .tup [tI [], tI [0]]) rfl aNil_ok))]
    exact fSame_self rfl (by decide)
  rw [sSeq_nx (pass_not k3)]
  obtain ⟨xs, hx, es⟩ := lows_sp t (atZ ns 1) m
  have e3 : app (fLows t) (aCons (app fAt (aCons (look 0) (aCons (con (.int 1)) aNil))) (aCons (look 1) aNil)) (Rl ns (some (.sh (.int m))) (some (.sh (oL t m))) none none none none none none none none) = ok (tI xs) := (app_ok (aCons_ok (at_app 1) (aCons_ok (d := .int m) rfl aNil_ok))).trans es
  rw [sSeq_nx (sSet_imm e3 (imm_tI _))]
  show fnRes (sSeq _ _ (Rl ns (some (.sh (.int m))) (some (.sh (oL t m))) (sI xs) none none none none none none none)) = _
  rw [sSeq_nx (sSet_imm (fN _ rfl) (imm_tI _))]
  show fnRes (sSeq _ _ (Rl ns (some (.sh (.int m))) (some (.sh (oL t m))) (sI xs) (sI []) none none none none none none)) = _
  rw [sSeq_nx (sSet_imm (d := tI []) rfl (imm_tI _))]
  show fnRes (sSeq (sForE (cut3 (look 0) oNone (oPart (con (.int 20)))) (gN 6) (bodyL t)) _ (Rl ns (some (.sh (.int m))) (some (.sh (oL t m))) (sI xs) (sI []) (sI []) none none none none none)) = _
  have c1 : cut3 (look 0) oNone (oPart (con (.int 20))) (Rl ns (some (.sh (.int m))) (some (.sh (oL t m))) (sI xs) (sI []) (sI []) none none none none none) = ok (lI (ns.take 20)) := by
    rw [show lI (ns.take 20) = .lst (L2.PU.cutD (ns.map D.int) none (some (20 : Int))) by rw [cut20]]
    rfl
  have low0 : low m [] = [] := by unfold low srtN; simp
  have hcl : (ns.take 20).length ≤ 20 := by rw [List.length_take]; omega
  generalize ns.take 20 = cl at c1 hcl
  obtain ⟨ρ', lp, xs', dd, o6, o7, o8, o9, rfl, hx', hdd⟩ := loop_inv0 (G := gN 6) (F := bodyL t) (fun p ρ => ∃ (xs dd : List Int) (o6 o7 o8 o9 : Option SV), ρ = Rl ns (some (.sh (.int m))) (some (.sh (oL t m))) (sI xs) (sI (low m dd)) (sI dd) o6 o7 o8 o9 none ∧ xs.length ≤ 4 ∧ dd.length ≤ 4 * p.length) (cl.map D.int)
    (Rl ns (some (.sh (.int m))) (some (.sh (oL t m))) (sI xs) (sI []) (sI []) none none none none none) ⟨xs, [], none, none, none, none, by rw [low0], hx, by simp⟩ (fun p d p' ρ e hI => by
      obtain ⟨xs, dd, o6, o7, o8, o9, rfl, hx, hd⟩ := hI
      have hdm : d ∈ cl.map D.int := by rw [e]; exact List.mem_append_right _ List.mem_cons_self
      have hpl : p.length < cl.length := by
        have := congrArg List.length e
        rw [List.length_map, List.length_append, List.length_cons] at this
        omega
      obtain ⟨c, _, rfl⟩ := List.mem_map.mp hdm
      obtain ⟨ys, u, v, hy, hb⟩ := body_ok t (ns := ns) (m := m) (xs := xs) (dd := dd) c m2 hx (by omega) o7 o8 o9 none
      exact ⟨_, _, rfl, .inl hb, ys, dd ++ ys, _, _, _, _, rfl, hy, by rw [List.length_append, List.length_append, List.length_singleton]; omega⟩)
  have s9 : sForE (cut3 (look 0) oNone (oPart (con (.int 20)))) (gN 6) (bodyL t) (Rl ns (some (.sh (.int m))) (some (.sh (oL t m))) (sI xs) (sI []) (sI []) none none none none none) = some (.nx (Rl ns (some (.sh (.int m))) (some (.sh (oL t m))) (sI xs') (sI (low m dd)) (sI dd) o6 o7 o8 o9 none)) := by
    rw [sForE_ok c1 rfl]
    exact lp
  rw [sSeq_nx s9]
  rw [List.length_map] at hdd
  have e5 : f1 toT (cut3 (f1 srtLN (look 5)) oNone (oPart (look 1))) (Rl ns (some (.sh (.int m))) (some (.sh (oL t m))) (sI xs') (sI (low m dd)) (sI dd) o6 o7 o8 o9 none) = ok (tI (low m dd)) := low_ok (f := look 5) (x := tI dd) rfl (srt_t (by omega)) rfl
  rw [sSeq_nx (sSet_imm e5 (imm_tI _))]
  have hF := (low_len m dd).1
  generalize low m dd = F at hF ⊢
  show fnRes (sSeq _ _ (Rl ns (some (.sh (.int m))) (some (.sh (oL t m))) (sI xs') (sI F) (sI F) o6 o7 o8 o9 none)) = _
  have q1 : F.length * xs'.length ≤ 80 := Nat.mul_le_mul (by omega : F.length ≤ 20) hx'
  have q2 : F.length * F.length ≤ 400 := Nat.mul_le_mul (by omega : F.length ≤ 20) (by omega : F.length ≤ 20)
  have e9 : f1 toT (cut3 (f1 srtLN (app (fSums t) (aCons (look 5) (aCons (look 3) aNil)))) oNone (oPart (look 1))) (Rl ns (some (.sh (.int m))) (some (.sh (oL t m))) (sI xs') (sI F) (sI F) o6 o7 o8 o9 none) = ok (tI (low m (sums F xs'))) :=
    low_ok ((app_ok (aCons_ok (d := tI F) rfl (aCons_ok (d := tI xs') rfl aNil_ok))).trans (sums_sp t (by omega))) (srt_l (by rw [sums_len]; omega)) rfl
  rw [sSeq_nx (sSet_imm e9 (imm_tI _))]
  have hG := (low_len m (sums F xs')).1
  generalize hGe : low m (sums F xs') = G at hG ⊢
  show fnRes (sSeq _ _ (Rl ns (some (.sh (.int m))) (some (.sh (oL t m))) (sI xs') (sI F) (sI F) o6 o7 o8 (sI G) none)) = _
  generalize hρ : Rl ns (some (.sh (.int m))) (some (.sh (oL t m))) (sI xs') (sI F) (sI F) o6 o7 o8 (sI G) none = ρ
  have l1 : look 1 ρ = ok (.int (m : Int)) := by rw [← hρ]; rfl
  have l2 : look 2 ρ = ok (oL t m) := by rw [← hρ]; rfl
  have l3 : look 3 ρ = ok (tI xs') := by rw [← hρ]; rfl
  have l4 : look 4 ρ = ok (tI F) := by rw [← hρ]; rfl
  have l5 : look 5 ρ = ok (tI F) := by rw [← hρ]; rfl
  have l9 : look 9 ρ = ok (tI G) := by rw [← hρ]; rfl
  have k10 : app (fSame 8) (aCons (look 4) (aCons (look 5) aNil)) ρ = ok (.bl true) := by
    rw [app_ok (aCons_ok l4 (aCons_ok l5 aNil_ok))]
    exact fSame_self (pl_tI (by omega)) (by have := dep_tI F; omega)
  have t1 := w_times (a := F) (b := xs') (by omega) (by omega) l2 (aCons_ok l4 (aCons_ok l3 aNil_ok))
  rw [hGe] at t1
  have k11 : app (fSame 8) (aCons (appM "times" (mT t) (look 2) (aCons (look 4) (aCons (look 3) aNil))) (aCons (look 9) aNil)) ρ = ok (.bl true) := by
    rw [app_ok (aCons_ok t1 (aCons_ok l9 aNil_ok))]
    exact fSame_self (pl_tI (by omega)) (by have := dep_tI G; omega)
  rw [sSeq_nx ((sIf_f (orB_ok (notB_ok (test_ok k10 rfl)) (notB_ok (test_ok k11 rfl)))).trans rfl)]
  have t2 := w_times (a := F) (b := F) (by omega) (by omega) l2 (aCons_ok l5 (aCons_ok l5 aNil_ok))
  have t3 : f1 toT (cut3 (f1 srtLN (app (fSums t) (aCons (look 5) (aCons (look 5) aNil)))) oNone (oPart (look 1))) ρ = ok (tI (low m (sums F F))) :=
    low_ok ((app_ok (aCons_ok l5 (aCons_ok l5 aNil_ok))).trans (sums_sp t (by omega))) (srt_l (by rw [sums_len]; omega)) l1
  have hH := (low_len m (sums F F)).1
  generalize low m (sums F F) = G2 at hH t2 t3
  have k12 : app (fSame 8) (aCons (appM "times" (mT t) (look 2) (aCons (look 5) (aCons (look 5) aNil))) (aCons (f1 toT (cut3 (f1 srtLN (app (fSums t) (aCons (look 5) (aCons (look 5) aNil)))) oNone (oPart (look 1)))) aNil)) ρ = ok (.bl true) := by
    rw [app_ok (aCons_ok t2 (aCons_ok t3 aNil_ok))]
    exact fSame_self (pl_tI (by omega)) (by have := dep_tI G2; omega)
  rw [sSeq_nx (pass_not k12), ← hρ]
  have pw : ∀ ρ, b2 gPow (con (.int 10)) (con (.int 60)) ρ = ok (.int 1000000000000000000000000000000000000000000000000000000000000) := fun ρ => by simp [b2, con, bnd, ok, gPow, p60]
  have z0 : 0 ≤ atZ ns 2 % 1000000000000000000000000000000000000000000000000000000000000 := by omega
  obtain ⟨x, x1, x2⟩ := odd_at (b := 0 - atZ ns 2 % 1000000000000000000000000000000000000000000000000000000000000) (j := atZ ns 3 % 8) (by omega) (by omega) (by omega)
  have sb : b2 PU.gSub (con (.int 0)) (b2 gMod (app fAt (aCons (look 0) (aCons (con (.int 2)) aNil))) (b2 gPow (con (.int 10)) (con (.int 60)))) (Rl ns (some (.sh (.int m))) (some (.sh (oL t m))) (sI xs') (sI F) (sI F) o6 o7 o8 (sI G) none) = ok (.int (0 - atZ ns 2 % 1000000000000000000000000000000000000000000000000000000000000)) :=
    b2_ok (x := .int 0) rfl (mod_ok (at_app 2) (pw _) (by decide)) rfl
  have e10 := mkL_ok (aCons_ok (f := con (.int 0)) (ρ := Rl ns (some (.sh (.int m))) (some (.sh (oL t m))) (sI xs') (sI F) (sI F) o6 o7 o8 (sI G) none) (d := .int 0) rfl (aCons_ok sb (aCons_ok (f := con (.bl true)) (d := .bl true) rfl (aCons_ok (f := con (.bl false)) (d := .bl false) rfl (aCons_ok (f := con .non) (d := .non) rfl (aCons_ok (f := con (.str "1")) (d := .str "1") rfl (aCons_ok (f := mkT (aCons (con (.int 1)) aNil)) (d := .tup [.int 1]) rfl (aCons_ok (f := mkL (aCons (con (.int 1)) aNil)) (d := .lst [.int 1]) rfl aNil_ok))))))))
  rw [sSeq_nx (sSet_ok e10)]
  have k13 : ∀ rest : Rho, rest[9]? = some (some (.sh (.lst (oddL (0 - atZ ns 2 % 1000000000000000000000000000000000000000000000000000000000000))))) → app (tt S3) (aCons (b2 gIx (look 10) (b2 gMod (app fAt (aCons (look 0) (aCons (con (.int 3)) aNil))) (con (.int 8)))) aNil) (some (.sh (.lst (ns.map D.int))) :: rest) = ok (.bl true) := fun rest hr => by
    have l10 : look 10 (some (.sh (.lst (ns.map D.int))) :: rest) = ok (.lst (oddL (0 - atZ ns 2 % 1000000000000000000000000000000000000000000000000000000000000))) := by
      unfold look
      rw [List.getElem?_cons_succ, hr]
      rfl
    exact (app_ok (aCons_ok (b2_ok l10 (mod_ok (at_app 3) rfl (by decide)) x1) aNil_ok)).trans (tt_ok ⟨x, rfl, x2⟩)
  obtain ⟨rest, e14, h14⟩ : ∃ rest : Rho, setV 10 (.lst (oddL (0 - atZ ns 2 % 1000000000000000000000000000000000000000000000000000000000000))) (Rl ns (some (.sh (.int m))) (some (.sh (oL t m))) (sI xs') (sI F) (sI F) o6 o7 o8 (sI G) none) = some (.sh (.lst (ns.map D.int))) :: rest ∧ rest[9]? = some (some (.sh (.lst (oddL (0 - atZ ns 2 % 1000000000000000000000000000000000000000000000000000000000000))))) := ⟨_, rfl, rfl⟩
  unfold oddL at e14
  rw [e14, sSeq_rt (sRet_ok (k13 rest h14))]
  rfl
section
variable {P : Program} {w : World} {K : PySem.W.Frag} {mg : Str → Option Value} {base : Heap} {t : Adr}
theorem same_ok (X : Txt K mg t) : ∀ k, Def P w K mg base k "_law_same" (fSame k)
  | 0 => by
    obtain ⟨fd, Fu, bi⟩ := X.F_law_same
    exact ⟨_, _, _, X.g_law_same, Fu.kp, bi, fSame_len 0, fn_none fSame_zero⟩
  | k + 1 => ok_law_same X (same_ok X k) (fSame_len _) (same_den N_law_same rfl)
theorem mP_ok (X : Txt K mg t) (k : Nat) : ∀ C F, mP t C = some F → Mth P w K mg base (k + 1) C "plus" F := by
  intro C F h
  unfold mP at h
  split at h
  · rename_i e; subst e; cases h
    exact ok_Lows_plus X viaD_len viaD_q
  · cases h
theorem mT_ok (X : Txt K mg t) (k : Nat) : ∀ C F, mT t C = some F → Mth P w K mg base (k + 1) C "times" F := by
  intro C F h
  unfold mT at h
  split at h
  · rename_i e; subst e; cases h
    exact ok_Lows_times X viaD_len viaD_q
  · cases h
theorem ini_ok (X : Txt K mg t) (k : Nat) : Ctor P w K mg base (k + 2) "Lows" t.C_Lows (iL t) :=
  ok_Lows___init__ X (ok_is_whole X (by intro ds r h; unfold fWhole at h; split at h; rfl; cases h) (whole_den t)) (by intro ds r h; unfold iL at h; split at h; rfl; cases h) (i_den t)
theorem law_fn (X : Txt K mg t) {fd : FuncData} (Fu : Fun K "law" "law" s_law t.f_law fd) : FnD P w K mg base 9 t.f_law fd ["_law_script"] (tt sLawS) :=
  fnd_law X Fu (k := 8) (k' := 5) (by decide) (ok_law_at X (k := 7) fAt_len (at_den N_law_at rfl)) (ok_law_lows X (k := 7) (ok_law_number X (k := 6) fNumber_len (number_den2 N_law_number rfl)) viaD_len viaD_q)
    (ok_law_refused X (k := 7) (k' := 5) (by decide) (ini_ok X 3) (by intro ds r h; obtain ⟨x, rfl, _⟩ := (tt_inv h).1; rfl) (refused_den X)) (same_ok X 8) (ok_law_sums X (k := 7) viaD_len viaD_q) (ini_ok X 3) (mP_ok X 7) (mT_ok X 7)
    (by intro ds r h; obtain ⟨ns, rfl, _⟩ := (tt_inv h).1; rfl) (law_den X)
end
end K05
set_option Elab.async false
set_option linter.all false
set_option maxRecDepth 100000
set_option maxHeartbeats 4000000
namespace K05
open PySem PySem.W L2 L2.HD
noncomputable def frag : Params → Frag := fun P =>
  (nat_lit 2, ⟨.none, none, .dict #[] 0, #[]⟩) ::
  (nat_lit 3, od 21 [de P "__name__" 165 (vs "law_whence_k05_lows" 296),
   de P "__doc__" 166 .none,
   de P "__package__" 167 .none,
   de P "__loader__" 168 (.builtin "__main__.__loader__#opaque"),
   de P "__spec__" 169 .none,
   de P "__annotations__" 170 (.ref 6),
   de P "__builtins__" 171 (.ref 4),
   de P "__file__" 173 (vs "/claim/cut.py" 172),
   de P "__cached__" 174 .none,
   de P "_wall" 193 (.ref 21),
   de P "WhenceError" 213 (.ref 31),
   de P "NoWay" 229 (.ref 44),
   de P "is_whole" 239 (.ref 53),
   de P "Lows" 295 (.ref 89),
   de P "_law_at" 305 (.ref 100),
   de P "_law_same" 314 (.ref 107),
   de P "_law_number" 321 (.ref 114),
   de P "_law_lows" 331 (.ref 121),
   de P "_law_sums" 342 (.ref 128),
   de P "_law_refused" 351 (.ref 135),
   de P "law" 368 (.ref 142)]) ::
  (nat_lit 6, od 0 []) ::
  (nat_lit 20, oc "_wall" 187 "_wall" 188 189 1 1 3 [(.ref 15), (.bool true), (vi 181), (.ref 16), .none, (.ref 17), (.ref 18), (.ref 19)] 191 1 192) ::
  (nat_lit 21, of "_wall" "_wall" (top 0) "__main__" 164 20) ::
  (nat_lit 30, od 3 [de P "__module__" 203 (vs "whence.errors" 194),
   de P "__firstlineno__" 207 (.int 5 206),
   de P "__static_attributes__" 208 (.ref 29),
   de P "__weakref__" 210 (.ref 32),
   de P "__doc__" 211 .none]) ::
  (nat_lit 31, ⟨(.type "type"), none, .cls ⟨"WhenceError", [(.type "ValueError")], [(.ref 31), (.type "ValueError"), (.type "Exception"), (.type "BaseException"), (.type "object")], 30, "WhenceError", true, [], [(.ref 44)], false, none, false⟩, #[some (.ref 22), none, some (vs "WhenceError" 196), some (vs "WhenceError" 204), some (.builtin "ValueError.__new__"), some (.bool true)]⟩) ::
  (nat_lit 32, ofd "getset_descriptor" [(vs "__weakref__" 209), (.ref 31), (.builtin "ExceptionGroup.__weakref__"), .none]) ::
  (nat_lit 43, od 2 [de P "__module__" 221 (vs "whence.errors" 194),
   de P "__firstlineno__" 225 (.int 7 224),
   de P "__static_attributes__" 226 (.ref 42),
   de P "__doc__" 227 .none]) ::
  (nat_lit 44, ⟨(.type "type"), none, .cls ⟨"NoWay", [(.ref 31)], [(.ref 44), (.ref 31), (.type "ValueError"), (.type "Exception"), (.type "BaseException"), (.type "object")], 43, "NoWay", true, [], [], false, none, false⟩, #[some (.ref 35), none, some (vs "NoWay" 214), some (vs "NoWay" 222), some (.builtin "ValueError.__new__"), some (.bool true)]⟩) ::
  (nat_lit 52, oc "is_whole" 232 "is_whole" 233 234 10 2 3 [(.ref 47), (.bool true), (vi 181), (.ref 48), .none, (.ref 49), (.ref 50), (.ref 51)] 237 10 238) ::
  (nat_lit 53, of "is_whole" "is_whole" (top 5) "whence.plain" 230 52) ::
  (nat_lit 66, oc "__init__" 254 "Lows.__init__" 255 256 15 2 3 [(.ref 61), (.bool true), (vi 181), (.ref 62), .none, (.ref 63), (.ref 64), (.ref 65)] 259 15 260) ::
  (nat_lit 67, of "__init__" "Lows.__init__" (inClass (top 7) 0) "whence.ways" 240 66) ::
  (nat_lit 73, oc "plus" 262 "Lows.plus" 263 264 22 3 3 [(.ref 68), (.bool true), (vi 181), (.ref 69), .none, (.ref 70), (.ref 71), (.ref 72)] 268 22 269) ::
  (nat_lit 74, of "plus" "Lows.plus" (inClass (top 7) 1) "whence.ways" 240 73) ::
  (nat_lit 78, oc "times" 271 "Lows.times" 272 273 25 3 3 [(.ref 75), (.bool true), (vi 181), (.ref 76), .none, .none, .none, (.ref 77)] 274 25 275) ::
  (nat_lit 79, of "times" "Lows.times" (inClass (top 7) 2) "whence.ways" 240 78) ::
  (nat_lit 85, oc "is_mark" 277 "Lows.is_mark" 278 279 31 2 3 [(.ref 80), (.bool true), (vi 181), (.ref 81), .none, (.ref 82), (.ref 83), (.ref 84)] 282 31 283) ::
  (nat_lit 86, of "is_mark" "Lows.is_mark" (inClass (top 7) 3) "whence.ways" 240 85) ::
  (nat_lit 88, od 4 [de P "__module__" 249 (vs "whence.ways" 240),
   de P "__firstlineno__" 253 (.int 13 252),
   de P "__init__" 261 (.ref 67),
   de P "plus" 270 (.ref 74),
   de P "times" 276 (.ref 79),
   de P "is_mark" 284 (.ref 86),
   de P "__static_attributes__" 288 (.ref 87),
   de P "__dict__" 290 (.ref 90),
   de P "__weakref__" 292 (.ref 91),
   de P "__doc__" 293 .none]) ::
  (nat_lit 89, ⟨(.type "type"), none, .cls ⟨"Lows", [(.type "object")], [(.ref 89), (.type "object")], 88, "Lows", true, [], [], false, none, false⟩, #[none, none, some (vs "Lows" 242), some (vs "Lows" 250), some (.builtin "object.__new__"), some (.bool true)]⟩) ::
  (nat_lit 90, ofd "getset_descriptor" [(vs "__dict__" 289), (.ref 89), (.builtin "function.__dict__"), (.builtin "function.__dict__#set")]) ::
  (nat_lit 91, ofd "getset_descriptor" [(vs "__weakref__" 291), (.ref 89), (.builtin "ExceptionGroup.__weakref__"), .none]) ::
  (nat_lit 99, oc "_law_at" 298 "_law_at" 299 300 34 2 3 [(.ref 94), (.bool true), (vi 181), (.ref 95), .none, (.ref 96), (.ref 97), (.ref 98)] 303 34 304) ::
  (nat_lit 100, of "_law_at" "_law_at" (top 9) "law_whence_k05_lows" 296 99) ::
  (nat_lit 106, oc "_law_same" 306 "_law_same" 307 308 38 2 3 [(.ref 101), (.bool true), (vi 181), (.ref 102), .none, (.ref 103), (.ref 104), (.ref 105)] 312 38 313) ::
  (nat_lit 107, of "_law_same" "_law_same" (top 10) "law_whence_k05_lows" 296 106) ::
  (nat_lit 113, oc "_law_number" 315 "_law_number" 316 317 53 1 3 [(.ref 108), (.bool true), (vi 181), (.ref 109), .none, (.ref 110), (.ref 111), (.ref 112)] 319 53 320) ::
  (nat_lit 114, of "_law_number" "_law_number" (top 11) "law_whence_k05_lows" 296 113) ::
  (nat_lit 120, oc "_law_lows" 322 "_law_lows" 323 324 59 2 3 [(.ref 115), (.bool true), (vi 181), (.ref 116), .none, (.ref 117), (.ref 118), (.ref 119)] 329 59 330) ::
  (nat_lit 121, of "_law_lows" "_law_lows" (top 12) "law_whence_k05_lows" 296 120) ::
  (nat_lit 127, oc "_law_sums" 332 "_law_sums" 333 334 64 2 3 [(.ref 122), (.bool true), (vi 181), (.ref 123), .none, (.ref 124), (.ref 125), (.ref 126)] 340 64 341) ::
  (nat_lit 128, of "_law_sums" "_law_sums" (top 13) "law_whence_k05_lows" 296 127) ::
  (nat_lit 134, oc "_law_refused" 343 "_law_refused" 344 345 70 1 3 [(.ref 129), (.bool true), (vi 181), (.ref 130), .none, (.ref 131), (.ref 132), (.ref 133)] 349 70 350) ::
  (nat_lit 135, of "_law_refused" "_law_refused" (top 14) "law_whence_k05_lows" 296 134) ::
  (nat_lit 141, oc "law" 352 "law" 353 354 77 1 3 [(.ref 136), (.bool true), (vi 181), (.ref 137), .none, (.ref 138), (.ref 139), (.ref 140)] 366 77 367) ::
  (nat_lit 142, of "law" "law" (top 15) "law_whence_k05_lows" 296 141) :: []
noncomputable def fas : List Addr := [2, 3, 6, 20, 21, 30, 31, 32, 43, 44, 52, 53, 66, 67, 73, 74, 78, 79, 85, 86, 88, 89, 90, 91, 99, 100, 106, 107, 113, 114, 120, 121, 127, 128, 134, 135, 141, 142]
theorem fas_ok : ∀ P, fas = (frag P).map (·.1) := fun P => by kernel_rfl
noncomputable def vw : Program := view PySem.Challenge.pw_whence_k05_lows [0, 2, 3, 5, 7, 9, 10, 11, 12, 13, 14, 15]
noncomputable abbrev hook : Hook := kHook frag fas fas_ok
set_option maxHeartbeats 0 in
theorem left : LeftO PySem.Challenge.pw_whence_k05_lows vw [] (fun s => xlAt vw [] s && recOk (RowW.records PySem.Challenge.rw_whence_k05_lows.row.toRowW) s) (Hook.obs hook) (Hook.val hook) 2198 := by
  refine left_of (boot_open (by kernel_rfl) (by decide +kernel) (fun s => by kernel_rfl)) fun w => ?_
  rw [Fast.te5923862056798008813, Fast.te4187177175401517315, Fast.te6613529449190102663, Fast.te10156331382660048174, Fast.te11892475500146522536, Fast.te14364793385576792824]
  kernel_rfl
noncomputable def adr : Adr := { C_Lows := 89, X_WhenceError := 31, X_NoWay := 44, f_is_whole := 53, f_Lows___init__ := 67, f_Lows_plus := 74, f_Lows_times := 79, f_law_at := 100, f_law_same := 107, f_law_number := 114, f_law_lows := 121, f_law_sums := 128, f_law_refused := 135, f_law := 142 }
set_option maxHeartbeats 0 in
theorem txt {P : Params} {h : Heap} {mg : Str → Option Value} (X : (frag P).In h) (G : h.Ns mainGlobals mg) : Txt (frag P) mg adr where
  g_Lows := mg_of X G (by kernel_rfl)
  cl_Lows := ⟨by kernel_rfl, by kernel_rfl, by kernel_rfl, by kernel_rfl⟩
  mk_Lows := ⟨by kernel_rfl, by kernel_rfl, by kernel_rfl, by kernel_rfl⟩
  me_Lows_plus := ⟨by kernel_rfl, by kernel_rfl, by kernel_rfl⟩
  me_Lows_times := ⟨by kernel_rfl, by kernel_rfl, by kernel_rfl⟩
  g_WhenceError := mg_of X G (by kernel_rfl)
  xi_WhenceError := by kernel_rfl
  g_NoWay := mg_of X G (by kernel_rfl)
  xi_NoWay := by kernel_rfl
  xk_NoWay_ValueError := by kernel_rfl
  xk_NoWay_WhenceError := by kernel_rfl
  xm_NoWay_NoWay := by kernel_rfl
  xm_WhenceError_NoWay := by kernel_rfl
  xm_WhenceError_WhenceError := by kernel_rfl
  nx_NoWay_WhenceError := by decide
  nf_many := fun C hC => by
    simp only [cs, decide_eq_true_eq] at hC
    subst hC
    all_goals exact ⟨⟨by kernel_rfl, by kernel_rfl, by kernel_rfl, by kernel_rfl⟩, by unfold NoAttr; kernel_rfl⟩
  nf_nought := fun C hC => by
    simp only [cs, decide_eq_true_eq] at hC
    subst hC
    all_goals exact ⟨⟨by kernel_rfl, by kernel_rfl, by kernel_rfl, by kernel_rfl⟩, by unfold NoAttr; kernel_rfl⟩
  nf_one := fun C hC => by
    simp only [cs, decide_eq_true_eq] at hC
    subst hC
    all_goals exact ⟨⟨by kernel_rfl, by kernel_rfl, by kernel_rfl, by kernel_rfl⟩, by unfold NoAttr; kernel_rfl⟩
  F_is_whole := fo (m := "whence.plain") (mt := 230) (c := 52) ["thing", "least"] (by kernel_rfl) (by kernel_rfl) (by kernel_rfl) fun _ _ _ _ _ _ us hl => by obtain ⟨_, _, rfl⟩ := PU.ar2 us hl; rfl
  g_is_whole := mg_of X G (by kernel_rfl)
  F_Lows___init__ := fo (m := "whence.ways") (mt := 240) (c := 66) ["self", "many"] (by kernel_rfl) (by kernel_rfl) (by kernel_rfl) fun _ _ _ _ _ _ us hl => by obtain ⟨_, _, rfl⟩ := PU.ar2 us hl; rfl
  F_Lows_plus := fo (m := "whence.ways") (mt := 240) (c := 73) ["self", "a", "b"] (by kernel_rfl) (by kernel_rfl) (by kernel_rfl) fun _ _ _ _ _ _ us hl => by obtain ⟨_, _, _, rfl⟩ := PU.ar3 us hl; rfl
  F_Lows_times := fo (m := "whence.ways") (mt := 240) (c := 78) ["self", "a", "b"] (by kernel_rfl) (by kernel_rfl) (by kernel_rfl) fun _ _ _ _ _ _ us hl => by obtain ⟨_, _, _, rfl⟩ := PU.ar3 us hl; rfl
  F_law_at := fo (m := "law_whence_k05_lows") (mt := 296) (c := 99) ["_law_script", "_law_k"] (by kernel_rfl) (by kernel_rfl) (by kernel_rfl) fun _ _ _ _ _ _ us hl => by obtain ⟨_, _, rfl⟩ := PU.ar2 us hl; rfl
  g_law_at := mg_of X G (by kernel_rfl)
  F_law_same := fo (m := "law_whence_k05_lows") (mt := 296) (c := 106) ["_law_found", "_law_due"] (by kernel_rfl) (by kernel_rfl) (by kernel_rfl) fun _ _ _ _ _ _ us hl => by obtain ⟨_, _, rfl⟩ := PU.ar2 us hl; rfl
  g_law_same := mg_of X G (by kernel_rfl)
  F_law_number := fo (m := "law_whence_k05_lows") (mt := 296) (c := 113) ["_law_cell"] (by kernel_rfl) (by kernel_rfl) (by kernel_rfl) fun _ _ _ _ _ _ us hl => by obtain ⟨_, rfl⟩ := PU.ar1 us hl; rfl
  g_law_number := mg_of X G (by kernel_rfl)
  F_law_lows := fo (m := "law_whence_k05_lows") (mt := 296) (c := 120) ["_law_cell", "_law_many"] (by kernel_rfl) (by kernel_rfl) (by kernel_rfl) fun _ _ _ _ _ _ us hl => by obtain ⟨_, _, rfl⟩ := PU.ar2 us hl; rfl
  g_law_lows := mg_of X G (by kernel_rfl)
  F_law_sums := fo (m := "law_whence_k05_lows") (mt := 296) (c := 127) ["_law_a", "_law_b"] (by kernel_rfl) (by kernel_rfl) (by kernel_rfl) fun _ _ _ _ _ _ us hl => by obtain ⟨_, _, rfl⟩ := PU.ar2 us hl; rfl
  g_law_sums := mg_of X G (by kernel_rfl)
  F_law_refused := fo (m := "law_whence_k05_lows") (mt := 296) (c := 134) ["_law_thing"] (by kernel_rfl) (by kernel_rfl) (by kernel_rfl) fun _ _ _ _ _ _ us hl => by obtain ⟨_, rfl⟩ := PU.ar1 us hl; rfl
  g_law_refused := mg_of X G (by kernel_rfl)
  F_law := fo (m := "law_whence_k05_lows") (mt := 296) (c := 141) ["_law_script"] (by kernel_rfl) (by kernel_rfl) (by kernel_rfl) fun _ _ _ _ _ _ us hl => by obtain ⟨_, rfl⟩ := PU.ar1 us hl; rfl
  g_law := mg_of X G (by kernel_rfl)
  b_ValueError := mg_none_of X G (by kernel_rfl)
  b_bool := mg_none_of X G (by kernel_rfl)
  b_int := mg_none_of X G (by kernel_rfl)
  b_isinstance := mg_none_of X G (by kernel_rfl)
  b_len := mg_none_of X G (by kernel_rfl)
  b_list := mg_none_of X G (by kernel_rfl)
  b_min := mg_none_of X G (by kernel_rfl)
  b_range := mg_none_of X G (by kernel_rfl)
  b_sorted := mg_none_of X G (by kernel_rfl)
  b_str := mg_none_of X G (by kernel_rfl)
  b_tuple := mg_none_of X G (by kernel_rfl)
end K05
set_option Elab.async false
set_option linter.all false
set_option maxRecDepth 100000
set_option maxHeartbeats 4000000
namespace K05
open PySem PySem.Spec PyProof.Rows L2 L2.PU
noncomputable def spLaw (K : PySem.W.Frag) : Sp := fun vs H Q _ => ∃ (a : Addr) (ns : List Int), vs = [.ref a] ∧ SqL K H a (ns.map V.int) ∧ ns.length ≤ 63 ∧ ∀ H', Q (.bl true) H'
theorem walk {l : PySem.W.OpenLaw} {q : Program} {loose : List Str} {XP : (Str → Option Value) → Heap → Prop} {YP : World → Heap → Prop} {d : DefRec} {K : Params → PySem.W.Frag} (hn : l.most = some 63) (hdf : d.params.defaults = []) (hnm : d.name = "law")
    (hY : ∀ (w : World) (h : Heap), YP w h → (K w.params).In h)
    (T : ∀ (w : World) (mg : Str → Option Value) (h : Heap), (K w.params).In h → h.Ns mainGlobals mg → ∃ t, Txt (K w.params) mg t) :
    PySem.W.WalkO q loose XP YP l.row.toRowW d [] (fun f vs => PySem.call f vs) := by
  refine L2.walk_of (n := 63) (k := 9) (x := "_law_script") (CX := fun w => CXD l.prog w) (sp := fun w => spLaw (K w.params)) hn (by decide) hdf ⟨rfl, by decide, by decide⟩ hY (fun w mg fa h KX G hmg => ?_) (fun _ _ a ns hl _ hS => ⟨a, ns, rfl, hS, hl, fun _ => rfl⟩) (fun w H s e s' ⟨_, _, _, _, _, _, _, _, z⟩ => z)
  obtain ⟨t, T⟩ := T w mg h KX G
  have e := hmg.symm.trans ((congrArg mg hnm).trans T.g_law)
  cases e
  obtain ⟨fd, Fu, bi⟩ := T.F_law
  refine ⟨fd, fun s v => ?_, fun base _ _ => ?_⟩
  · obtain ⟨oc, od, kV, doc, pm, an, cdv, ct, osl, rfl, lk, hcd⟩ := Fu.ex
    exact .of_eq rfl
  · refine (law_fn (P := l.prog) (w := w) (base := base) T Fu).imp fun vs H Q E ⟨a, ns, e1, hS, hl, q⟩ => ?_
    subst e1
    refine ⟨[.lst (ns.map D.int)], .cons (.lst hS (isL_ints ns)) .nil, rfl, ?_⟩
    rw [tt_ok (show sLawS _ from ⟨ns, rfl, hl⟩)]
    intro v H' s' i'
    cases i'
    exact q H'
end K05
open PySem PySem.W PyProof.Rows
set_option maxRecDepth 100000 in
set_option maxHeartbeats 0 in
theorem PySem.Challenge.cw_whence_k05_lows_holds : PySem.Challenge.rw_whence_k05_lows.Holds := by
  w_on; o_law
  refine L2.HD.holds_of (l := PySem.Challenge.rw_whence_k05_lows) (q := K05.vw) K05.left (by first | assumption | decide +kernel) (by rfl) (by rfl) (by rfl) (by rfl) (by decide +kernel) ⟨rfl, rfl, rfl, rfl, rfl, by decide +kernel⟩ ?hw ?hc
  (case hw => w_witness2)
  exact K05.walk (l := PySem.Challenge.rw_whence_k05_lows) rfl rfl rfl (fun w h Y => PySem.W.kIn_of Y) fun w mg h KX G => ⟨_, K05.txt KX G⟩
