import PyProof.Rows.All
import Wide.All
import OpenK.AllK
import Wide.FinOn
import Lean
import PyProof.EqAt
import PyProof.EqKinds
import PyProof.TupleCall
import PySem.Challenge.RW_whence_k09_sums
set_option Elab.async false
set_option linter.all false
set_option bootstrap.genMatcherCode false
set_option maxRecDepth 100000
/-! THE HAND LAYER, for ints, bools, texts, own classes, LISTS and tuples (index, slices, in, append, pop ..), calls, loops. Paste it whole ahead of your own text; what your proof does not reach may be deleted. -/
namespace L2
open PySem PySem.Spec PyProof.Rows

/-- a key: an int or a str -/
noncomputable abbrev Key := Sum Int Str
noncomputable def keyIs : Key → Value → Bool
  | .inl k, v => Value.isInt k v
  | .inr x, v => Value.isStrOf x v
noncomputable def keyH (w : World) : Key → Int
  | .inl k => hashInt k
  | .inr x => hashStr w x
theorem keyIs_shape : ∀ {k : Key} {v : Value}, keyIs k v = true → (∃ i t, k = Sum.inl i ∧ v = Value.int i t) ∨ (∃ x t, k = Sum.inr x ∧ v = Value.str x t)
  | .inl i, v, h => by
    obtain ⟨t, e⟩ := Value.isInt_shape (k := i) (v := v) h
    exact .inl ⟨i, t, rfl, e⟩
  | .inr x, v, h => by
    obtain ⟨t, e⟩ := Value.isStrOf_shape (x := x) (v := v) h
    exact .inr ⟨x, t, rfl, e⟩
theorem keyIs_int (i : Int) (t : Tok) : keyIs (.inl i) (.int i t) = true := by simp [keyIs, Value.isInt]
theorem keyIs_str (x : Str) (t : Tok) : keyIs (.inr x) (.str x t) = true := by simp [keyIs, Value.isStrOf]
theorem key_ll (a b : Int) : decide ((Sum.inl a : Key) = Sum.inl b) = (a == b) := by
  by_cases e : a = b
  · subst e; simp
  · have h : ¬ (Sum.inl a : Key) = Sum.inl b := fun q => e (Sum.inl.inj q)
    rw [decide_eq_false h]
    exact (beq_eq_false_iff_ne.mpr e).symm
theorem key_rr (a b : Str) : decide ((Sum.inr a : Key) = Sum.inr b) = decide (a = b) := by
  by_cases e : a = b
  · subst e; simp
  · have h : ¬ (Sum.inr a : Key) = Sum.inr b := fun q => e (Sum.inr.inj q)
    rw [decide_eq_false h, decide_eq_false e]
theorem key_lr (a : Int) (b : Str) : decide ((Sum.inl a : Key) = Sum.inr b) = false := decide_eq_false (fun q => nomatch q)
theorem key_rl (a : Str) (b : Int) : decide ((Sum.inr a : Key) = Sum.inl b) = false := decide_eq_false (fun q => nomatch q)

noncomputable def mixKind (prog : Program) (w : World) : PySem.KeyKind prog w Key where
  is := keyIs
  hash := keyH w
  inj := fun v a b ha hb => by
    rcases keyIs_shape ha with ⟨i, t, rfl, rfl⟩ | ⟨x, t, rfl, rfl⟩
    · rcases keyIs_shape hb with ⟨j, u, rfl, e⟩ | ⟨y, u, rfl, e⟩
      · injection e with e1 _; rw [e1]
      · exact nomatch e
    · rcases keyIs_shape hb with ⟨j, u, rfl, e⟩ | ⟨y, u, rfl, e⟩
      · exact nomatch e
      · injection e with e1 _; rw [e1]
  byValue := fun k v h => by
    rcases keyIs_shape h with ⟨i, t, rfl, rfl⟩ | ⟨x, t, rfl, rfl⟩ <;> rfl
  pyHash := fun hv h => by
    rcases keyIs_shape hv with ⟨i, t, rfl, rfl⟩ | ⟨x, t, rfl, rfl⟩
    · exact wpAny_pyHash_int h
    · exact wpAny_pyHash_str h
  eqBool := fun hu hv h => by
    rcases keyIs_shape hu with ⟨i, t, rfl, rfl⟩ | ⟨x, t, rfl, rfl⟩
    · rcases keyIs_shape hv with ⟨j, u, rfl, rfl⟩ | ⟨y, u, rfl, rfl⟩
      · rw [key_ll] at h; exact wpAny_eqBool_int h
      · rw [key_lr] at h; exact SeqAt.EqAt.int_str i t y u _ _ _ _ h
    · rcases keyIs_shape hv with ⟨j, u, rfl, rfl⟩ | ⟨y, u, rfl, rfl⟩
      · rw [key_rl] at h; exact SeqAt.EqAt.str_int x t j u _ _ _ _ h
      · rw [key_rr] at h; exact wpAny_eqBool_str h
  «strs» := fun k x t v h => by
    rcases keyIs_shape h with ⟨i, u, rfl, e⟩ | ⟨y, u, rfl, e⟩
    · exact nomatch e
    · injection e with e1 _
      subst e1
      cases v <;> rfl

theorem mixKind_int (prog : Program) (w : World) (i : Int) (t : Tok) : (mixKind prog w).is (.inl i) (.int i t) = true := keyIs_int i t
theorem mixKind_str (prog : Program) (w : World) (x : Str) (t : Tok) : (mixKind prog w).is (.inr x) (.str x t) = true := keyIs_str x t
end L2

namespace L2
open PySem PySem.Spec PyProof.Rows

/-- a value, without the heap -/
inductive V where
  | non | bl (b : Bool) | int (i : Int) | str (x : Str) | byt (b : Array UInt8) | flt (b : UInt64) | ref (a : Addr) | ty (n : String)
  deriving DecidableEq

noncomputable def RelV : V → Value → Prop
  | .non, u => u = Value.none
  | .bl b, u => u = Value.bool b
  | .int i, u => ∃ t, u = Value.int i t
  | .str x, u => ∃ t, u = Value.str x t
  | .byt b, u => ∃ t, u = Value.bytes b t
  | .flt b, u => ∃ t, u = Value.float b t
  | .ref a, u => u = Value.ref a
  | .ty n, u => u = Value.type n

noncomputable abbrev Vals : List V → List Value → Prop := Paired RelV
theorem Vals.length {xs : List V} {us : List Value} (r : Vals xs us) : xs.length = us.length := Paired.length r
theorem Vals.get : ∀ {xs : List V} {us : List Value} {i : Nat} {x : V}, Vals xs us → xs[i]? = some x → ∃ u, us[i]? = some u ∧ RelV x u
  | _, _, _, _, .nil, e => by simp at e
  | _, _, 0, _, .cons r _, e => by simp at e; subst e; exact ⟨_, rfl, r⟩
  | _, _, i + 1, x, .cons _ t, e => by
    obtain ⟨u, h1, h2⟩ := Vals.get (i := i) (x := x) t (by simpa using e)
    exact ⟨u, by simpa using h1, h2⟩
theorem Vals.set {x : V} {u : Value} (r : RelV x u) : ∀ {xs : List V} {us : List Value} (i : Nat), Vals xs us → Vals (xs.set i x) (us.set i u)
  | _, _, _, .nil => .nil
  | _, _, 0, .cons _ t => .cons r t
  | _, _, i + 1, .cons q t => .cons q (Vals.set r i t)
theorem Vals.append : ∀ {xs ys : List V} {us ws : List Value}, Vals xs us → Vals ys ws → Vals (xs ++ ys) (us ++ ws)
  | _, _, _, _, .nil, s => s
  | _, _, _, _, .cons r t, s => .cons r (Vals.append t s)
theorem Vals.take : ∀ {xs : List V} {us : List Value} (n : Nat), Vals xs us → Vals (xs.take n) (us.take n)
  | _, _, 0, _ => .nil
  | _, _, _ + 1, .nil => .nil
  | _, _, n + 1, .cons r t => .cons r (Vals.take n t)
theorem Vals.drop : ∀ {xs : List V} {us : List Value} (n : Nat), Vals xs us → Vals (xs.drop n) (us.drop n)
  | _, _, 0, r => r
  | _, _, _ + 1, .nil => .nil
  | _, _, n + 1, .cons _ t => Vals.drop n t
theorem Vals.none_of : ∀ {xs : List V} {us : List Value} {i : Nat}, Vals xs us → xs[i]? = none → us[i]? = none := fun {xs us i} r e => by
  have h1 := r.length
  have h2 : xs.length ≤ i := List.getElem?_eq_none_iff.mp e
  exact List.getElem?_eq_none_iff.mpr (by omega)

noncomputable def RelO : Option V → Option Value → Prop
  | some v, some u => RelV v u
  | none, none => True
  | _, _ => False
noncomputable def KV {κ : Type} : List (κ × V) → List (κ × Value) → Prop := Paired fun (p : κ × V) (q : κ × Value) => p.1 = q.1 ∧ RelV p.2 q.2

/-- a key of a dict (00_mix): an int or a text -/
noncomputable def kV : Key → V
  | .inl i => .int i
  | .inr x => .str x

/-- what stands at a tracked address -/
inductive HO where
  /-- a list -/
  | lst (xs : List V)
  /-- a tuple (never changes) -/
  | tup (xs : List V)
  /-- a dict whose keys are ints and texts; one whose keys are tuples of ints and texts (the empty one is both) -/
  | dK (kvs : List (Key × V)) | dT (kvs : List (List Key × V))
  /-- a set of texts: its members, its size -/
  | set (S : Str → Bool) (n : Nat)
  /-- an instance of the class at C, its dict at dx, its attributes -/
  | ins (C dx : Addr) (fs : List (Str × V))
  /-- the dict of the instance at x -/
  | own (x : Addr)
  /-- the dict of an exception -/
  | xd (fs : List (Str × V))
  /-- a bound method, f of x -/
  | met (f x : Addr)
  /-- a range object lo, lo + 1, .. below hi -/
  | rng (lo hi : Int)
  /-- a thing that is known to the object (the script; a dict while a loop walks it): read, never written while it is so -/
  | frz (o : Obj) (u : HO)
  /-- a code object's table -/
  | tbl (ps : Array Value)
  /-- any other thing, by what is true of its one object (a def of one's own: SetO a S n := HO.ext fun h => ..) -/
  | ext (φ : Heap → Prop)

noncomputable abbrev Hp := Addr → Option HO
noncomputable def upd (H : Hp) (a : Addr) (o : HO) : Hp := fun b => if b = a then some o else H b
theorem upd_same {H : Hp} {a : Addr} {o : HO} : upd H a o a = some o := by unfold upd; rw [if_pos rfl]
theorem upd_ne {H : Hp} {a b : Addr} {o : HO} (h : b ≠ a) : upd H a o b = H b := by unfold upd; rw [if_neg h]
/-- two objects of different content stand apart -/
theorem ne_of {H : Hp} {a b : Addr} {o u : HO} (h : H a = some o) (h' : H b = some u) (d : o ≠ u) : a ≠ b := by
  intro e; subst e; rw [h] at h'; exact d (Option.some.inj h')
theorem ne_of_none {H : Hp} {a b : Addr} {o : HO} (h : H a = some o) (h' : H b = none) : a ≠ b := by
  intro e; subst e; rw [h] at h'; cases h'

/-- a set that may be walked: the order is by text, or its maker is led; and no text in it stands at a plain place -/
noncomputable def TxtO (w : World) (o : Obj) : Prop := ∃ es ep t, o.data = .set es ep t ∧ (w.params.followText "set-order" = true ∨ t.led = true) ∧ (es.size = 0 ∨ t.plain = false)
noncomputable def Txts (w : World) (h : Heap) (a : Addr) : Prop := ∃ o, h.get? a = some o ∧ TxtO w o
/-- a tuple's object, without a dict -/
noncomputable def TupD (h : Heap) (a : Addr) (its : Array Value) : Prop := ∃ o, h.get? a = some o ∧ o.cls = .type "tuple" ∧ (∃ n, o.data = .seq its n) ∧ o.dict = none
theorem TupD.tup {h : Heap} {a : Addr} {its : Array Value} (x : TupD h a its) : IsTup h a its := let ⟨o, e, c, d, _⟩ := x; ⟨o, e, c, d⟩
theorem TupD.lt {h : Heap} {a : Addr} {its : Array Value} (x : TupD h a its) : a < h.objs.size := let ⟨_, e, _⟩ := x; Heap.lt_size e
theorem TupD.new (h : Heap) (its : Array Value) : TupD (h.push { cls := .type "tuple", data := .seq its }) h.objs.size its := ⟨_, Heap.get?_push_size _ rfl, rfl, ⟨_, rfl⟩, rfl⟩
section
variable (P : Program) (w : World)
noncomputable def ObjOk (H : Hp) (h : Heap) (a : Addr) : HO → Prop
  | .lst xs => xs.length ≤ sizeLine ∧ ∃ (its : List Value) (n : Nat), Vals xs its ∧ h.get? a = some { cls := .type "list", data := .seq its.toArray n }
  | .tup xs => xs.length ≤ sizeLine ∧ ∃ its : List Value, Vals xs its ∧ TupD h a its.toArray
  | .dK kvs => kvs.length ≤ sizeLine ∧ (a == sysModules) = false ∧ ∃ vs, KV kvs vs ∧ h.DictOf (mixKind P w) a vs
  | .dT kvs => kvs.length ≤ sizeLine ∧ (a == sysModules) = false ∧ ∃ xs : List (List Key × Addr × Value),
      Paired (fun (p : List Key × V) (q : List Key × Addr × Value) => p.1 = q.1 ∧ H q.2.1 = some (.tup (p.1.map kV)) ∧ RelV p.2 q.2.2) kvs xs ∧
      ∃ o es ep, h.get? a = some o ∧ o.ExactDict ∧ o.data = .dict es ep ∧ es.toList = xs.map (entryOfKey (tupleKind (mixKind P w))) ∧ (xs.map (·.1)).Nodup
  | .set S n => h.SetOf (PySem.strKind P w) a S n ∧ Txts w h a
  | .ins C dx fs => H dx = some (.own a) ∧ fs.length ≤ 1000 ∧ dx ≠ a ∧ h.get? a = some (PySem.W.instObj C dx) ∧
      ∃ mA, h.Ns1 dx mA ∧ (∀ f, RelO (fs.lookup f) (mA f)) ∧ PySem.Within mA (fs.map (·.1))
  | .own _ => ∃ o, h.get? a = some o
  | .xd fs => ∃ mA, h.Ns1 a mA ∧ ∀ f, RelO (fs.lookup f) (mA f)
  | .rng lo hi => ∃ t u v, h.get? a = some { cls := .type "range", data := .fields #[.int lo t, .int hi u, .int 1 v] }
  | .frz o u => h.get? a = some o ∧ ObjOk H h a u
  | .tbl ps => h.get? a = some { cls := .none, data := .fields ps }
  | .met f x => h.get? a = some (PySem.W.methodObj (.ref f) (.ref x))
  | .ext φ => φ h ∧ (∃ o, h.get? a = some o) ∧ ∀ h1 h2 : Heap, φ h1 → (∀ o, h1.get? a = some o → h2.get? a = some o) → φ h2
/-- the abstract heap is held -/
noncomputable def HOk (H : Hp) (h : Heap) : Prop := ∀ a o, H a = some o → ObjOk P w H h a o
end

section
variable {P : Program} {w : World} {H H' : Hp} {h h' : Heap} {a : Addr} {o : HO}
theorem ObjOk.lt (x : ObjOk P w H h a o) : a < h.objs.size := by
  cases o with
  | lst xs => obtain ⟨_, _, _, _, e⟩ := x; exact Heap.lt_size e
  | tup xs => obtain ⟨_, _, _, p⟩ := x; exact p.lt
  | dK kvs => obtain ⟨_, _, _, _, o, _, _, e, _⟩ := x; exact Heap.lt_size e
  | dT kvs => obtain ⟨_, _, _, _, o, _, _, e, _⟩ := x; exact Heap.lt_size e
  | set S n => obtain ⟨⟨o, _, _, _, e, _⟩, _⟩ := x; exact Heap.lt_size e
  | ins C dx fs => obtain ⟨_, _, _, e, _⟩ := x; exact Heap.lt_size e
  | own y => obtain ⟨_, e⟩ := x; exact Heap.lt_size e
  | xd fs => obtain ⟨_, ⟨_, _, _, e, _⟩, _⟩ := x; exact Heap.lt_size e
  | rng lo hi => obtain ⟨_, _, _, e⟩ := x; exact Heap.lt_size e
  | frz ob u => obtain ⟨e, _⟩ := x; exact Heap.lt_size e
  | tbl ps => exact Heap.lt_size (show h.get? a = some _ from x)
  | met f y => exact Heap.lt_size (show h.get? a = some _ from x)
  | ext φ => obtain ⟨_, ⟨_, e⟩, _⟩ := x; exact Heap.lt_size e
theorem Paired.mapP {α β : Type} {F G : α → β → Prop} : ∀ {l₁ : List α} {l₂ : List β}, Paired F l₁ l₂ → (∀ a b, F a b → G a b) → Paired G l₁ l₂
  | _, _, .nil, _ => .nil
  | _, _, .cons r t, f => .cons (f _ _ r) (Paired.mapP t f)
/-- what an object's description leans on: its own object, its own dict, the tuples -/
theorem ObjOk.stay (x : ObjOk P w H h a o) (k : ∀ b u, (b = a ∨ H b = some (.own a)) → h.get? b = some u → h'.get? b = some u)
    (ho : ∀ b, H b = some (.own a) → H' b = some (.own a)) (ht : ∀ b xs, H b = some (.tup xs) → H' b = some (.tup xs)) : ObjOk P w H' h' a o := by
  induction o with
  | lst xs => obtain ⟨z, its, n, r, e⟩ := x; exact ⟨z, its, n, r, k _ _ (.inl rfl) e⟩
  | tup xs => obtain ⟨z, its, r, ob, e, c⟩ := x; exact ⟨z, its, r, ob, k _ _ (.inl rfl) e, c⟩
  | dK kvs => obtain ⟨z, y, vs, r, ob, es, ep, e, c⟩ := x; exact ⟨z, y, vs, r, ob, es, ep, k _ _ (.inl rfl) e, c⟩
  | dT kvs =>
    obtain ⟨z, y, xs, r, ob, es, ep, e, c⟩ := x
    exact ⟨z, y, xs, Paired.mapP r fun p q z => ⟨z.1, ht _ _ z.2.1, z.2.2⟩, ob, es, ep, k _ _ (.inl rfl) e, c⟩
  | set S n => obtain ⟨⟨ob, es, ep, t, e, c⟩, o', e', c'⟩ := x; exact ⟨⟨ob, es, ep, t, k _ _ (.inl rfl) e, c⟩, o', k _ _ (.inl rfl) e', c'⟩
  | ins C dx fs =>
    obtain ⟨d, z, ne, e, mA, ⟨od, es, ep, e2, c⟩, r⟩ := x
    exact ⟨ho _ d, z, ne, k _ _ (.inl rfl) e, mA, ⟨od, es, ep, k _ _ (.inr d) e2, c⟩, r⟩
  | own y => obtain ⟨ob, e⟩ := x; exact ⟨ob, k _ _ (.inl rfl) e⟩
  | xd fs => obtain ⟨mA, ⟨od, es, ep, e, c⟩, r⟩ := x; exact ⟨mA, ⟨od, es, ep, k _ _ (.inl rfl) e, c⟩, r⟩
  | rng lo hi => obtain ⟨t, u, v, e⟩ := x; exact ⟨t, u, v, k _ _ (.inl rfl) e⟩
  | frz ob u ih => obtain ⟨e, q⟩ := x; exact ⟨k _ _ (.inl rfl) e, ih q⟩
  | tbl ps =>
    have e : h.get? a = some { cls := .none, data := .fields ps } := x
    show h'.get? a = some { cls := .none, data := .fields ps }
    exact k a _ (.inl rfl) e
  | met f y =>
    have e : h.get? a = some (PySem.W.methodObj (.ref f) (.ref y)) := x
    show h'.get? a = some (PySem.W.methodObj (.ref f) (.ref y))
    exact k a _ (.inl rfl) e
  | ext φ => obtain ⟨p, ⟨o, e⟩, st⟩ := x; exact ⟨st _ _ p fun o q => k _ _ (.inl rfl) q, ⟨o, k _ _ (.inl rfl) e⟩, st⟩
theorem HOk.lt (x : HOk P w H h) (e : H a = some o) : a < h.objs.size := (x a o e).lt
theorem HOk.fresh (x : HOk P w H h) (e : h.objs.size ≤ a) : H a = none := by
  cases q : H a with
  | none => rfl
  | some u => exact absurd (Nat.lt_of_lt_of_le (x.lt q) e) (Nat.lt_irrefl _)
/-- every object of the heap is kept -/
theorem HOk.kept (x : HOk P w H h) (k : ∀ b u, h.get? b = some u → h'.get? b = some u) : HOk P w H h' := fun a o e =>
  (x a o e).stay (fun b u _ q => k b u q) (fun _ q => q) fun _ _ q => q
/-- a new object is laid and tracked -/
theorem HOk.laid (x : HOk P w H h) (k : ∀ b u, h.get? b = some u → h'.get? b = some u) (hp : h.objs.size ≤ a) (new : ObjOk P w (upd H a o) h' a o) : HOk P w (upd H a o) h' := fun b u e => by
  have hn := x.fresh hp
  by_cases hb : b = a
  · subst hb; rw [upd_same] at e; cases e; exact new
  · rw [upd_ne hb] at e
    exact (x b u e).stay (fun c v _ q => k c v q) (fun c q => by rw [upd_ne (ne_of_none q hn)]; exact q) fun c xs q => by rw [upd_ne (ne_of_none q hn)]; exact q
end

/-- what may be read as u: it is u, or a known u -/
noncomputable def Rd (H : Hp) (a : Addr) (u : HO) : Prop := H a = some u ∨ ∃ o, H a = some (.frz o u)
theorem Rd.of {H : Hp} {a : Addr} {u : HO} (h : H a = some u) : Rd H a u := .inl h
theorem Rd.ok {P : Program} {w : World} {H : Hp} {h : Heap} {a : Addr} {u : HO} (r : Rd H a u) (x : HOk P w H h) : ObjOk P w H h a u := by
  rcases r with r | ⟨o, r⟩
  · exact x a u r
  · obtain ⟨_, q⟩ := x a _ r
    exact q
/-- what may be written -/
noncomputable def Mut : Option HO → Prop
  | some (.lst _) => True
  | some (.dK _) => True
  | some (.dT _) => True
  | some (.set _ _) => True
  | some (.ins _ _ _) => True
  | some (.ext _) => True
  | _ => False
section
variable {P : Program} {w : World} {H : Hp} {h h' : Heap} {x e : Addr} {o' : HO}
/-- the object at e is changed: x itself, or the dict of the instance x -/
theorem HOk.write (ok : HOk P w H h) (mu : Mut (H x)) (he : e = x ∨ H e = some (.own x)) (k : ∀ b u, b ≠ e → h.get? b = some u → h'.get? b = some u) (heo : ∃ u, h'.get? e = some u)
    (new : ObjOk P w (upd H x o') h' x o') : HOk P w (upd H x o') h' := fun b u q => by
  have nown : ∀ c y, H c = some (.own y) → c ≠ x := fun c y r z => by subst z; rw [r] at mu; exact mu
  have ntup : ∀ c xs, H c = some (.tup xs) → c ≠ x := fun c xs r z => by subst z; rw [r] at mu; exact mu
  by_cases hb : b = x
  · subst hb; rw [upd_same] at q; cases q; exact new
  · rw [upd_ne hb] at q
    by_cases hbe : b = e
    · have q' : H b = some (.own x) := by
        rcases he with z | z
        · exact absurd (hbe.trans z) hb
        · rw [hbe]; exact z
      rw [q] at q'; cases q'
      obtain ⟨v, hv⟩ := heo
      exact ⟨v, by rw [hbe]; exact hv⟩
    · refine (ok b u q).stay (fun c v hc r => k c v ?_ r) (fun c r => by rw [upd_ne (nown c b r)]; exact r) fun c xs r => by rw [upd_ne (ntup c xs r)]; exact r
      rcases hc with rfl | hc
      · exact hbe
      · rintro rfl
        rcases he with z | z
        · exact nown c b hc z
        · rw [hc] at z; cases z; exact hb rfl
end

/-! ### kept unless tracked; of the frames at fs (the callers') the slots may change (an exception that passes writes there); of the records at ex (iterators) nothing is said -/
structure Un (fs ex : List Addr) (H H' : Hp) (h h' : Heap) : Prop where
  keep : ∀ b o, h.get? b = some o → H b = none → b ∉ fs → b ∉ ex → h'.get? b = some o
  slot : ∀ b o, h.get? b = some o → H b = none → b ∈ fs → b ∉ ex → ∃ sl, h'.get? b = some { o with slots := sl }
  free : ∀ b o, h.get? b = some o → H b = none → b ∉ ex → H' b = none
  there : ∀ b o, h.get? b = some o → b ∉ ex → ∃ o', h'.get? b = some o'
  tups : ∀ b xs, H b = some (.tup xs) → H' b = some (.tup xs)
  frzs : ∀ b o u, H b = some (.frz o u) → H' b = some (.frz o u)
  tbls : ∀ b ps, H b = some (.tbl ps) → ∃ more, H' b = some (.tbl (ps ++ more))
section
variable {fs fs' ex ex' : List Addr} {H H1 H2 : Hp} {h h1 h2 h' : Heap} {a x e : Addr} {o : HO}
theorem Un.any (u : Un fs ex H H1 h h1) {b : Addr} {ob : Obj} (q : h.get? b = some ob) (n : H b = none) (hx : b ∉ ex) : ∃ sl, h1.get? b = some { ob with slots := sl } := by
  by_cases hb : b ∈ fs
  · exact u.slot b ob q n hb hx
  · exact ⟨ob.slots, u.keep b ob q n hb hx⟩
theorem Un.trans (a : Un fs ex H H1 h h1) (b : Un fs ex H1 H2 h1 h2) : Un fs ex H H2 h h2 where
  keep := fun c ob q n hc hx => b.keep c ob (a.keep c ob q n hc hx) (a.free c ob q n hx) hc hx
  slot := fun c ob q n hc hx => by
    obtain ⟨sl, e1⟩ := a.slot c ob q n hc hx
    obtain ⟨sl', e2⟩ := b.slot c _ e1 (a.free c ob q n hx) hc hx
    exact ⟨sl', e2⟩
  free := fun c ob q n hx => by
    obtain ⟨o', e1⟩ := a.there c ob q hx
    exact b.free c o' e1 (a.free c ob q n hx) hx
  there := fun c ob q hx => by
    obtain ⟨o', e1⟩ := a.there c ob q hx
    exact b.there c o' e1 hx
  tups := fun c xs q => b.tups c xs (a.tups c xs q)
  frzs := fun c ob xs q => b.frzs c ob xs (a.frzs c ob xs q)
  tbls := fun c ps q => by
    obtain ⟨m1, e1⟩ := a.tbls c ps q
    obtain ⟨m2, e2⟩ := b.tbls c _ e1
    exact ⟨m1 ++ m2, by rw [e2, Array.append_assoc]⟩
theorem Un.kept (k : ∀ b u, h.get? b = some u → h'.get? b = some u) : Un fs ex H H h h' :=
  ⟨fun b ob q _ _ _ => k b ob q, fun b ob q _ _ _ => ⟨ob.slots, k b ob q⟩, fun _ _ _ n _ => n, fun b ob q _ => ⟨ob, k b ob q⟩, fun _ _ q => q, fun _ _ _ q => q, fun _ ps q => ⟨#[], by rw [q]; simp⟩⟩
theorem Un.refl : Un fs ex H H h h := Un.kept fun _ _ q => q
theorem Un.laid (k : ∀ b u, h.get? b = some u → h'.get? b = some u) (hp : h.objs.size ≤ a) (hn : H a = none) : Un fs ex H (upd H a o) h h' where
  keep := fun b u q _ _ _ => k b u q
  slot := fun b u q _ _ _ => ⟨u.slots, k b u q⟩
  free := fun b u q n _ => by rw [upd_ne (Nat.ne_of_lt (Nat.lt_of_lt_of_le (Heap.lt_size q) hp))]; exact n
  there := fun b u q _ => ⟨u, k b u q⟩
  tups := fun b xs q => by rw [upd_ne (ne_of_none q hn)]; exact q
  frzs := fun b u xs q => by rw [upd_ne (ne_of_none q hn)]; exact q
  tbls := fun b ps q => ⟨#[], by rw [upd_ne (ne_of_none q hn), q]; simp⟩
theorem Un.write (mu : Mut (H x)) (he : e = x ∨ H e = some (.own x)) (k : ∀ b u, b ≠ e → h.get? b = some u → h'.get? b = some u) (heo : ∃ u, h'.get? e = some u) : Un fs ex H (upd H x o) h h' := by
  have hx : ∀ b, H b = none → b ≠ x := fun b n z => by subst z; rw [n] at mu; exact mu
  have hb : ∀ b, H b = none → b ≠ e := fun b n z => by
    subst z
    rcases he with r | r
    · exact hx b n r
    · rw [n] at r; cases r
  have hm : ∀ b u, H b = some u → ¬ Mut (some u) → b ≠ x := fun b u q nm z => by subst z; rw [q] at mu; exact nm mu
  refine ⟨fun b u q n _ _ => k b u (hb b n) q, fun b u q n _ _ => ⟨u.slots, k b u (hb b n) q⟩, fun b u q n _ => by rw [upd_ne (hx b n)]; exact n, fun b u q _ => ?_,
    fun b xs q => by rw [upd_ne (hm b _ q fun z => z)]; exact q, fun b u xs q => by rw [upd_ne (hm b _ q fun z => z)]; exact q, fun b ps q => ⟨#[], by rw [upd_ne (hm b _ q fun z => z), q]; simp⟩⟩
  by_cases hbe : b = e
  · subst hbe; exact heo
  · exact ⟨u, k b u hbe q⟩
theorem Un.mono (u : Un fs ex H H1 h h1) (hs : ∀ b ∈ fs, b ∈ fs') (hx : ∀ b ∈ ex, b ∈ ex') : Un fs' ex' H H1 h h1 :=
  ⟨fun b ob q n hb he => u.keep b ob q n (fun z => hb (hs b z)) fun z => he (hx b z), fun _ _ q n _ he => u.any q n fun z => he (hx _ z), fun b ob q n he => u.free b ob q n fun z => he (hx b z), fun b ob q he => u.there b ob q fun z => he (hx b z), u.tups, u.frzs, u.tbls⟩
end

/-! ### the heap without what is tracked -/
noncomputable def trk (h : Heap) (H : Hp) : List Addr := (List.range h.objs.size).filter fun a => (H a).isSome
noncomputable def hidT (h : Heap) (H : Hp) : Heap := PySem.W.hideAll h (trk h H)
theorem hidT_size (h : Heap) (H : Hp) : (hidT h H).objs.size = h.objs.size := PySem.W.hideAll_size _ _
theorem hidT_get {h : Heap} {H : Hp} {b : Addr} {o : Obj} (e : h.get? b = some o) (n : H b = none) : (hidT h H).get? b = some o :=
  PySem.W.hideAll_get _ e fun hm => by
    have q : (H b).isSome = true := (List.mem_filter.mp hm).2
    rw [n] at q; simp at q
theorem of_hidT {h : Heap} {H : Hp} {b : Addr} {o : Obj} (e : (hidT h H).get? b = some o) : h.get? b = some o ∧ H b = none := by
  have e' : h.get? b = some o := PySem.W.of_hideAll (trk h H) e
  refine ⟨e', ?_⟩
  cases q : H b with
  | none => rfl
  | some x =>
    have hm : b ∈ trk h H := List.mem_filter.mpr ⟨List.mem_range.mpr (Heap.lt_size e'), by simp [q]⟩
    have z : (hidT h H).get? b = none := PySem.W.hideAll_none (trk h H) hm
    rw [z] at e; cases e

/-! ### OpenK's ledger, filled with every new object but one -/
noncomputable def allNews (g h : Heap) (L : Addr) : List (Addr × Obj) := (List.range h.objs.size).filterMap fun a => if a = L ∨ (g.get? a).isSome = true then none else (h.get? a).map fun o => (a, o)
noncomputable def rest (g h : Heap) (L d : Addr) : List (Addr × Obj) := (allNews g h L).filter fun p => decide (p.1 ≠ d)
end L2

namespace L2
open PySem PySem.Spec PyProof.Rows

/-- the module's facts, over the base: the heap at the law's entry without what is tracked there -/
structure Mod (K : PySem.W.Frag) (mg : Str → Option Value) (base : Heap) : Prop where
  kin : K.In base
  glob : base.Ns mainGlobals mg
  blt : ∃ mb, base.Ns builtinsNs mb ∧ ∀ x : Str, x ≠ "__name__" → mb x = bootBuiltins x
  nolimit : base.NoLimit

/-- the context: a def's body (or a comprehension's block) running. base: fixed through the whole law; s₀, H₀: the entry; outer: the frames whose slots others may change (a def's callers); stack: all frames that run;
   ex: iterators that were made ahead of the entry and are walked here (a comprehension's); fn: the names whose cells were made at the entry (a def: all; a comprehension's block: its own); calm: not within an except suite; pn: pins that every state bears; xe: what is wanted of an exception that leaves the code -/
structure Cx where
  prog : Program
  w : World
  K : PySem.W.Frag
  mg : Str → Option Value
  base : Heap
  A : Around
  N : List Str
  s₀ : Shared
  H₀ : Hp
  env : Env
  outer : List Env
  stack : List Env
  ex : List Addr
  fn : Str → Bool
  calm : Bool
  pn : List (Addr × Obj)
  xe : Value → Shared → Prop
/-- the callers' frames -/
noncomputable def frs (l : List Env) : List Addr := l.filterMap (·.frame)
noncomputable abbrev Cx.fs (X : Cx) : List Addr := frs X.outer

noncomputable def Vis (sc : Scope) (x : Str) : Prop := sc.names.lookup x = some .local ∨ sc.names.lookup x = some .cell ∨ sc.names.lookup x = some .free
noncomputable def Loc (sc : Scope) (x : Str) : Prop := sc.names.lookup x = some .local ∨ sc.names.lookup x = some .cell
noncomputable def Look (env : Env) (h : Heap) (m : Str → Option Value) (x : Str) (u : Value) : Prop :=
  (env.kindOf x = some .local ∧ m x = some u) ∨ ((env.kindOf x = some .cell ∨ env.kindOf x = some .free) ∧ ∃ c, env.cells.lookup x = some c ∧ h.IsCell c (some u))

structure Cx.Ok (X : Cx) : Prop where
  mod : Mod X.K X.mg X.base
  kind : X.env.scope.kind = .function
  glob : X.env.globals = mainGlobals
  blt : X.env.builtins = builtinsNs
  above : X.s₀.heap.objs.size ≤ X.env.locals
  inj : ∀ x y c, X.env.cells.lookup x = some c → X.env.cells.lookup y = some c → x = y
  has : ∀ x, (X.env.kindOf x = some .cell ∨ X.env.kindOf x = some .free) → ∃ c, X.env.cells.lookup x = some c
  cab : ∀ x c, X.fn x = true → X.env.cells.lookup x = some c → X.s₀.heap.objs.size ≤ c
  hd : X.calm = true → X.A.handled = none
  frames : X.A.frames = some X.stack
  stk : X.stack = X.outer ∨ (X.stack = X.env :: X.outer ∧ X.env.frame = some X.env.locals)
  exf : ∀ b ∈ X.ex, b ≠ X.env.locals ∧ ∀ x c, X.env.cells.lookup x = some c → c ≠ b
  bs : ∀ b o, X.base.get? b = some o → X.s₀.heap.get? b = some o ∧ X.H₀ b = none
  bsz : X.base.objs.size ≤ X.s₀.heap.objs.size
  noex : ∀ b o, X.base.get? b = some o → b ∉ X.ex
  exfs : ∀ b ∈ X.ex, b ∉ X.fs
  funs : X.s₀.heap.FunFrames X.base X.outer
  frf : ∀ b ∈ X.fs, X.H₀ b = none

structure Inv (X : Cx) (pins : List (Addr × Obj)) (σ : List (Option V)) (H : Hp) (s : Shared) : Prop where
  ok : X.Ok
  os : s.os = X.s₀.os
  bare : AllBare s.gens
  base : Un X.fs X.ex X.H₀ H X.s₀.heap s.heap
  loc : ∃ m, s.heap.Ns X.env.locals m ∧ ∀ (i : Nat) (x : Str) (v : V), X.N[i]? = some x → σ[i]? = some (some v) → Vis X.env.scope x → ∃ u, RelV v u ∧ Look X.env s.heap m x u
  cell : ∀ x c, X.env.cells.lookup x = some c → ∃ v, s.heap.IsCell c v
  free : H X.env.locals = none
  freeC : ∀ x c, X.env.cells.lookup x = some c → H c = none
  pin : ∀ p ∈ X.pn ++ pins, s.heap.get? p.1 = some p.2 ∧ H p.1 = none ∧ p.1 ≠ X.env.locals ∧ p.1 ∉ X.fs ∧ ∀ v, p.2.data ≠ .cell v
  hok : HOk X.prog X.w H s.heap
  len : σ.length = X.N.length

section
variable {X : Cx} {pins : List (Addr × Obj)} {σ : List (Option V)} {H H' : Hp} {s : Shared} {h' : Heap}

theorem Cx.Ok.nofr (ok : X.Ok) {b : Addr} {o : Obj} (e : X.base.get? b = some o) : b ∉ X.fs := fun hb => by
  have := (ok.funs.mem hb).1
  rw [e] at this; cases this
theorem Inv.bs (I : Inv X pins σ H s) : ∀ b o, X.base.get? b = some o → s.heap.get? b = some o ∧ H b = none := fun b o e =>
  ⟨I.base.keep b o (I.ok.bs b o e).1 (I.ok.bs b o e).2 (I.ok.nofr e) (I.ok.noex b o e), I.base.free b o (I.ok.bs b o e).1 (I.ok.bs b o e).2 (I.ok.noex b o e)⟩
theorem Inv.bk (I : Inv X pins σ H s) : ∀ b o, X.base.get? b = some o → s.heap.get? b = some o := fun b o e => (I.bs b o e).1
theorem Inv.mod (I : Inv X pins σ H s) : Mod X.K X.mg X.base := I.ok.mod
theorem Inv.kIn (I : Inv X pins σ H s) : X.K.In s.heap := I.ok.mod.kin.keeps I.bk
theorem Inv.nolimit (I : Inv X pins σ H s) : s.heap.NoLimit := I.ok.mod.nolimit.keeps I.bk
/-- the frame over the base: for OpenK's rules (K.In X.base is I.mod.kin) -/
theorem Inv.fr (I : Inv X pins σ H s) : ∃ m, Fr X.base X.env.locals s.heap m :=
  let ⟨m, hn, _⟩ := I.loc
  ⟨m, hn, I.bk, Nat.le_trans I.ok.bsz I.ok.above⟩
theorem Inv.lt (I : Inv X pins σ H s) : X.env.locals < s.heap.objs.size := let ⟨_, hn, _⟩ := I.loc; hn.lt
theorem Inv.sz (I : Inv X pins σ H s) : X.s₀.heap.objs.size ≤ s.heap.objs.size := Nat.le_trans I.ok.above (Nat.le_of_lt I.lt)
theorem Inv.nofs (I : Inv X pins σ H s) {a : Addr} (h : s.heap.objs.size ≤ a) : a ∉ X.fs := fun hb => by
  obtain ⟨_, o, ho, _⟩ := I.ok.funs.mem hb
  exact absurd (Nat.lt_of_lt_of_le (Heap.lt_size ho) (Nat.le_trans I.sz h)) (Nat.lt_irrefl _)
theorem Inv.cne (I : Inv X pins σ H s) : ∀ x c, X.env.cells.lookup x = some c → c ≠ X.env.locals := fun x c e z => by
  obtain ⟨v, o, ho, hd⟩ := I.cell x c e
  obtain ⟨m, ⟨o', es, ep, ho', hd', _⟩, _⟩ := I.loc
  rw [z, ho'] at ho; cases ho; rw [hd'] at hd; cases hd
theorem Inv.funs (I : Inv X pins σ H s) : s.heap.FunFrames X.base X.outer := by
  have all : ∀ (l : List Env), (∀ b ∈ frs l, b ∈ X.fs) → X.s₀.heap.FunFrames X.base l → s.heap.FunFrames X.base l := by
    intro l
    induction l with
    | nil => intro _ _; trivial
    | cons env r ih =>
      intro hs hl
      obtain ⟨hk, ⟨L, o, hf, hn, ho, hd⟩, hr⟩ := hl
      have hL : L ∈ X.fs := hs L (by unfold frs; rw [List.filterMap_cons, hf]; exact List.mem_cons_self)
      obtain ⟨sl, e⟩ := I.base.slot L o ho (I.ok.frf L hL) hL fun z => I.ok.exfs L z hL
      exact ⟨hk, ⟨L, _, hf, hn, e, hd⟩, ih (fun b hb => hs b (by unfold frs; rw [List.filterMap_cons, hf]; exact List.mem_cons_of_mem _ hb)) hr⟩
  exact all X.outer (fun _ hb => hb) I.ok.funs

/-- the frames that run, for a call -/
theorem Inv.stack (I : Inv X pins σ H s) : s.heap.FunFrames X.base X.stack := by
  rcases I.ok.stk with e | ⟨e, hf⟩
  · rw [e]; exact I.funs
  · rw [e]
    obtain ⟨m, hn, _⟩ := I.loc
    refine .cons (by rw [I.ok.kind]; decide) hf hn ?_ I.funs
    exact Heap.get?_none_of_le (Nat.le_trans I.ok.bsz I.ok.above)
theorem Inv.stkSub (I : Inv X pins σ H s) : ∀ b ∈ frs X.stack, b ∈ X.env.locals :: X.fs := fun b hb => by
  rcases I.ok.stk with e | ⟨e, hf⟩
  · rw [e] at hb; exact List.mem_cons_of_mem _ hb
  · rw [e] at hb
    unfold frs at hb
    rw [List.filterMap_cons, hf] at hb
    exact hb
theorem Inv.stkFree (I : Inv X pins σ H s) : ∀ b ∈ frs X.stack, H b = none := fun b hb => by
  rcases List.mem_cons.mp (I.stkSub b hb) with e | hb
  · rw [e]; exact I.free
  · obtain ⟨_, o, ho, _⟩ := I.ok.funs.mem hb
    exact I.base.free b o ho (I.ok.frf b hb) fun z => I.ok.exfs b z hb

/-- THE STEP: the untracked objects but the frame and the records at ch are kept (the callers' frames up to slots), the frame's map is kept, the new abstract heap is held -/
theorem Inv.step {g' : Array GenState} {t' : Nat} {d' : Drawn} {ch : List Addr} (I : Inv X pins σ H s)
    (hch : ∀ b ∈ ch, (b ∈ X.ex ∨ X.s₀.heap.objs.size ≤ b) ∧ b ≠ X.env.locals ∧ (∀ x c, X.env.cells.lookup x = some c → c ≠ b) ∧ ∀ p ∈ X.pn ++ pins, p.1 ≠ b)
    (keep : ∀ b o, b ≠ X.env.locals → b ∉ X.fs → b ∉ ch → s.heap.get? b = some o → H b = none → h'.get? b = some o)
    (slot : ∀ b o, b ≠ X.env.locals → b ∈ X.fs → b ∉ ch → s.heap.get? b = some o → H b = none → ∃ sl, h'.get? b = some { o with slots := sl }) (free : ∀ b o, b ∉ ch → s.heap.get? b = some o → H b = none → H' b = none)
    (there : ∀ b o, b ∉ ch → s.heap.get? b = some o → ∃ o', h'.get? b = some o')
    (tups : ∀ b xs, H b = some (.tup xs) → H' b = some (.tup xs)) (frzs : ∀ b o u, H b = some (.frz o u) → H' b = some (.frz o u)) (tbls : ∀ b ps, H b = some (.tbl ps) → ∃ more, H' b = some (.tbl (ps ++ more)))
    (ns : ∀ m, s.heap.Ns X.env.locals m → h'.Ns X.env.locals m) (hok : HOk X.prog X.w H' h') (hg : AllBare g') :
    Inv X pins σ H' { s with heap := h', gens := g', drawn := d', toks := t' } := by
  have neL : ∀ b o, X.s₀.heap.get? b = some o → b ≠ X.env.locals := fun b o e => Nat.ne_of_lt (Nat.lt_of_lt_of_le (Heap.lt_size e) I.ok.above)
  have neC : ∀ b o, X.s₀.heap.get? b = some o → b ∉ X.ex → b ∉ ch := fun b o e hx hb => by
    rcases (hch b hb).1 with z | z
    · exact hx z
    · exact absurd (Nat.lt_of_lt_of_le (Heap.lt_size e) z) (Nat.lt_irrefl _)
  have cellK : ∀ x c, X.env.cells.lookup x = some c → ∀ v, s.heap.IsCell c v → h'.IsCell c v := fun x c e v ⟨o, ho, hd⟩ => by
    have nch : c ∉ ch := fun z => (hch c z).2.2.1 x c e rfl
    by_cases hc : c ∈ X.fs
    · obtain ⟨sl, q⟩ := slot c o (I.cne x c e) hc nch ho (I.freeC x c e)
      exact ⟨_, q, hd⟩
    · exact ⟨o, keep c o (I.cne x c e) hc nch ho (I.freeC x c e), hd⟩
  refine ⟨I.ok, I.os, hg, ⟨fun b o e n hb hx => ?_, fun b o e n hb hx => ?_, fun b o e n hx => ?_, fun b o e hx => ?_, fun b xs e => tups b xs (I.base.tups b xs e), fun b o xs e => frzs b o xs (I.base.frzs b o xs e), fun b ps e => ?_⟩, ?_, fun x c e => ?_, ?_, fun x c e => ?_, fun p hp => ?_, hok, I.len⟩
  · exact keep b o (neL b o e) hb (neC b o e hx) (I.base.keep b o e n hb hx) (I.base.free b o e n hx)
  · obtain ⟨sl, e1⟩ := I.base.slot b o e n hb hx
    obtain ⟨sl', e2⟩ := slot b _ (neL b o e) hb (neC b o e hx) e1 (I.base.free b o e n hx)
    exact ⟨sl', e2⟩
  · obtain ⟨o', e1⟩ := I.base.there b o e hx
    exact free b o' (neC b o e hx) e1 (I.base.free b o e n hx)
  · obtain ⟨o', e1⟩ := I.base.there b o e hx
    exact there b o' (neC b o e hx) e1
  · obtain ⟨m1, e1⟩ := I.base.tbls b ps e
    obtain ⟨m2, e2⟩ := tbls b _ e1
    exact ⟨m1 ++ m2, by rw [e2, Array.append_assoc]⟩
  · obtain ⟨m, hn, hl⟩ := I.loc
    refine ⟨m, ns m hn, fun i x v e1 e2 e3 => ?_⟩
    obtain ⟨u, r, l⟩ := hl i x v e1 e2 e3
    refine ⟨u, r, ?_⟩
    rcases l with l | ⟨k, c, e, z⟩
    · exact .inl l
    · exact .inr ⟨k, c, e, cellK x c e _ z⟩
  · obtain ⟨v, z⟩ := I.cell x c e
    exact ⟨v, cellK x c e v z⟩
  · obtain ⟨m, ⟨o, _, _, ho, _⟩, _⟩ := I.loc
    exact free _ o (fun z => (hch _ z).2.1 rfl) ho I.free
  · obtain ⟨v, o, ho, hd⟩ := I.cell x c e
    exact free c o (fun z => (hch c z).2.2.1 x c e rfl) ho (I.freeC x c e)
  · obtain ⟨e, n, ne, nf, d⟩ := I.pin p hp
    have nch : p.1 ∉ ch := fun z => (hch p.1 z).2.2.2 p hp rfl
    exact ⟨keep p.1 p.2 ne nf nch e n, free p.1 p.2 nch e n, ne, nf, d⟩
/-- .. where the frame's own object is kept too -/
theorem Inv.un {t' : Nat} (I : Inv X pins σ H s) (u : Un X.fs [] H H' s.heap h') (hok : HOk X.prog X.w H' h') : Inv X pins σ H' { s with heap := h', toks := t' } := by
  obtain ⟨m, ⟨o, es, ep, ho, r⟩, _⟩ := id I.loc
  obtain ⟨sl, hL⟩ := u.any ho I.free (by simp)
  exact I.step (g' := s.gens) (d' := s.drawn) (ch := []) (fun _ z => nomatch z) (fun b o _ hb _ e n => u.keep b o e n hb (by simp)) (fun b o _ hb _ e n => u.slot b o e n hb (by simp)) (fun b o _ e n => u.free b o e n (by simp)) (fun b o _ e => u.there b o e (by simp)) u.tups u.frzs u.tbls (fun m' hm => by
    obtain ⟨o', es', ep', ho', r'⟩ := hm
    rw [ho] at ho'; cases ho'
    exact ⟨_, es', ep', hL, r'⟩) hok I.bare
/-- behind a call (or a comprehension's block): the slots of this frame may have changed too, the records at ch may have turned -/
theorem Inv.call {g' : Array GenState} {t' : Nat} {d' : Drawn} {ch : List Addr} (I : Inv X pins σ H s) (u : Un (frs X.stack) ch H H' s.heap h') (hok : HOk X.prog X.w H' h') (hg : AllBare g')
    (hch : ∀ b ∈ ch, (b ∈ X.ex ∨ X.s₀.heap.objs.size ≤ b) ∧ b ≠ X.env.locals ∧ (∀ x c, X.env.cells.lookup x = some c → c ≠ b) ∧ ∀ p ∈ X.pn ++ pins, p.1 ≠ b) :
    Inv X pins σ H' { s with heap := h', gens := g', drawn := d', toks := t' } := by
  obtain ⟨m, ⟨o, es, ep, ho, r⟩, _⟩ := id I.loc
  obtain ⟨sl, hL⟩ := u.any ho I.free fun z => (hch _ z).2.1 rfl
  exact I.step (ch := ch) hch (fun b o hL hb hc e n => u.keep b o e n (fun z => (List.mem_cons.mp (I.stkSub b z)).elim hL hb) hc) (fun b o _ _ hc e n => u.any e n hc) (fun b o hc e n => u.free b o e n hc) (fun b o hc e => u.there b o e hc) u.tups u.frzs u.tbls (fun m' hm => by
    obtain ⟨o', es', ep', ho', r'⟩ := hm
    rw [ho] at ho'; cases ho'
    exact ⟨_, es', ep', hL, r'⟩) hok hg
/-- an untracked record of ours (an iterator) has turned -/
theorem Inv.turned {t' : Nat} {it : Addr} (I : Inv X pins σ H s) (k : ∀ b o, b ≠ it → s.heap.get? b = some o → h'.get? b = some o) (hn : H it = none) (hL : it ≠ X.env.locals)
    (h1 : it ∈ X.ex ∨ X.s₀.heap.objs.size ≤ it) (h2 : ∀ x c, X.env.cells.lookup x = some c → c ≠ it) (h3 : ∀ p ∈ X.pn ++ pins, p.1 ≠ it) : Inv X pins σ H { s with heap := h', toks := t' } := by
  have nit : ∀ b u, H b = some u → b ≠ it := fun b u e z => by rw [z, hn] at e; cases e
  refine I.step (g' := s.gens) (d' := s.drawn) (ch := [it]) (fun b hb => ?_) (fun b o _ _ hc e _ => k b o (fun z => hc (by simp [z])) e) (fun b o _ _ hc e _ => ⟨o.slots, k b o (fun z => hc (by simp [z])) e⟩) (fun _ _ _ _ n => n)
    (fun b o hc e => ⟨o, k b o (fun z => hc (by simp [z])) e⟩) (fun _ _ e => e) (fun _ _ _ e => e) (fun b ps e => ⟨#[], by rw [e]; simp⟩) (fun m hm => ?_) (fun b u e => ?_) I.bare
  · have e : b = it := by simpa using hb
    subst e
    exact ⟨h1, hL, h2, h3⟩
  · obtain ⟨o, es, ep, ho, r⟩ := hm
    exact ⟨o, es, ep, k _ o (Ne.symm hL) ho, r⟩
  · refine (I.hok b u e).stay (fun c v hc q => k c v ?_ q) (fun _ q => q) fun _ _ q => q
    rcases hc with z | z
    · rw [z]; exact nit b u e
    · exact nit c _ z
theorem Inv.tok (I : Inv X pins σ H s) (t : Nat) : Inv X pins σ H { s with toks := t } := I.un (h' := s.heap) (t' := t) Un.refl I.hok
/-- all objects kept -/
theorem Inv.kept {t' : Nat} (I : Inv X pins σ H s) (k : ∀ b u, s.heap.get? b = some u → h'.get? b = some u) : Inv X pins σ H { s with heap := h', toks := t' } := I.un (Un.kept k) (I.hok.kept k)
/-- a new object laid and tracked -/
theorem Inv.laid {a : Addr} {o : HO} {t' : Nat} (I : Inv X pins σ H s) (k : ∀ b u, s.heap.get? b = some u → h'.get? b = some u) (hp : s.heap.objs.size ≤ a) (new : ObjOk X.prog X.w (upd H a o) h' a o) :
    Inv X pins σ (upd H a o) { s with heap := h', toks := t' } := I.un (Un.laid k hp (I.hok.fresh hp)) (I.hok.laid k hp new)
/-- an object written -/
theorem Inv.write {x e : Addr} {o : HO} {t' : Nat} (I : Inv X pins σ H s) (mu : Mut (H x)) (he : e = x ∨ H e = some (.own x)) (k : ∀ b u, b ≠ e → s.heap.get? b = some u → h'.get? b = some u) (heo : ∃ u, h'.get? e = some u)
    (new : ObjOk X.prog X.w (upd H x o) h' x o) : Inv X pins σ (upd H x o) { s with heap := h', toks := t' } := I.un (Un.write mu he k heo) (I.hok.write mu he k heo new)
/-- forgetting slots, pins -/
theorem Inv.weak {σ' : List (Option V)} (I : Inv X pins σ H s) (hl : σ'.length = σ.length) (w : ∀ (i : Nat) v, σ'[i]? = some (some v) → σ[i]? = some (some v)) : Inv X pins σ' H s :=
  ⟨I.ok, I.os, I.bare, I.base, let ⟨m, hn, hl'⟩ := I.loc; ⟨m, hn, fun i x v e1 e2 e3 => hl' i x v e1 (w i v e2) e3⟩, I.cell, I.free, I.freeC, I.pin, I.hok, hl.trans I.len⟩
theorem Inv.pins_of {pins' : List (Addr × Obj)} (I : Inv X pins σ H s) (h : ∀ p ∈ pins', s.heap.get? p.1 = some p.2 ∧ H p.1 = none ∧ p.1 ≠ X.env.locals ∧ p.1 ∉ X.fs ∧ ∀ v, p.2.data ≠ .cell v) : Inv X pins' σ H s :=
  ⟨I.ok, I.os, I.bare, I.base, I.loc, I.cell, I.free, I.freeC, fun p hp => (List.mem_append.mp hp).elim (fun z => I.pin p (List.mem_append_left _ z)) (h p), I.hok, I.len⟩

theorem nodup_ix {N : List Str} (hN : N.Nodup) {i j : Nat} {x : Str} (a : N[i]? = some x) (b : N[j]? = some x) : i = j := by
  obtain ⟨h1, e1⟩ := List.getElem?_eq_some_iff.mp a
  obtain ⟨h2, e2⟩ := List.getElem?_eq_some_iff.mp b
  exact (List.getElem_inj hN).mp (e1.trans e2.symm)

/-- a name is stored; what changed -/
theorem store_ok2 {M : Model} {A : Around} {E : Value → Shared → Prop} {i : Nat} {x : Str} {v : V} {u : Value} {Q : Unit → Shared → Prop} (I : Inv X pins σ H s) (hN : X.N.Nodup) (hi : X.N[i]? = some x) (hx : Loc X.env.scope x) (r : RelV v u)
    (h : ∀ s', Inv X pins (σ.set i (some v)) H s' → (∃ a, Heap.SameBut a s.heap s'.heap ∧ (a = X.env.locals ∨ X.env.cells.lookup x = some a)) → Q () s') (hf : X.fn x = true ∨ X.env.scope.names.lookup x = some .local) : wpAny M A (storeName X.env x u) Q E s := by
  obtain ⟨m, hn, hl⟩ := id I.loc
  have hcls : (X.env.scope.kind == .class || (X.env.scope.kind == .module && X.env.locals != X.env.globals)) = false := by rw [I.ok.kind]; rfl
  have hiσ : i < σ.length := by rw [I.len]; exact (List.getElem?_eq_some_iff.mp hi).1
  have cne := I.cne
  have tracked : ∀ {a : Addr} {h' : Heap}, (∃ o, s.heap.get? a = some o ∧ H a = none) → Heap.SameBut a s.heap h' → HOk X.prog X.w H h' := fun {a h'} ha hs b ob e => by
    obtain ⟨_, _, hfree⟩ := ha
    refine (I.hok b ob e).stay (fun c w' hc q => (hs.2 c ?_).trans q) (fun _ q => q) fun _ _ q => q
    rintro rfl
    rcases hc with rfl | hc
    · rw [hfree] at e; cases e
    · rw [hfree] at hc; cases hc
  rcases hx with hk | hk
  · refine wpAny_storeName_local hk hn (fun h' hn' hs => ?_) hcls
    obtain ⟨oL, _, _, hoL, _⟩ := id hn
    refine h _ ⟨I.ok, I.os, I.bare, ⟨fun b o e n hb hx => ?_, fun b o e n hb hx => ?_, I.base.free, fun b o e hx => ?_, I.base.tups, I.base.frzs, I.base.tbls⟩, ⟨_, hn', fun j y v' e1 e2 e3 => ?_⟩, fun y c e => ?_, I.free, I.freeC, fun p hp => ?_, tracked ⟨oL, hoL, I.free⟩ hs, by simpa using I.len⟩ ⟨_, hs, .inl rfl⟩
    · exact (hs.2 b (Nat.ne_of_lt (Nat.lt_of_lt_of_le (Heap.lt_size e) I.ok.above))).trans (I.base.keep b o e n hb hx)
    · obtain ⟨sl, e1⟩ := I.base.slot b o e n hb hx
      exact ⟨sl, (hs.2 b (Nat.ne_of_lt (Nat.lt_of_lt_of_le (Heap.lt_size e) I.ok.above))).trans e1⟩
    · obtain ⟨o', e1⟩ := I.base.there b o e hx
      exact ⟨o', (hs.2 b (Nat.ne_of_lt (Nat.lt_of_lt_of_le (Heap.lt_size e) I.ok.above))).trans e1⟩
    · by_cases hj : j = i
      · subst hj
        rw [hi] at e1; cases e1
        rw [List.getElem?_set_self hiσ] at e2
        cases e2
        exact ⟨u, r, .inl ⟨hk, by simp⟩⟩
      · rw [List.getElem?_set_ne (Ne.symm hj)] at e2
        obtain ⟨u', r', q⟩ := hl j y v' e1 e2 e3
        refine ⟨u', r', ?_⟩
        rcases q with ⟨k, e⟩ | ⟨k, c, e, z⟩
        · refine .inl ⟨k, ?_⟩
          have : y ≠ x := fun e => hj (nodup_ix hN e1 (e ▸ hi))
          simp [this, e]
        · exact .inr ⟨k, c, e, z.sameBut hs (cne y c e)⟩
    · obtain ⟨w', z⟩ := I.cell y c e
      exact ⟨w', z.sameBut hs (cne y c e)⟩
    · obtain ⟨e, n, ne, nf, d⟩ := I.pin p hp
      exact ⟨(hs.2 p.1 ne).trans e, n, ne, nf, d⟩
  · have hfn : X.fn x = true := by
      rcases hf with z | z
      · exact z
      · rw [z] at hk; cases hk
    obtain ⟨c, hc⟩ := I.ok.has x (.inl hk)
    obtain ⟨w', z⟩ := I.cell x c hc
    refine wpAny_storeName_cell I.ok.kind hk hc z (fun h' hc' hs => ?_)
    obtain ⟨oc, hoc, hocd⟩ := id z
    refine h { s with heap := h' } ⟨I.ok, I.os, I.bare, ⟨fun b o e n hb hx => ?_, fun b o e n hb hx => ?_, I.base.free, fun b o e hx => ?_, I.base.tups, I.base.frzs, I.base.tbls⟩, ⟨m, hn.sameBut hs (Ne.symm (cne x c hc)), fun j y v' e1 e2 e3 => ?_⟩, fun y c' e => ?_, I.free, I.freeC, fun p hp => ?_, tracked ⟨oc, hoc, I.freeC x c hc⟩ hs, by simpa using I.len⟩ ⟨c, hs, .inr hc⟩
    · exact (hs.2 b (Nat.ne_of_lt (Nat.lt_of_lt_of_le (Heap.lt_size e) (I.ok.cab x c hfn hc)))).trans (I.base.keep b o e n hb hx)
    · obtain ⟨sl, e1⟩ := I.base.slot b o e n hb hx
      exact ⟨sl, (hs.2 b (Nat.ne_of_lt (Nat.lt_of_lt_of_le (Heap.lt_size e) (I.ok.cab x c hfn hc)))).trans e1⟩
    · obtain ⟨o', e1⟩ := I.base.there b o e hx
      exact ⟨o', (hs.2 b (Nat.ne_of_lt (Nat.lt_of_lt_of_le (Heap.lt_size e) (I.ok.cab x c hfn hc)))).trans e1⟩
    · by_cases hj : j = i
      · subst hj
        rw [hi] at e1; cases e1
        rw [List.getElem?_set_self hiσ] at e2
        cases e2
        exact ⟨u, r, .inr ⟨.inl hk, c, hc, hc'⟩⟩
      · rw [List.getElem?_set_ne (Ne.symm hj)] at e2
        obtain ⟨u', r', q⟩ := hl j y v' e1 e2 e3
        refine ⟨u', r', ?_⟩
        rcases q with q | ⟨k, c', e, z'⟩
        · exact .inl q
        · refine .inr ⟨k, c', e, z'.sameBut hs ?_⟩
          rintro rfl
          exact hj (nodup_ix hN e1 (I.ok.inj _ _ _ e hc ▸ hi))
    · by_cases hcc : c' = c
      · subst hcc; exact ⟨_, hc'⟩
      · obtain ⟨w2, z2⟩ := I.cell y c' e
        exact ⟨w2, z2.sameBut hs hcc⟩
    · obtain ⟨e, n, ne, nf, d⟩ := I.pin p hp
      refine ⟨(hs.2 p.1 ?_).trans e, n, ne, nf, d⟩
      intro q
      rw [q, hoc] at e
      have q' : oc = p.2 := Option.some.inj e
      exact d w' (by rw [← q']; exact hocd)
theorem store_ok {M : Model} {A : Around} {E : Value → Shared → Prop} {i : Nat} {x : Str} {v : V} {u : Value} {Q : Unit → Shared → Prop} (I : Inv X pins σ H s) (hN : X.N.Nodup) (hi : X.N[i]? = some x) (hx : Loc X.env.scope x) (r : RelV v u)
    (h : ∀ s', Inv X pins (σ.set i (some v)) H s' → Q () s') (hf : X.fn x = true ∨ X.env.scope.names.lookup x = some .local := by first | exact .inl rfl | exact .inr rfl | assumption) : wpAny M A (storeName X.env x u) Q E s :=
  store_ok2 I hN hi hx r (fun s' I' _ => h s' I') hf
/-- behind a call or a block, the state as it is -/
theorem Inv.call' {s' : Shared} {ch : List Addr} (I : Inv X pins σ H s) (ho : s'.os = s.os) (u : Un (frs X.stack) ch H H' s.heap s'.heap) (hok : HOk X.prog X.w H' s'.heap) (hg : AllBare s'.gens)
    (hch : ∀ b ∈ ch, (b ∈ X.ex ∨ X.s₀.heap.objs.size ≤ b) ∧ b ≠ X.env.locals ∧ (∀ x c, X.env.cells.lookup x = some c → c ≠ b) ∧ ∀ p ∈ X.pn ++ pins, p.1 ≠ b) : Inv X pins σ H' s' := by
  obtain ⟨h', g', d', t', o'⟩ := s'
  have e : o' = s.os := ho
  subst e
  exact I.call (g' := g') (t' := t') (d' := d') u hok hg hch
end

/-! ### the judgements -/
/-- an exception: its class, its own dict's address (where it has one), the abstract heap behind it -/
noncomputable abbrev XK := Value → Option Addr → Hp → Prop
noncomputable abbrev St := List (Option V)
noncomputable abbrev VK := V → Hp → Prop
/-- an expression's reading; a test's; an argument list's -/
noncomputable abbrev TE := St → Hp → VK → Prop
noncomputable abbrev TT := St → Hp → (Bool → Hp → Prop) → Prop
noncomputable abbrev TA := St → Hp → (List V → Hp → Prop) → Prop
/-- what is wanted behind a statement -/
structure Ends where
  nx : St → Hp → Prop
  rt : VK
  bk : St → Hp → Prop := fun _ _ => False
  ct : St → Hp → Prop := fun _ _ => False
noncomputable abbrev TS := Ends → St → Hp → Prop

noncomputable def EP (X : Cx) (pins : List (Addr × Obj)) (σ : St) (Q : VK) (u : Value) (s' : Shared) : Prop := ∃ v H', Inv X pins σ H' s' ∧ RelV v u ∧ Q v H'
noncomputable def TP (X : Cx) (pins : List (Addr × Obj)) (σ : St) (Q : Bool → Hp → Prop) (b : Bool) (s' : Shared) : Prop := ∃ H', Inv X pins σ H' s' ∧ Q b H'
noncomputable def AP (X : Cx) (pins : List (Addr × Obj)) (σ : St) (Q : List V → Hp → Prop) (us : List Value) (s' : Shared) : Prop := ∃ vs H', Inv X pins σ H' s' ∧ Vals vs us ∧ Q vs H'
noncomputable def SP (X : Cx) (pins : List (Addr × Obj)) (D : Ends) (f : Flow) (s' : Shared) : Prop :=
  match f with
  | .next => ∃ σ' H', Inv X pins σ' H' s' ∧ D.nx σ' H'
  | .brk => ∃ σ' H', Inv X pins σ' H' s' ∧ D.bk σ' H'
  | .cont => ∃ σ' H', Inv X pins σ' H' s' ∧ D.ct σ' H'
  | .ret u => ∃ v σ' H', Inv X pins σ' H' s' ∧ RelV v u ∧ D.rt v H'

noncomputable def PE (X : Cx) (e : Expr) (t : TE) : Prop :=
  ∀ (pins : List (Addr × Obj)) (s : Shared) (σ : St) (H : Hp) (Q : VK), Inv X pins σ H s → t σ H Q → wpAny (model X.prog X.w) X.A (eval e X.env) (EP X pins σ Q) X.xe s
noncomputable def PT (X : Cx) (e : Expr) (t : TT) : Prop :=
  ∀ (pins : List (Addr × Obj)) (s : Shared) (σ : St) (H : Hp) (Q : Bool → Hp → Prop), Inv X pins σ H s → t σ H Q → wpAny (model X.prog X.w) X.A (isTrue e X.env (eval e X.env)) (TP X pins σ Q) X.xe s
/-- a test whatever its 'whole' is (and, or) -/
noncomputable def PW (X : Cx) (e : Expr) (t : TT) : Prop :=
  ∀ (whole : Sem Value) (pins : List (Addr × Obj)) (s : Shared) (σ : St) (H : Hp) (Q : Bool → Hp → Prop), Inv X pins σ H s → t σ H Q → wpAny (model X.prog X.w) X.A (isTrue e X.env whole) (TP X pins σ Q) X.xe s
theorem PW.pt {X : Cx} {e : Expr} {t : TT} (h : PW X e t) : PT X e t := h _
/-- an argument list (no star), from the left -/
noncomputable def PA (X : Cx) (es : List Expr) (t : TA) : Prop :=
  ∀ (pos : Pos) (pins : List (Addr × Obj)) (s : Shared) (σ : St) (H : Hp) (Q : List V → Hp → Prop), Inv X pins σ H s → t σ H Q → wpAny (model X.prog X.w) X.A (spliced (backTo pos (starEach es X.env))) (AP X pins σ Q) X.xe s
noncomputable def PS (X : Cx) (st : Stmt) (t : TS) : Prop :=
  ∀ (pins : List (Addr × Obj)) (s : Shared) (σ : St) (H : Hp) (D : Ends), Inv X pins σ H s → t D σ H → wpAny (model X.prog X.w) X.A (exec st X.env) (SP X pins D) X.xe s
noncomputable def PSs (X : Cx) (st : List Stmt) (t : TS) : Prop :=
  ∀ (pins : List (Addr × Obj)) (s : Shared) (σ : St) (H : Hp) (D : Ends), Inv X pins σ H s → t D σ H → wpAny (model X.prog X.w) X.A (execs st X.env) (SP X pins D) X.xe s
/-- weaken the end -/
theorem thn {α : Type} {t : Sem α} {Q Q' : α → Shared → Prop} {M : Model} {A : Around} {E : Value → Shared → Prop} {s : Shared} (h : wpAny M A t Q E s) (hQ : ∀ a s, Q a s → Q' a s) : wpAny M A t Q' E s := wpAny_mono h hQ fun _ _ x => x
end L2

namespace L2
open PySem PySem.Spec PyProof.Rows
section
variable {X : Cx}

/-! ### names and constants -/
noncomputable def tVar (i : Nat) : TE := fun σ H Q => ∃ v, σ[i]? = some (some v) ∧ Q v H
noncomputable def tC (v : V) : TE := fun _ H Q => Q v H
theorem pe_var {i : Nat} {x : Str} {pos : Pos} (hN : X.N[i]? = some x) (hv : Vis X.env.scope x) (hd : (x == ("__debug__" : Str)) = false := by decide) (hcd : (x == ("__classdict__" : Str)) = false := by decide) : PE X (.Name x pos) (tVar i) := by
  intro pins s σ H Q I h
  obtain ⟨v, e, h⟩ := h
  obtain ⟨m, hn, hl⟩ := I.loc
  obtain ⟨u, r, l⟩ := hl i x v hN e hv
  have fin : EP X pins σ Q u s := ⟨v, H, I, r, h⟩
  rcases l with ⟨hk, hm⟩ | ⟨hk, c, hc, hcell⟩
  · exact wpAny_Name (wpAny_loadName_local I.ok.kind hk hn hm fin) hd
  · rcases hk with hk | hk
    · exact wpAny_Name (wpAny_loadName_cell I.ok.kind hk hc hcell fin) hd
    · exact wpAny_Name (wpAny_loadName_free I.ok.kind hk hc hcell fin hcd) hd
theorem pe_int {i j pos} : PE X (.Constant (.int i) j pos) (tC (.int i)) := fun _ _ _ H _ I h => wpAny_Constant_int ⟨.int i, H, I.tok _, ⟨_, rfl⟩, h⟩
theorem pe_bl {b j pos} : PE X (.Constant (.bool b) j pos) (tC (.bl b)) := fun _ _ _ H _ I h => Constant_bool ⟨.bl b, H, I, rfl, h⟩
theorem pe_non {j pos} : PE X (.Constant .none j pos) (tC .non) := fun _ _ _ H _ I h => Constant_none ⟨.non, H, I, rfl, h⟩
theorem pe_str {x j pos} : PE X (.Constant (.str x) j pos) (tC (.str x)) := fun _ _ _ H _ I h => Calls.Constant_str ⟨.str x, H, I.tok _, ⟨_, rfl⟩, h⟩

/-- a global name of the def -/
noncomputable def Gl (X : Cx) (x : Str) : Prop := X.env.kindOf x = some .globalImplicit
theorem ld_glob {E : Value → Shared → Prop} {pins : List (Addr × Obj)} {s : Shared} {σ : St} {H : Hp} {x : Str} {u : Value} {pos : Pos} {Q : Value → Shared → Prop} (I : Inv X pins σ H s) (hg : Gl X x) (hm : X.mg x = some u) (h : Q u s)
    (hd : (x == ("__debug__" : Str)) = false := by decide) : wpAny (model X.prog X.w) X.A (eval (.Name x pos) X.env) Q E s :=
  Calls.Name_function_global I.ok.kind hg (Calls.loadGlobal_global (by rw [I.ok.glob]; exact I.mod.glob.keeps I.bk) hm h) hd
theorem ld_blt {E : Value → Shared → Prop} {pins : List (Addr × Obj)} {s : Shared} {σ : St} {H : Hp} {x : Str} {u : Value} {pos : Pos} {Q : Value → Shared → Prop} (I : Inv X pins σ H s) (hg : Gl X x) (hm : X.mg x = none) (hv : bootBuiltins x = some u) (h : Q u s)
    (hn : x ≠ "__name__" := by decide) (hd : (x == ("__debug__" : Str)) = false := by decide) : wpAny (model X.prog X.w) X.A (eval (.Name x pos) X.env) Q E s := by
  obtain ⟨mb, h1, h2⟩ := I.mod.blt
  exact Calls.Name_function_global I.ok.kind hg (Calls.loadGlobal_builtin (by rw [I.ok.glob]; exact I.mod.glob.keeps I.bk) hm (by rw [I.ok.blt]; exact h1.keeps I.bk) ((h2 x hn).trans hv) h) hd
theorem pe_bltn {x : Str} {v : V} {u : Value} {pos : Pos} (hg : Gl X x) (hm : X.mg x = none) (hv : bootBuiltins x = some u) (r : RelV v u) (hn : x ≠ "__name__" := by decide) (hd : (x == ("__debug__" : Str)) = false := by decide) : PE X (.Name x pos) (tC v) :=
  fun _ _ _ H _ I h => ld_blt I hg hm hv ⟨v, H, I, r, h⟩ hn hd

variable {a b : Expr} {ta tb : TE} {pos : Pos}
/-! ### and, or, not -/
variable {tA tB' : TT} {rest : List Expr}
noncomputable def tOr (t u : TT) : TT := fun σ H Q => t σ H fun c H1 => if c = true then Q true H1 else u σ H1 Q
noncomputable def tNot (t : TT) : TT := fun σ H Q => t σ H fun c H1 => Q (!c) H1
theorem pw_or1 (ha : PT X a tA) : PW X (.BoolOp .Or [a] pos) tA := by
  intro wh pins s σ H Q I h
  refine isTrue_or (thn (ha pins s σ H Q I h) fun c s1 e => ?_)
  cases c with
  | false => exact isTrue_or_nil e
  | true => exact e
theorem pw_or (ha : PT X a tA) (hb : PW X (.BoolOp .Or (b :: rest) pos) tB') : PW X (.BoolOp .Or (a :: b :: rest) pos) (tOr tA tB') := by
  intro wh pins s σ H Q I h
  refine isTrue_or (thn (ha pins s σ H _ I h) fun c s1 ⟨H1, I1, q1⟩ => ?_)
  cases c with
  | true => exact ⟨H1, I1, q1⟩
  | false => exact hb wh pins s1 σ H1 Q I1 q1
theorem pt_not (ha : PT X a tA) : PT X (.UnaryOp .Not a pos) (tNot tA) := by
  intro pins s σ H Q I h
  exact isTrue_not (ha pins s σ H (fun c H1 => Q (!c) H1) I h)
/-- .. as values (bools) -/
noncomputable def tAndV (ta tb : TE) : TE := fun σ H Q => ta σ H fun x H1 => ∃ c, x = .bl c ∧ if c = true then tb σ H1 Q else Q (.bl false) H1
noncomputable def tNotV (ta : TE) : TE := fun σ H Q => ta σ H fun x H1 => ∃ c, x = .bl c ∧ Q (.bl (!c)) H1
theorem pe_one {op} {t : TE} (h : PE X a t) : PE X (.BoolOp op [a] pos) t := fun pins s σ H Q I hw => BoolOp_one (h pins s σ H Q I hw)
theorem pe_and (ha : PE X a ta) (hb : PE X (.BoolOp .And (b :: rest) pos) tb) : PE X (.BoolOp .And (a :: b :: rest) pos) (tAndV ta tb) := by
  intro pins s σ H Q I h
  refine BoolOp_and (thn (ha pins s σ H _ I h) fun v s1 ⟨x, H1, I1, r1, q1⟩ => ?_)
  obtain ⟨c, rfl, q1⟩ := q1
  cases r1
  refine wpAny_truthy_bool ?_
  cases c with
  | true => exact hb pins s1 σ H1 Q I1 q1
  | false => exact ⟨.bl false, H1, I1, rfl, q1⟩
theorem pe_not (ha : PE X a ta) : PE X (.UnaryOp .Not a pos) (tNotV ta) := by
  intro pins s σ H Q I h
  refine UnaryOp_ (thn (ha pins s σ H _ I h) fun v s1 ⟨x, H1, I1, r1, q1⟩ => ?_)
  obtain ⟨c, rfl, q1⟩ := q1
  cases r1
  exact not_of (wpAny_truthy_bool ⟨.bl (!c), H1, I1, rfl, q1⟩)
end
end L2

namespace L2
open PySem PySem.Spec PyProof.Rows

/-! ### a list, a tuple that is read: tracked, frozen, or an object of the module -/
noncomputable def SqL (K : PySem.W.Frag) (H : Hp) (a : Addr) (xs : List V) : Prop :=
  Rd H a (.lst xs) ∨
    ∃ (o : Obj) (its : Array Value) (n : Nat), K.lookup a = some o ∧ o.cls = .type "list" ∧ o.dict = none ∧ o.data = .seq its n ∧ its.size ≤ sizeLine ∧ Vals xs its.toList
noncomputable def SqT (K : PySem.W.Frag) (H : Hp) (a : Addr) (xs : List V) : Prop :=
  Rd H a (.tup xs) ∨
    ∃ (o : Obj) (its : Array Value) (n : Nat), K.lookup a = some o ∧ o.cls = .type "tuple" ∧ o.dict = none ∧ o.data = .seq its n ∧ its.size ≤ sizeLine ∧ Vals xs its.toList
noncomputable def absV : Value → Option V
  | .none => some .non
  | .bool b => some (.bl b)
  | .int i _ => some (.int i)
  | .str x _ => some (.str x)
  | .bytes b _ => some (.byt b)
  | .float b _ => some (.flt b)
  | .ref a => some (.ref a)
  | .type n => some (.ty n)
  | _ => none
theorem RelV.abs {x : V} {u : Value} (r : RelV x u) : absV u = some x := by
  cases x with
  | non => cases r; rfl
  | bl _ => cases r; rfl
  | int _ => obtain ⟨t, rfl⟩ := r; rfl
  | str _ => obtain ⟨t, rfl⟩ := r; rfl
  | byt _ => obtain ⟨t, rfl⟩ := r; rfl
  | flt _ => obtain ⟨t, rfl⟩ := r; rfl
  | ref _ => cases r; rfl
  | ty _ => cases r; rfl
theorem RelV.inj {x y : V} {u : Value} (r : RelV x u) (q : RelV y u) : x = y := Option.some.inj (r.abs.symm.trans q.abs)
theorem Vals.inj : ∀ {xs ys : List V} {us : List Value}, Vals xs us → Vals ys us → xs = ys
  | _, _, _, .nil, .nil => rfl
  | _, _, _, .cons r t, .cons r' t' => by rw [r.inj r', Vals.inj t t']
section
variable {X : Cx} {pins : List (Addr × Obj)} {σ : St} {H : Hp} {s : Shared} {a : Addr} {xs ys : List V}
theorem SqL.of {K : PySem.W.Frag} (h : H a = some (.lst xs)) : SqL K H a xs := .inl (.inl h)
theorem SqT.of {K : PySem.W.Frag} (h : H a = some (.tup xs)) : SqT K H a xs := .inl (.inl h)
theorem Inv.list (I : Inv X pins σ H s) (h : SqL X.K H a xs) : ∃ its : List Value, Vals xs its ∧ PlainL s.heap a its.toArray ∧ xs.length ≤ sizeLine := by
  rcases h with h | ⟨o, its, n, hk, hc, hd, hs, hz, r⟩
  · obtain ⟨z, its, n, r, e⟩ := h.ok I.hok
    exact ⟨its, r, ⟨_, n, e, rfl, rfl, rfl⟩, z⟩
  · refine ⟨its.toList, r, ⟨o, n, I.kIn a o hk, hc, hd, by simpa using hs⟩, ?_⟩
    have e := r.length
    simp only [Array.length_toList] at e
    omega
theorem Inv.tuple (I : Inv X pins σ H s) (h : SqT X.K H a xs) : ∃ its : List Value, Vals xs its ∧ IsTup s.heap a its.toArray ∧ xs.length ≤ sizeLine := by
  rcases h with h | ⟨o, its, n, hk, hc, _, hs, hz, r⟩
  · obtain ⟨z, its, r, p⟩ := h.ok I.hok
    exact ⟨its, r, p.tup, z⟩
  · refine ⟨its.toList, r, ⟨o, I.kIn a o hk, hc, n, by simpa using hs⟩, ?_⟩
    have e := r.length
    simp only [Array.length_toList] at e
    omega
theorem Inv.list_inj (I : Inv X pins σ H s) (h : SqL X.K H a xs) (h' : SqL X.K H a ys) : xs = ys := by
  obtain ⟨its, r, ⟨o, n, e, _, _, d⟩, _⟩ := I.list h
  obtain ⟨its', r', ⟨o', n', e', _, _, d'⟩, _⟩ := I.list h'
  rw [e] at e'; cases e'
  rw [d] at d'
  injection d' with d1 _
  have : its = its' := by simpa using congrArg Array.toList d1
  subst this
  exact r.inj r'
theorem Inv.tuple_inj (I : Inv X pins σ H s) (h : SqT X.K H a xs) (h' : SqT X.K H a ys) : xs = ys := by
  obtain ⟨its, r, ⟨o, e, _, n, d⟩, _⟩ := I.tuple h
  obtain ⟨its', r', ⟨o', e', _, n', d'⟩, _⟩ := I.tuple h'
  rw [e] at e'; cases e'
  rw [d] at d'
  injection d' with d1 _
  have : its = its' := by simpa using congrArg Array.toList d1
  subst this
  exact r.inj r'
end

/-! ### another wish about exceptions -/
noncomputable abbrev Cx.wish (X : Cx) (E : Value → Shared → Prop) : Cx := { X with xe := E }
/-- no exception leaves -/
noncomputable abbrev Cx.nox (X : Cx) : Cx := X.wish fun _ _ => False
theorem Cx.Ok.wish {X : Cx} (ok : X.Ok) (E : Value → Shared → Prop) : (X.wish E).Ok :=
  ⟨ok.mod, ok.kind, ok.glob, ok.blt, ok.above, ok.inj, ok.has, ok.cab, ok.hd, ok.frames, ok.stk, ok.exf, ok.bs, ok.bsz, ok.noex, ok.exfs, ok.funs, ok.frf⟩
theorem Cx.Ok.unwish {X : Cx} {E : Value → Shared → Prop} (ok : (X.wish E).Ok) : X.Ok :=
  ⟨ok.mod, ok.kind, ok.glob, ok.blt, ok.above, ok.inj, ok.has, ok.cab, ok.hd, ok.frames, ok.stk, ok.exf, ok.bs, ok.bsz, ok.noex, ok.exfs, ok.funs, ok.frf⟩
section
variable {X : Cx} {pins : List (Addr × Obj)} {σ : St} {H : Hp} {s : Shared} {E : Value → Shared → Prop}
theorem Inv.wish (I : Inv X pins σ H s) (E : Value → Shared → Prop) : Inv (X.wish E) pins σ H s := ⟨I.ok.wish E, I.os, I.bare, I.base, I.loc, I.cell, I.free, I.freeC, I.pin, I.hok, I.len⟩
theorem Inv.unwish (I : Inv (X.wish E) pins σ H s) : Inv X pins σ H s := ⟨I.ok.unwish, I.os, I.bare, I.base, I.loc, I.cell, I.free, I.freeC, I.pin, I.hok, I.len⟩
theorem SP.unwish {D : Ends} {f : Flow} {s' : Shared} (h : SP (X.wish E) pins D f s') : SP X pins D f s' := by
  cases f with
  | next => obtain ⟨σ', H', I, q⟩ := h; exact ⟨σ', H', I.unwish, q⟩
  | brk => obtain ⟨σ', H', I, q⟩ := h; exact ⟨σ', H', I.unwish, q⟩
  | cont => obtain ⟨σ', H', I, q⟩ := h; exact ⟨σ', H', I.unwish, q⟩
  | ret u => obtain ⟨v, σ', H', I, r, q⟩ := h; exact ⟨v, σ', H', I.unwish, r, q⟩
theorem PE.nox {e : Expr} {t : TE} (h : PE X.nox e t) : PE X e t := fun pins s σ H Q I hw =>
  wpAny_mono (h pins s σ H Q (I.wish _) hw) (fun _ _ ⟨v, H', I', r, q⟩ => ⟨v, H', I'.unwish, r, q⟩) fun _ _ z => False.elim z
theorem PT.nox {e : Expr} {t : TT} (h : PT X.nox e t) : PT X e t := fun pins s σ H Q I hw =>
  wpAny_mono (h pins s σ H Q (I.wish _) hw) (fun _ _ ⟨H', I', q⟩ => ⟨H', I'.unwish, q⟩) fun _ _ z => False.elim z
theorem PSs.nox {st : List Stmt} {t : TS} (h : PSs X.nox st t) : PSs X st t := fun pins s σ H D I hw =>
  wpAny_mono (h pins s σ H D (I.wish _) hw) (fun _ _ q => q.unwish) fun _ _ z => False.elim z
end

/-! ### blocks and small statements -/
section
variable {X : Cx} {st : Stmt} {rest : List Stmt} {t u : TS} {e : Expr} {te : TE} {pos : Pos}
noncomputable def tNext : TS := fun D σ H => D.nx σ H
noncomputable def tSeq (t u : TS) : TS := fun D σ H => t { D with nx := u D } σ H
theorem pss_nil : PSs X [] tNext := fun _ _ σ H _ I h => wpAny_execs_nil ⟨σ, H, I, h⟩
theorem pss_cons (h1 : PS X st t) (h2 : PSs X rest u) : PSs X (st :: rest) (tSeq t u) := by
  intro pins s σ H D I h
  refine wpAny_execs_cons (thn (h1 pins s σ H { D with nx := u D } I h) fun f s1 q => ?_)
  cases f with
  | next =>
    obtain ⟨σ', H', I', q⟩ := q
    exact h2 pins s1 σ' H' D I' q
  | ret v => exact q
  | brk => exact q
  | cont => exact q
/-- in a def's body nothing is shown -/
theorem Inv.quiet {pins : List (Addr × Obj)} {σ : St} {H : Hp} {s : Shared} (I : Inv X pins σ H s) : interactive X.env = false := by simp [interactive, I.ok.kind]
/-- an expression whose value is dropped -/
noncomputable def tDrop (te : TE) : TS := fun D σ H => te σ H fun _ H1 => D.nx σ H1
theorem ps_expr (he : PE X e te) (hs : swapsWith e none pos.line X.env = pure false := by rfl) : PS X (.Expr e pos) (tDrop te) := by
  intro pins s σ H D I h
  exact wpAny_Expr_any (thn (he pins s σ H _ I h) fun v s1 ⟨x, H1, I1, r1, q1⟩ => ⟨σ, H1, I1, q1⟩) I.quiet hs
noncomputable def tRet (te : TE) : TS := fun D σ H => te σ H D.rt
theorem ps_ret (he : PE X e te) : PS X (.Return (some e) pos) (tRet te) := by
  intro pins s σ H D I h
  exact wpAny_Return_some (thn (he pins s σ H _ I h) fun v s1 ⟨x, H1, I1, r1, q1⟩ => ⟨x, σ, H1, I1, r1, q1⟩)
noncomputable def tIfS (c : TT) (t u : TS) : TS := fun D σ H => c σ H fun b H1 => if b = true then t D σ H1 else u D σ H1
theorem ps_if {c : Expr} {a b : List Stmt} {tc : TT} (hc : PT X c tc) (ha : PSs X a t) (hb : PSs X b u) : PS X (.If c a b pos) (tIfS tc t u) := by
  intro pins s σ H D I h
  refine wpAny_If (thn (hc pins s σ H _ I h) fun d s1 ⟨H1, I1, q1⟩ => ?_)
  cases d with
  | true => exact ha pins s1 σ H1 D I1 q1
  | false => exact hb pins s1 σ H1 D I1 q1
end

/-! ### targets -/
noncomputable abbrev TG := V → St → Hp → (St → Hp → Prop) → Prop
noncomputable abbrev TGs := List V → St → Hp → (St → Hp → Prop) → Prop
noncomputable def PG (X : Cx) (target : Expr) (t : TG) : Prop :=
  ∀ (pins : List (Addr × Obj)) (s : Shared) (σ : St) (H : Hp) (v : V) (u : Value) (Q : St → Hp → Prop), Inv X pins σ H s → RelV v u → t v σ H Q →
    wpAny (model X.prog X.w) X.A (assign target X.env u) (fun _ s' => ∃ σ' H', Inv X pins σ' H' s' ∧ Q σ' H') X.xe s
/-- several targets, one after another -/
noncomputable def PGs (X : Cx) (ts : List Expr) (t : TGs) : Prop :=
  ∀ (pins : List (Addr × Obj)) (s : Shared) (σ : St) (H : Hp) (vs : List V) (us : List Value) (Q : St → Hp → Prop), Inv X pins σ H s → Vals vs us → t vs σ H Q →
    wpAny (model X.prog X.w) X.A (assignInOrder ((assignEach ts X.env).map (·.2)) us) (fun _ s' => ∃ σ' H', Inv X pins σ' H' s' ∧ Q σ' H') X.xe s
section
variable {X : Cx} {pos : Pos}
noncomputable def gName (i : Nat) : TG := fun v σ H Q => Q (σ.set i (some v)) H
theorem pg_name {i : Nat} {x : Str} (hN : X.N.Nodup) (hi : X.N[i]? = some x) (hx : Loc X.env.scope x) (hf : X.fn x = true ∨ X.env.scope.names.lookup x = some .local := by first | exact .inl rfl | exact .inr rfl | assumption) : PG X (.Name x pos) (gName i) := by
  intro pins s σ H v u Q I r h
  exact wpAny_assign_Name (store_ok I hN hi hx r (fun s' I' => ⟨_, H, I', h⟩) hf)
noncomputable def gNil : TGs := fun vs σ H Q => vs = [] ∧ Q σ H
noncomputable def gCons (t : TG) (u : TGs) : TGs := fun vs σ H Q => ∃ v r, vs = v :: r ∧ t v σ H fun σ' H' => u r σ' H' Q
theorem pgs_nil : PGs X [] gNil := by
  intro pins s σ H vs us Q I r h
  obtain ⟨e, h⟩ := h
  subst e
  cases r
  exact assignInOrder_nil ⟨σ, H, I, h⟩
theorem pgs_cons {e : Expr} {es : List Expr} {t : TG} {u : TGs} (h1 : PG X e t) (h2 : PGs X es u)
    (hs : (assignEach (e :: es) X.env).map (·.2) = assign e X.env :: (assignEach es X.env).map (·.2) := by rfl) : PGs X (e :: es) (gCons t u) := by
  intro pins s σ H vs us Q I r h
  obtain ⟨v, vr, e1, h⟩ := h
  subst e1
  cases r with
  | cons r rr =>
    rw [hs]
    refine assignInOrder_cons (thn (h1 pins s σ H _ _ _ I r h) fun _ s1 ⟨σ1, H1, I1, q1⟩ => ?_)
    exact h2 pins s1 σ1 H1 _ _ Q I1 rr q1
/-- (a, b, ..) = a tuple of that length -/
noncomputable def gTup (K : PySem.W.Frag) (n : Nat) (t : TGs) : TG := fun v σ H Q => ∃ a xs, v = .ref a ∧ SqT K H a xs ∧ xs.length = n ∧ t xs σ H Q
theorem pg_tup {es : List Expr} {k : Nat} {t : TGs} {n : Nat} (hc : X.calm = true) (h : PGs X es t)
    (hn : (assignEach es X.env).length = n := by rfl) (hst : (assignEach es X.env).findIdx? (·.1) = none := by rfl) : PG X (.Tuple es k pos) (gTup X.K n t) := by
  intro pins s σ H v u Q I r hw
  obtain ⟨a, xs, e1, hq, hl, hw⟩ := hw
  subst e1
  cases r
  obtain ⟨its, rv, ht, hz⟩ := I.tuple hq
  refine assign_Tuple_tuple (I.ok.hd hc) ht (by simp [hn, ← hl, rv.length]) hst fun h' hx => ?_
  have I1 : Inv X pins σ H { s with heap := h' } := I.kept (t' := s.toks) fun b o e => hx b o (Nat.ne_of_lt (Heap.lt_size e)) e
  exact h pins _ σ H xs _ Q I1 (by simpa using rv) hw
/-- target = value -/
noncomputable def tAsg (te : TE) (g : TG) : TS := fun D σ H => te σ H fun x H1 => g x σ H1 D.nx
/-- name = value -/
theorem ps_set {i : Nat} {x : Str} {e : Expr} {te : TE} {pos' : Pos} (hN : X.N.Nodup) (hi : X.N[i]? = some x) (hx : Loc X.env.scope x) (he : PE X e te) (hs : swapsWith e (some (.Name x pos')) pos.line X.env = pure false := by rfl) (hf : X.fn x = true ∨ X.env.scope.names.lookup x = some .local := by first | exact .inl rfl | exact .inr rfl | assumption) :
    PS X (.Assign [.Name x pos'] e pos) (tAsg te (gName i)) := by
  intro pins s σ H D I h
  refine wpAny_Assign_Name (thn (he pins s σ H _ I h) fun v s1 ⟨y, H1, I1, r1, q1⟩ => ?_) hs
  exact store_ok I1 hN hi hx r1 (fun s2 I2 => ⟨_, H1, I2, q1⟩) hf
end

/-! ### while -/
section
variable {X : Cx} {pos : Pos}
end

/-! ### what a loop or a comprehension walks -/
/-- at turn i: it yields x (the heap may grow), or it stops -/
structure It where
  go : Nat → Hp → Prop
  yld : Nat → Hp → V → Hp → Prop
  stop : Nat → Hp → Prop
/-- the iterator's own objects may turn: they are not the frame's, not pinned, younger than the entry (or a comprehension's own) -/
noncomputable def FpOk (X : Cx) (pins : List (Addr × Obj)) (H : Hp) (b : Addr) : Prop :=
  H b = none ∧ b ≠ X.env.locals ∧ b ∉ X.fs ∧ (b ∈ X.ex ∨ X.s₀.heap.objs.size ≤ b) ∧ (∀ x c, X.env.cells.lookup x = some c → c ≠ b) ∧ ∀ p ∈ X.pn ++ pins, p.1 ≠ b
theorem Inv.fpOk {X : Cx} {pins : List (Addr × Obj)} {σ : St} {H H' : Hp} {s : Shared} {b : Addr} (I : Inv X pins σ H s) (hb : s.heap.objs.size ≤ b) (hn : H' b = none) : FpOk X pins H' b := by
  refine ⟨hn, Nat.ne_of_gt (Nat.lt_of_lt_of_le I.lt hb), I.nofs hb, .inr (Nat.le_trans I.sz hb), fun x c e z => ?_, fun p hp z => ?_⟩
  · obtain ⟨v, q⟩ := I.cell x c e
    exact absurd (Nat.lt_of_lt_of_le q.lt (by rw [z]; exact hb)) (Nat.lt_irrefl _)
  · exact absurd (Nat.lt_of_lt_of_le (Heap.lt_size (I.pin p hp).1) (by rw [z]; exact hb)) (Nat.lt_irrefl _)
structure Turn (P : Program) (w : World) (K : PySem.W.Frag) (tg : Expr) (J : It) (fp : List Addr) (it : Addr) (tn : Nat → Heap → Prop) : Prop where
  mem : it ∈ fp
  obj : ∀ i h, tn i h → ∀ b ∈ fp, ∃ o, h.get? b = some o ∧ ∀ v, o.data ≠ .cell v
  keep : ∀ i h h', tn i h → (∀ b ∈ fp, ∀ o, h.get? b = some o → h'.get? b = some o) → tn i h'
  item : ∀ (X : Cx), X.prog = P → X.w = w → X.K = K → X.calm = true → ∀ (i : Nat) (pins : List (Addr × Obj)) (s : Shared) (σ : St) (H : Hp) (E : Value → Shared → Prop), Inv X pins σ H s → (∀ b ∈ fp, FpOk X pins H b) → tn i s.heap → J.go i H →
    wpAny (model P w) X.A (pyNext (.ref it)) (fun r s1 => ∃ u, r = some u ∧
      wpAny (model P w) X.A (letOwnedTupleGo tg (.ref it) u) (fun _ s2 => ∃ x H', Inv X pins σ H' s2 ∧ RelV x u ∧ J.yld i H x H' ∧ tn (i + 1) s2.heap ∧ ∀ b ∈ fp, H' b = none) E s1) E s
  done : ∀ (X : Cx), X.prog = P → X.w = w → X.K = K → X.calm = true → ∀ (i : Nat) (pins : List (Addr × Obj)) (s : Shared) (σ : St) (H : Hp) (E : Value → Shared → Prop), Inv X pins σ H s → (∀ b ∈ fp, FpOk X pins H b) → tn i s.heap → J.stop i H →
    wpAny (model P w) X.A (pyNext (.ref it)) (fun r s1 => r = none ∧ Inv X pins σ H s1) E s
  self : ∀ (A : Around) (i : Nat) (s : Shared) (Q : Value → Shared → Prop) (E : Value → Shared → Prop), tn i s.heap → Q (.ref it) s → wpAny (model P w) A (pyIter (.ref it)) Q E s
noncomputable abbrev TI := St → Hp → (It → Hp → Prop) → Prop
/-- an iterator has come -/
noncomputable def PIE (X : Cx) (pins : List (Addr × Obj)) (σ : St) (tg : Expr) (R : It → Hp → Prop) (itv : Value) (s2 : Shared) : Prop :=
  ∃ (it : Addr) (fp : List Addr) (tn : Nat → Heap → Prop) (J : It) (H' : Hp), itv = .ref it ∧ Inv X pins σ H' s2 ∧ Turn X.prog X.w X.K tg J fp it tn ∧ tn 0 s2.heap ∧ (∀ b ∈ fp, FpOk X pins H' b) ∧ R J H'
noncomputable def PI (X : Cx) (tg iter : Expr) (wi : TI) : Prop :=
  ∀ (pins : List (Addr × Obj)) (s : Shared) (σ : St) (H : Hp) (R : It → Hp → Prop), Inv X pins σ H s → wi σ H R →
    wpAny (model X.prog X.w) X.A (eval iter X.env) (fun v s1 => wpAny (model X.prog X.w) X.A (pyIter v) (PIE X pins σ tg R) X.xe s1) X.xe s

/-- the step ahead of the store is nothing for an iterator that keeps no tuple -/
theorem go_of {M : Model} {A : Around} {E : Value → Shared → Prop} {s : Shared} {tg : Expr} {it : Addr} {u : Value} {o : Obj} {n : String} {vs : Array Value} {Q : Unit → Shared → Prop} (ho : s.heap.get? it = some o) (hc : o.cls = .type n) (hd : o.data = .fields vs)
    (hn : ["enumerate", "zip", "dict_itemiterator", "dict_reverseitemiterator", "odict_iterator", "itertools.zip_longest", "itertools.pairwise"].contains n = false) (hQ : Q () s) : wpAny M A (letOwnedTupleGo tg (.ref it) u) Q E s := by
  unfold letOwnedTupleGo
  cases tg <;> first
    | exact wpAny_pure hQ
    | (cases u <;> first
        | exact wpAny_pure hQ
        | (refine wpAny_bind (wpAny_load ho ?_)
           rw [hc, hd]
           show wpAny M A (if (["enumerate", "zip", "dict_itemiterator", "dict_reverseitemiterator", "odict_iterator", "itertools.zip_longest", "itertools.pairwise"].contains n && vs[0]? == some (rawInt _)) = true then _ else _) Q E s
           rw [if_neg (by intro h; rw [hn, Bool.false_and] at h; cases h)]
           exact wpAny_pure hQ))

/-- the list at a, as it stands at each turn (a loop may append to it) -/
noncomputable def Itl (K : PySem.W.Frag) (a : Addr) : It :=
  ⟨fun i H => ∃ xs x, SqL K H a xs ∧ xs[i]? = some x, fun i H x H' => H' = H ∧ ∀ xs, SqL K H a xs → xs[i]? = some x, fun i H => ∃ xs, SqL K H a xs ∧ xs.length ≤ i⟩
noncomputable def Itt (K : PySem.W.Frag) (a : Addr) : It :=
  ⟨fun i H => ∃ xs x, SqT K H a xs ∧ xs[i]? = some x, fun i H x H' => H' = H ∧ ∀ xs, SqT K H a xs → xs[i]? = some x, fun i H => ∃ xs, SqT K H a xs ∧ xs.length ≤ i⟩
/-- lo, lo + 1, .. (n of them) -/
noncomputable def Itr (lo : Int) (n : Nat) : It := ⟨fun i _ => i < n, fun i H x H' => H' = H ∧ x = .int (lo + i), fun i _ => n ≤ i⟩
theorem turn_list {P : Program} {w : World} {K : PySem.W.Frag} {tg : Expr} (a it : Addr) : Turn P w K tg (Itl K a) [it] it (fun i h => h.IsListIter it a i) where
  mem := by simp
  obj := fun i h st b hb => by
    have e : b = it := by simpa using hb
    subst e
    obtain ⟨o, e, c, d⟩ := st
    exact ⟨o, e, fun v z => by rw [d] at z; cases z⟩
  keep := fun i h h' st k => st.at fun o e => k it (by simp) o e
  item := by
    intro X hP hw hK hc i pins s σ H E I hf st hg
    subst hP hw hK
    obtain ⟨xs, x, hq, hx⟩ := hg
    obtain ⟨its, rv, p, hz⟩ := I.list hq
    obtain ⟨u, hu, ru⟩ := rv.get hx
    obtain ⟨f0, f1, f2, f3, f4, f5⟩ := hf it (by simp)
    refine wpAny_pyNext_list_item st p.isList (x := u) (by simpa using hu) fun h' st' sb => ?_
    have I1 : Inv X pins σ H { s with heap := h' } := I.turned (t' := s.toks) (fun b o hb e => (sb.2 b hb).trans e) f0 f1 f3 f4 f5
    obtain ⟨o, e, c, d⟩ := id st'
    exact ⟨u, rfl, go_of (s := { s with heap := h' }) e c d (by decide) ⟨x, H, I1, ru, ⟨rfl, fun ys hy => by rw [I.list_inj hy hq]; exact hx⟩, st', fun b hb => (hf b hb).1⟩⟩
  done := by
    intro X hP hw hK hc i pins s σ H E I hf st hg
    subst hP hw hK
    obtain ⟨xs, hq, hx⟩ := hg
    obtain ⟨its, rv, p, hz⟩ := I.list hq
    obtain ⟨f0, f1, f2, f3, f4, f5⟩ := hf it (by simp)
    have hl := rv.length
    exact wpAny_pyNext_list_end (I.ok.hd hc) st p.isList (by simp; omega) fun h' eb => ⟨rfl, I.turned (t' := s.toks) (fun b o hb e => eb b o hb e) f0 f1 f3 f4 f5⟩
  self := fun _ _ _ _ _ st h => wpAny_pyIter_listiter st h
theorem turn_tuple {P : Program} {w : World} {K : PySem.W.Frag} {tg : Expr} (a it : Addr) : Turn P w K tg (Itt K a) [it] it (fun i h => h.IsTupleIter it a i) where
  mem := by simp
  obj := fun i h st b hb => by
    have e : b = it := by simpa using hb
    subst e
    obtain ⟨o, e, c, d⟩ := st
    exact ⟨o, e, fun v z => by rw [d] at z; cases z⟩
  keep := fun i h h' st k => st.at fun o e => k it (by simp) o e
  item := by
    intro X hP hw hK hc i pins s σ H E I hf st hg
    subst hP hw hK
    obtain ⟨xs, x, hq, hx⟩ := hg
    obtain ⟨its, rv, p, hz⟩ := I.tuple hq
    obtain ⟨u, hu, ru⟩ := rv.get hx
    obtain ⟨f0, f1, f2, f3, f4, f5⟩ := hf it (by simp)
    refine wpAny_pyNext_tuple_item st (show s.heap.IsTuple a its.toArray from p) (x := u) (by simpa using hu) fun h' st' sb => ?_
    have I1 : Inv X pins σ H { s with heap := h' } := I.turned (t' := s.toks) (fun b o hb e => (sb.2 b hb).trans e) f0 f1 f3 f4 f5
    obtain ⟨o, e, c, d⟩ := id st'
    exact ⟨u, rfl, go_of (s := { s with heap := h' }) e c d (by decide) ⟨x, H, I1, ru, ⟨rfl, fun ys hy => by rw [I.tuple_inj hy hq]; exact hx⟩, st', fun b hb => (hf b hb).1⟩⟩
  done := by
    intro X hP hw hK hc i pins s σ H E I hf st hg
    subst hP hw hK
    obtain ⟨xs, hq, hx⟩ := hg
    obtain ⟨its, rv, p, hz⟩ := I.tuple hq
    obtain ⟨f0, f1, f2, f3, f4, f5⟩ := hf it (by simp)
    have hl := rv.length
    exact wpAny_pyNext_tuple_end (I.ok.hd hc) st (show s.heap.IsTuple a its.toArray from p) (by simp; omega) fun h' eb => ⟨rfl, I.turned (t' := s.toks) (fun b o hb e => eb b o hb e) f0 f1 f3 f4 f5⟩
  self := fun _ _ _ _ _ st h => wpAny_pyIter_tupleiter st h
theorem turn_range {P : Program} {w : World} {K : PySem.W.Frag} {tg : Expr} (it : Addr) (lo : Int) (n : Nat) : Turn P w K tg (Itr lo n) [it] it (fun i h => IsRangeIter h it (lo + (i : Nat) * 1) ((n : Int) - (i : Nat)) 1) where
  mem := by simp
  obj := fun i h st b hb => by
    have e : b = it := by simpa using hb
    subst e
    exact ⟨_, st, fun v z => by
      have z' : Data.fields _ = Data.cell v := z
      cases z'⟩
  keep := fun i h h' st k => k it (by simp) _ st
  item := by
    intro X hP hw hK hc i pins s σ H E I hf st hg
    subst hP hw hK
    obtain ⟨f0, f1, f2, f3, f4, f5⟩ := hf it (by simp)
    have W := Walks.range (prog := X.prog) (w := X.w) (I.ok.hd hc) it lo 1 n
    refine W.item i s _ _ hg st fun v h' tk hv st' kk => ?_
    obtain ⟨t, rfl⟩ := hv
    have I1 : Inv X pins σ H { s with heap := h', toks := tk } := I.turned (fun b o hb e => kk b o (by simpa using hb) e) f0 f1 f3 f4 f5
    refine ⟨_, rfl, go_of (s := { s with heap := h', toks := tk }) (n := "range_iterator") st' rfl rfl (by decide) ⟨.int (lo + i), H, I1, ⟨t, ?_⟩, ⟨rfl, rfl⟩, st', fun b hb => (hf b hb).1⟩⟩
    rw [Int.mul_one]
  done := by
    intro X hP hw hK hc i pins s σ H E I hf st hg
    subst hP hw hK
    obtain ⟨f0, f1, f2, f3, f4, f5⟩ := hf it (by simp)
    exact wpAny_pyNext_range_end (I.ok.hd hc) st (by have : n ≤ i := hg; omega) fun h' eb => ⟨rfl, I.turned (t' := s.toks) (fun b o hb e => eb b o hb e) f0 f1 f3 f4 f5⟩
  self := fun _ _ _ _ _ st h => wpAny_pyIter_rangeiter st h
end L2

namespace L2
open PySem PySem.Spec PyProof.Rows
section
variable {X : Cx} {tg : Expr}
/-- a range object just made, walked -/
theorem range_it {pins : List (Addr × Obj)} {σ : St} {H : Hp} {s : Shared} {R : It → Hp → Prop} {E : Value → Shared → Prop} {lo hi : Int} {t u v : Tok} {tk : Nat} (I : Inv X pins σ H s) (h1 : -(2 ^ 62) ≤ lo) (h2 : lo < 2 ^ 62) (h3 : -(2 ^ 62) ≤ hi) (h4 : hi < 2 ^ 62)
    (q : R (Itr lo (hi - lo).toNat) H) : wpAny (model X.prog X.w) X.A (pyIter (.ref s.heap.objs.size)) (PIE X pins σ tg R) E { s with heap := s.heap.push { cls := .type "range", data := .fields #[.int lo t, .int hi u, .int 1 v] }, toks := tk } := by
  refine wpAny_pyIter_range (IsRange.new ..) (small_one h1 h2 h3 h4) ?_
  have I1 : Inv X pins σ H { s with heap := s.heap.push { cls := .type "range", data := .fields #[.int lo t, .int hi u, .int 1 v] }, toks := tk } := I.kept fun b o e => Heap.get?_push_of_some _ e
  refine ⟨(s.heap.push { cls := .type "range", data := .fields #[.int lo t, .int hi u, .int 1 v] }).objs.size, [(s.heap.push { cls := .type "range", data := .fields #[.int lo t, .int hi u, .int 1 v] }).objs.size], _, _, H, rfl,
    I1.kept (t' := tk) fun b o e => Heap.get?_push_of_some _ e, turn_range _ lo (hi - lo).toNat, ?_, fun b hb => ?_, q⟩
  · have e1 : lo + ((0 : Nat) : Int) * 1 = lo := by simp
    have e2 : (((hi - lo).toNat : Nat) : Int) - ((0 : Nat) : Int) = Builtin.Range.rangeSize lo hi 1 := by rw [rangeSize_one]; split <;> omega
    show IsRangeIter _ _ (lo + ((0 : Nat) : Int) * 1) ((((hi - lo).toNat : Nat) : Int) - ((0 : Nat) : Int)) 1
    rw [e1, e2]
    exact Heap.get?_push_size _ rfl
  · have e : b = (s.heap.push { cls := .type "range", data := .fields #[.int lo t, .int hi u, .int 1 v] }).objs.size := by simpa using hb
    subst e
    exact I1.fpOk (Nat.le_refl _) (I1.hok.fresh (Nat.le_refl _))
noncomputable def iRng1 (ta : TA) : TI := fun σ H R => ta σ H fun vs H1 => ∃ j : Int, vs = [.int j] ∧ -(2 ^ 62) ≤ j ∧ j < 2 ^ 62 ∧ R (Itr 0 j.toNat) H1
theorem pi_range1 {a : Expr} {ta : TA} {p pos : Pos} (hg : Gl X "range") (hm : X.mg "range" = none) (ha : PA X [a] ta) (hs : starEach [a] X.env = [(false, eval a X.env)] := by rfl) : PI X tg (.Call (.Name "range" p) [a] [] pos) (iRng1 ta) := by
  intro pins s σ H R I h
  refine Call_ (ld_blt I hg hm boot_range (PyProof.Rows.callWith_type1 (thn (ha pos pins s σ H _ I h) fun us s1 ⟨vs, H1, I1, r1, q1⟩ => ?_) hs rfl))
  obtain ⟨j, e, q1, q2, q⟩ := q1
  subst e
  cases r1 with
  | cons r rr =>
    cases rr
    obtain ⟨t, rfl⟩ := r
    exact call_range_1 (range_it I1 (by omega) (by omega) q1 q2 (by simpa using q))
/-! ### for -/
/-- W: the invariant by the turn and a measure; N: what the body is to reach -/
noncomputable def tFor (wi : TI) (g : TG) (tb : TS) : TS := fun D σ H => wi σ H fun J H1 => ∃ W : Nat → Nat → St → Hp → Prop, (∃ m, W 0 m σ H1) ∧ ∀ i m σ H, W i m σ H →
  (J.stop i H ∧ D.nx σ H) ∨ (J.go i H ∧ ∃ N : St → Hp → Prop, (∀ σ' H', N σ' H' → ∃ m', m' < m ∧ W (i + 1) m' σ' H') ∧ ∀ x H', J.yld i H x H' → g x σ H' fun σ2 H2 => tb { D with nx := N, ct := N, bk := D.nx } σ2 H2)
/-- the records at fp as they stand -/
noncomputable def pinsAt (fp : List Addr) (h : Heap) : List (Addr × Obj) := fp.filterMap fun b => (h.get? b).map fun o => (b, o)
theorem mem_pinsAt {fp : List Addr} {h : Heap} {b : Addr} {o : Obj} (hb : b ∈ fp) (e : h.get? b = some o) : (b, o) ∈ pinsAt fp h := List.mem_filterMap.mpr ⟨b, hb, by rw [e]; rfl⟩
theorem of_pinsAt {fp : List Addr} {h : Heap} {p : Addr × Obj} (hp : p ∈ pinsAt fp h) : p.1 ∈ fp ∧ h.get? p.1 = some p.2 := by
  obtain ⟨b, hb, e⟩ := List.mem_filterMap.mp hp
  cases q : h.get? b with
  | none => rw [q] at e; cases e
  | some o =>
    rw [q] at e
    have e' : (b, o) = p := Option.some.inj e
    subst e'
    exact ⟨hb, q⟩
theorem Inv.pinned {pins : List (Addr × Obj)} {σ : St} {H : Hp} {s : Shared} {fp : List Addr} (I : Inv X pins σ H s) (hf : ∀ b ∈ fp, FpOk X pins H b) (ho : ∀ b ∈ fp, ∃ o, s.heap.get? b = some o ∧ ∀ v, o.data ≠ .cell v) : Inv X (pins ++ pinsAt fp s.heap) σ H s :=
  I.pins_of fun p hp => (List.mem_append.mp hp).elim (fun z => I.pin p (List.mem_append_right _ z)) fun z => by
    obtain ⟨hb, e⟩ := of_pinsAt z
    obtain ⟨f0, f1, f2, _⟩ := hf p.1 hb
    obtain ⟨o, e', d⟩ := ho p.1 hb
    rw [e] at e'; cases e'
    exact ⟨e, f0, f1, f2, d⟩
theorem Inv.unpinned {pins pl : List (Addr × Obj)} {σ : St} {H : Hp} {s : Shared} (I : Inv X (pins ++ pl) σ H s) : Inv X pins σ H s := I.pins_of fun p hp => I.pin p (List.mem_append_right _ (List.mem_append_left _ hp))
theorem ps_for {iter : Expr} {body : List Stmt} {wi : TI} {g : TG} {tb : TS} {pos : Pos} (hp : PassesOwn (model X.prog X.w) X.A X.env X.xe) (hc : X.calm = true) (hi : PI X tg iter wi) (hg : PG X tg g) (hb : PSs X body tb)
    (hs : ∀ x, foldedSetIterable iter X.env x = pure x := by intro _; rfl) : PS X (.For tg iter body [] pos) (tFor wi g tb) := by
  intro pins s σ H D I h
  refine wpAny_For (thn (hi pins s σ H _ I h) fun v s1 h1 => thn h1 fun itv s2 h2 => ?_) hs
  obtain ⟨it, fp, tn, J, H2, e, I2, T, st2, f2, W, ⟨m0, w0⟩, turn⟩ := h2
  subst e
  -- what stays true of the iterator's objects through the loop
  have stat : ∀ {H' : Hp}, (∀ b ∈ fp, H' b = none) → ∀ b ∈ fp, FpOk X pins H' b := fun hn b hb => ⟨hn b hb, (f2 b hb).2⟩
  refine codeAny_forLoop_any (fun n s' => ∃ i σ' H', Inv X pins σ' H' s' ∧ tn i s'.heap ∧ (∀ b ∈ fp, H' b = none) ∧ W i n σ' H') ?_ m0 ⟨0, σ, H2, I2, st2, fun b hb => (f2 b hb).1, w0⟩
  rintro n s3 ⟨i, σ3, H3, I3, st3, fr3, w3⟩
  rcases turn i n σ3 H3 w3 with ⟨stop, qn⟩ | ⟨go, N, hN, step⟩
  · refine wpAny_passesOwn hp (thn (T.done X rfl rfl rfl hc i pins s3 σ3 H3 X.xe I3 (stat fr3) st3 stop) fun r s4 ⟨hr, I4⟩ => ?_)
    subst hr
    exact wpAny_execs_nil ⟨σ3, H3, I4, qn⟩
  · refine wpAny_passesOwn hp (thn (T.item X rfl rfl rfl hc i pins s3 σ3 H3 X.xe I3 (stat fr3) st3 go) fun r s4 ⟨u, hr, h4⟩ => ?_)
    subst hr
    refine wpAny_passesOwn hp (thn h4 fun _ s5 ⟨x, H5, I5, r5, y5, st5, fr5⟩ => ?_)
    have I5' := I5.pinned (stat fr5) (T.obj _ _ st5)
    refine wpAny_passesOwn hp (thn (hg _ s5 σ3 H5 x u _ I5' r5 (step x H5 y5)) fun _ s6 ⟨σ6, H6, I6, q6⟩ => ?_)
    refine wpAny_passesOwn hp (thn (hb _ s6 σ6 H6 _ I6 q6) fun f s7 q7 => ?_)
    have again : ∀ {σ7 : St} {H7 : Hp}, Inv X (pins ++ pinsAt fp s5.heap) σ7 H7 s7 → N σ7 H7 → ∃ m, m < n ∧ ∃ i σ' H', Inv X pins σ' H' s7 ∧ tn i s7.heap ∧ (∀ b ∈ fp, H' b = none) ∧ W i m σ' H' := fun {σ7 H7} I7 n7 => by
      obtain ⟨m', hm, w7⟩ := hN σ7 H7 n7
      refine ⟨m', hm, i + 1, σ7, H7, I7.unpinned, T.keep _ _ _ st5 fun b hb o e => (I7.pin (b, o) (List.mem_append_right _ (List.mem_append_right _ (mem_pinsAt hb e)))).1, fun b hb => ?_, w7⟩
      obtain ⟨o, e, d⟩ := T.obj _ _ st5 b hb
      exact (I7.pin (b, o) (List.mem_append_right _ (List.mem_append_right _ (mem_pinsAt hb e)))).2.1
    cases f with
    | next => obtain ⟨σ7, H7, I7, n7⟩ := q7; exact again I7 n7
    | cont => obtain ⟨σ7, H7, I7, n7⟩ := q7; exact again I7 n7
    | brk => obtain ⟨σ7, H7, I7, q7⟩ := q7; exact ⟨σ7, H7, I7.unpinned, q7⟩
    | ret v => obtain ⟨x7, σ7, H7, I7, r7, q7⟩ := q7; exact ⟨x7, σ7, H7, I7.unpinned, r7, q7⟩
end

end L2

namespace L2
open PySem PySem.Spec PyProof.Rows

noncomputable abbrev R2 := V → V → Hp → VK → Prop
/-- a two-place operation on values: f is binaryOp op, inplaceOp op or compareOp op -/
noncomputable def OpR (X : Cx) (f : Value → Value → Sem Value) (r : R2) : Prop :=
  ∀ (pins : List (Addr × Obj)) (s : Shared) (σ : St) (H : Hp) (x y : V) (v u : Value) (Q : VK), Inv X pins σ H s → RelV x v → RelV y u → r x y H Q →
    wpAny (model X.prog X.w) X.A (f v u) (EP X pins σ Q) X.xe s
/-- a call of a value that is known (a builtin, a type) with values -/
noncomputable def CallR (X : Cx) (f : Value) (r : List V → Hp → VK → Prop) : Prop :=
  ∀ (pins : List (Addr × Obj)) (s : Shared) (σ : St) (H : Hp) (xs : List V) (us : List Value) (Q : VK), Inv X pins σ H s → Vals xs us → r xs H Q →
    wpAny (model X.prog X.w) X.A (call f us) (EP X pins σ Q) X.xe s
/-- a value's truth -/
noncomputable def TruR (X : Cx) (r : V → Hp → (Bool → Hp → Prop) → Prop) : Prop :=
  ∀ (pins : List (Addr × Obj)) (s : Shared) (σ : St) (H : Hp) (x : V) (v : Value) (Q : Bool → Hp → Prop), Inv X pins σ H s → RelV x v → r x H Q →
    wpAny (model X.prog X.w) X.A (truthy v) (TP X pins σ Q) X.xe s

noncomputable def tOp (r : R2) (ta tb : TE) : TE := fun σ H Q => ta σ H fun x H1 => tb σ H1 fun y H2 => r x y H2 Q
/-- ints in, under C, and a value out -/
noncomputable def rI (C : Int → Int → Prop) (g : Int → Int → V) : R2 := fun x y H Q => ∃ i j, x = .int i ∧ y = .int j ∧ C i j ∧ Q (g i j) H
noncomputable def rI0 (g : Int → Int → V) : R2 := fun x y H Q => ∃ i j, x = .int i ∧ y = .int j ∧ Q (g i j) H
section
variable {X : Cx} {a b c : Expr} {ta tb tc : TE} {pos : Pos}

theorem binT (ha : PE X a ta) (hb : PE X b tb) {pins : List (Addr × Obj)} {s : Shared} {σ : St} {H : Hp} {R : V → V → Hp → Prop} (I : Inv X pins σ H s)
    (h : ta σ H fun x H1 => tb σ H1 fun y H2 => R x y H2) {Q : Value → Shared → Prop} {f : Value → Value → Sem Value}
    (hf : ∀ v u s2 x y H2, Inv X pins σ H2 s2 → RelV x v → RelV y u → R x y H2 → wpAny (model X.prog X.w) X.A (f v u) Q X.xe s2) :
    wpAny (model X.prog X.w) X.A (eval a X.env) (fun v s₁ => wpAny (model X.prog X.w) X.A (eval b X.env) (fun u s₂ => wpAny (model X.prog X.w) X.A (f v u) Q X.xe s₂) X.xe s₁) X.xe s := by
  refine thn (ha pins s σ H _ I h) fun v s1 ⟨x, H1, I1, r1, q1⟩ => ?_
  refine thn (hb pins s1 σ H1 _ I1 q1) fun u s2 ⟨y, H2, I2, r2, q2⟩ => ?_
  exact hf v u s2 x y H2 I2 r1 r2 q2

theorem pe_op {op : Operator} {r : R2} (ho : OpR X (binaryOp op) r) (ha : PE X a ta) (hb : PE X b tb) : PE X (.BinOp a op b pos) (tOp r ta tb) := by
  intro pins s σ H Q I h
  exact wpAny_BinOp (binT ha hb I h fun v u s2 x y H2 I2 rx ry q => ho pins s2 σ H2 x y v u Q I2 rx ry q)
/-! ### ints -/
theorem opI {f : Value → Value → Sem Value} {C : Int → Int → Prop} {g : Int → Int → Int}
    (rule : ∀ (i j : Int) (t u : Tok) (s : Shared) (Q : Value → Shared → Prop) (E : Value → Shared → Prop), C i j → Q (.int (g i j) s.toks) { s with toks := s.toks + 1 } → wpAny (model X.prog X.w) X.A (f (.int i t) (.int j u)) Q E s) :
    OpR X f (rI C fun i j => .int (g i j)) := by
  intro pins s σ H x y v u Q I rx ry h
  obtain ⟨i, j, rfl, rfl, hc, q⟩ := h
  obtain ⟨t, rfl⟩ := rx
  obtain ⟨t', rfl⟩ := ry
  exact rule i j t t' s _ _ hc ⟨.int (g i j), H, I.tok _, ⟨_, rfl⟩, q⟩
theorem opI0 {f : Value → Value → Sem Value} {g : Int → Int → Int}
    (rule : ∀ (i j : Int) (t u : Tok) (s : Shared) (Q : Value → Shared → Prop) (E : Value → Shared → Prop), Q (.int (g i j) s.toks) { s with toks := s.toks + 1 } → wpAny (model X.prog X.w) X.A (f (.int i t) (.int j u)) Q E s) :
    OpR X f (rI0 fun i j => .int (g i j)) := by
  intro pins s σ H x y v u Q I rx ry h
  obtain ⟨i, j, rfl, rfl, q⟩ := h
  obtain ⟨t, rfl⟩ := rx
  obtain ⟨t', rfl⟩ := ry
  exact rule i j t t' s _ _ ⟨.int (g i j), H, I.tok _, ⟨_, rfl⟩, q⟩
theorem opB0 {f : Value → Value → Sem Value} {g : Int → Int → Bool}
    (rule : ∀ (i j : Int) (t u : Tok) (s : Shared) (Q : Value → Shared → Prop) (E : Value → Shared → Prop), Q (.bool (g i j)) s → wpAny (model X.prog X.w) X.A (f (.int i t) (.int j u)) Q E s) :
    OpR X f (rI0 fun i j => .bl (g i j)) := by
  intro pins s σ H x y v u Q I rx ry h
  obtain ⟨i, j, rfl, rfl, q⟩ := h
  obtain ⟨t, rfl⟩ := rx
  obtain ⟨t', rfl⟩ := ry
  exact rule i j t t' s _ _ ⟨.bl (g i j), H, I, rfl, q⟩

noncomputable def CDiv (i j : Int) : Prop := 0 < j ∧ j < 1073741824
noncomputable def CPow (i j : Int) : Prop := 0 ≤ j ∧ j ≤ 1000000 ∧ i.natAbs < 2 ^ 64
noncomputable def CMul (i j : Int) : Prop := (-(2 ^ 64) < i ∧ i < 2 ^ 64) ∨ (-(2 ^ 64) < j ∧ j < 2 ^ 64)
theorem CMul.ok {i j : Int} (h : CMul i j) : IntMulOk i j := by
  rcases h with ⟨h1, h2⟩ | ⟨h1, h2⟩
  · exact .of_left (intBits_le_64 h1 h2)
  · exact .of_right (intBits_le_64 h1 h2)
theorem op_add : OpR X (binaryOp .Add) (rI0 fun i j => .int (i + j)) := opI0 fun _ _ _ _ _ _ _ q => add_int q
/-- // by a positive divisor -/
theorem op_fdiv : OpR X (binaryOp .FloorDiv) (rI CDiv fun i j => .int (i / j)) := opI fun i j _ _ _ _ _ hc q => by
  have h1 : (0 : Int) < j := hc.1
  have h2 : j < 1073741824 := hc.2
  exact floordiv_int (by omega) (by rw [Int.fdiv_eq_ediv_of_nonneg i (by omega)]; exact q) (.inl (PyProof.noPylong_small (by omega)))
/-- % by a positive divisor of any size -/
theorem op_mod : OpR X (binaryOp .Mod) (rI (fun _ j => 0 < j) fun i j => .int (i % j)) := opI fun i j _ _ _ _ _ hc q => by
  have h1 : (0 : Int) < j := hc
  exact mod_int' (by omega) (by rw [Int.fmod_eq_emod_of_nonneg i (by omega)]; exact q)
theorem op_pow : OpR X (binaryOp .Pow) (rI CPow fun i j => .int (i ^ j.toNat)) := opI fun _ _ _ _ _ _ _ hc q => pow_int_small hc.1 hc.2.1 hc.2.2 q
end

/-! ### comparisons -/
/-- the scalars that == tells apart as data does -/
noncomputable def scal : V → V → Bool
  | .non, .non => true | .non, .int _ => true | .int _, .non => true | .non, .bl _ => true | .bl _, .non => true | .non, .str _ => true | .str _, .non => true
  | .int _, .int _ => true | .bl _, .bl _ => true | .str _, .str _ => true | .byt _, .byt _ => true
  | .int _, .str _ => true | .str _, .int _ => true | .bl _, .str _ => true | .str _, .bl _ => true
  | _, _ => false
noncomputable def rEq : R2 := fun x y H Q => scal x y = true ∧ Q (.bl (decide (x = y))) H
noncomputable def rNe : R2 := fun x y H Q => scal x y = true ∧ Q (.bl (!decide (x = y))) H

theorem dec_int {i j : Int} : decide (V.int i = V.int j) = (i == j) := by
  rw [Bool.eq_iff_iff]
  simp
theorem dec_bl {i j : Bool} : decide (V.bl i = V.bl j) = (i == j) := by
  rw [Bool.eq_iff_iff]
  simp
theorem dec_str {i j : Str} : decide (V.str i = V.str j) = (i == j) := by
  rw [Bool.eq_iff_iff]
  simp
theorem dec_byt {i j : Array UInt8} : decide (V.byt i = V.byt j) = (i.toList == j.toList) := by
  rw [Bool.eq_iff_iff]
  cases i
  cases j
  simp

section
variable {X : Cx} {a b c : Expr} {ta tb tc : TE} {pos : Pos}
theorem fin_bl {pins : List (Addr × Obj)} {σ : St} {H : Hp} {s : Shared} {Q : VK} {k k' : Bool} (I : Inv X pins σ H s) (q : Q (.bl k) H) (e : k = k') : EP X pins σ Q (.bool k') s := by
  subst e
  exact ⟨.bl k, H, I, rfl, q⟩
theorem op_eq : OpR X (compareOp .Eq) rEq := by
  intro pins s σ H x y v u Q I rx ry h
  obtain ⟨hs, q⟩ := h
  cases x with
  | non =>
    cases rx
    cases y with
    | non => cases ry; exact PySem.EqNone.eq_none_none (fin_bl I q (by simp))
    | bl j => cases ry; exact PySem.EqNone.eq_none_bool (fin_bl I q (by simp))
    | int j => obtain ⟨t', rfl⟩ := ry; exact PySem.EqNone.eq_none_int (fin_bl I q (by simp))
    | str j => obtain ⟨t', rfl⟩ := ry; exact PySem.EqNone.eq_none_str (fin_bl I q (by simp))
    | _ => exact absurd (show false = true from hs) Bool.false_ne_true
  | bl i =>
    cases rx
    cases y with
    | non => cases ry; exact PySem.EqNone.eq_bool_none (fin_bl I q (by simp))
    | bl j => cases ry; exact eq_bool (fin_bl I q dec_bl)
    | str j => obtain ⟨t', rfl⟩ := ry; exact PySem.EqMixed.eq_bool_str (fin_bl I q (by simp))
    | _ => exact absurd (show false = true from hs) Bool.false_ne_true
  | int i =>
    obtain ⟨t, rfl⟩ := rx
    cases y with
    | non => cases ry; exact PySem.EqNone.eq_int_none (fin_bl I q (by simp))
    | int j => obtain ⟨t', rfl⟩ := ry; exact eq_int (fin_bl I q dec_int)
    | str j => obtain ⟨t', rfl⟩ := ry; exact PySem.EqMixed.eq_int_str (fin_bl I q (by simp))
    | _ => exact absurd (show false = true from hs) Bool.false_ne_true
  | str i =>
    obtain ⟨t, rfl⟩ := rx
    cases y with
    | non => cases ry; exact PySem.EqNone.eq_str_none (fin_bl I q (by simp))
    | bl j => cases ry; exact PySem.EqMixed.eq_str_bool (fin_bl I q (by simp))
    | int j => obtain ⟨t', rfl⟩ := ry; exact PySem.EqMixed.eq_str_int (fin_bl I q (by simp))
    | str j => obtain ⟨t', rfl⟩ := ry; exact eq_str (fin_bl I q dec_str)
    | _ => exact absurd (show false = true from hs) Bool.false_ne_true
  | byt i =>
    obtain ⟨t, rfl⟩ := rx
    cases y with
    | byt j => obtain ⟨t', rfl⟩ := ry; exact PySem.W.eq_bytes (fin_bl I q dec_byt)
    | _ => exact absurd (show false = true from hs) Bool.false_ne_true
  | _ => cases y <;> exact absurd (show false = true from hs) Bool.false_ne_true
theorem op_ne : OpR X (compareOp .NotEq) rNe := by
  intro pins s σ H x y v u Q I rx ry h
  obtain ⟨hs, q⟩ := h
  cases x with
  | non =>
    cases rx
    cases y with
    | non => cases ry; exact PySem.EqNone.ne_none_none (fin_bl I q (by simp))
    | bl j => cases ry; exact PySem.EqNone.ne_none_bool (fin_bl I q (by simp))
    | int j => obtain ⟨t', rfl⟩ := ry; exact PySem.EqNone.ne_none_int (fin_bl I q (by simp))
    | str j => obtain ⟨t', rfl⟩ := ry; exact PySem.EqNone.ne_none_str (fin_bl I q (by simp))
    | _ => exact absurd (show false = true from hs) Bool.false_ne_true
  | bl i =>
    cases rx
    cases y with
    | non => cases ry; exact PySem.EqNone.ne_bool_none (fin_bl I q (by simp))
    | bl j => cases ry; exact ne_bool (fin_bl I q (congrArg not dec_bl))
    | str j => obtain ⟨t', rfl⟩ := ry; exact PySem.EqMixed.ne_bool_str (fin_bl I q (by simp))
    | _ => exact absurd (show false = true from hs) Bool.false_ne_true
  | int i =>
    obtain ⟨t, rfl⟩ := rx
    cases y with
    | non => cases ry; exact PySem.EqNone.ne_int_none (fin_bl I q (by simp))
    | int j => obtain ⟨t', rfl⟩ := ry; exact ne_int (fin_bl I q (congrArg not dec_int))
    | str j => obtain ⟨t', rfl⟩ := ry; exact PySem.EqMixed.ne_int_str (fin_bl I q (by simp))
    | _ => exact absurd (show false = true from hs) Bool.false_ne_true
  | str i =>
    obtain ⟨t, rfl⟩ := rx
    cases y with
    | non => cases ry; exact PySem.EqNone.ne_str_none (fin_bl I q (by simp))
    | bl j => cases ry; exact PySem.EqMixed.ne_str_bool (fin_bl I q (by simp))
    | int j => obtain ⟨t', rfl⟩ := ry; exact PySem.EqMixed.ne_str_int (fin_bl I q (by simp))
    | str j => obtain ⟨t', rfl⟩ := ry; exact ne_str (fin_bl I q (congrArg not dec_str))
    | _ => exact absurd (show false = true from hs) Bool.false_ne_true
  | byt i =>
    obtain ⟨t, rfl⟩ := rx
    cases y with
    | byt j => obtain ⟨t', rfl⟩ := ry; exact PySem.W.ne_bytes (fin_bl I q (congrArg not dec_byt))
    | _ => exact absurd (show false = true from hs) Bool.false_ne_true
  | _ => cases y <;> exact absurd (show false = true from hs) Bool.false_ne_true

theorem op_lt : OpR X (compareOp .Lt) (rI0 fun i j => .bl (decide (i < j))) := opB0 fun _ _ _ _ _ _ _ q => lt_int q
theorem op_ge : OpR X (compareOp .GtE) (rI0 fun i j => .bl (decide (j ≤ i))) := opB0 fun _ _ _ _ _ _ _ q => ge_int q
/-- is None, is not None: the right side a value none -/
theorem op_isN : OpR X (compareOp .Is) (fun x y H Q => y = .non ∧ Q (.bl (decide (x = .non))) H) := by
  intro pins s σ H x y v u Q I rx ry h
  obtain ⟨rfl, q⟩ := h
  cases ry
  refine is_none_gen (fin_bl I q ?_)
  cases x <;> first
    | (cases rx; rfl)
    | (obtain ⟨t, rfl⟩ := rx; rfl)
/-- two rules for one operation: by cases -/
theorem OpR.or {f : Value → Value → Sem Value} {r r' : R2} (h : OpR X f r) (h' : OpR X f r') : OpR X f (fun x y H Q => r x y H Q ∨ r' x y H Q) := by
  intro pins s σ H x y v u Q I rx ry q
  rcases q with q | q
  · exact h pins s σ H x y v u Q I rx ry q
  · exact h' pins s σ H x y v u Q I rx ry q

theorem nomark (b : Expr) {op : CmpOp} (h : op ≠ .In := by decide) (h2 : op ≠ .NotIn := by decide) : behindInMarks op b = false := by
  have e1 : (op == CmpOp.In) = false := by cases op <;> first | rfl | exact absurd rfl h
  have e2 : (op == CmpOp.NotIn) = false := by cases op <;> first | rfl | exact absurd rfl h2
  cases b <;> simp [behindInMarks, e1, e2]
/-- a comparison as a value; hm: nomark b, or (for in, not in) by with_unfolding_all rfl -/
theorem pe_cmpR {op : CmpOp} {r : R2} (ho : OpR X (compareOp op) r) (ha : PE X a ta) (hb : PE X b tb) (hm : behindInMarks op b = false) : PE X (.Compare a [op] [b] pos) (tOp r ta tb) := by
  intro pins s σ H Q I h
  exact wpAny_Compare1 (binT ha hb I h fun v u s2 x y H2 I2 rx ry q => ho pins s2 σ H2 x y v u Q I2 rx ry q) hm
/-- a reading of a value as a test -/
noncomputable def tTest (t : TE) : TT := fun σ H Q => t σ H fun x H' => ∃ k, x = .bl k ∧ Q k H'
theorem pt_cmpR {op : CmpOp} {r : R2} (ho : OpR X (compareOp op) r) (ha : PE X a ta) (hb : PE X b tb) (hm : behindInMarks op b = false) : PT X (.Compare a [op] [b] pos) (tTest (tOp r ta tb)) := by
  intro pins s σ H Q I h
  refine wpAny_isTrue_Compare1 (thn (ha pins s σ H _ I h) fun v s1 ⟨x, H1, I1, r1, q1⟩ => thn (hb pins s1 σ H1 _ I1 q1) fun u s2 ⟨y, H2, I2, r2, q2⟩ =>
    thn (ho pins s2 σ H2 x y v u _ I2 r1 r2 q2) fun c s3 ⟨z, H3, I3, r3, k, e, q3⟩ => ?_) hm
  subst e
  cases r3
  exact wpAny_truthy_bool ⟨H3, I3, q3⟩
/-! ### truth -/
/-- a value's truth by the abstract heap -/
noncomputable def TruV (K : PySem.W.Frag) (x : V) (H : Hp) (k : Bool) : Prop :=
  match x with
  | .non => k = false
  | .bl b => k = b
  | .int i => k = (i != 0)
  | .str y => y.length ≤ sizeLine ∧ k = ((y.length : Int) != 0)
  | .byt y => y.size ≤ sizeLine ∧ k = ((y.size : Int) != 0)
  | .ref p => (∃ xs, SqL K H p xs ∧ k = !xs.isEmpty) ∨ (∃ xs, SqT K H p xs ∧ k = !xs.isEmpty) ∨ ∃ kvs, H p = some (.dK kvs) ∧ k = !kvs.isEmpty
  | _ => False
theorem isEmpty_kv {κ : Type} {kvs : List (κ × V)} {vs : List (κ × Value)} (r : KV kvs vs) : (!vs.isEmpty) = !kvs.isEmpty := by
  cases r <;> rfl
theorem isEmpty_of {xs : List V} {its : List Value} (r : Vals xs its) : (!its.toArray.isEmpty) = !xs.isEmpty := by
  cases r <;> simp
theorem line63 : (sizeLine : Nat) < 2 ^ 63 := by rw [sizeLine_eq]; decide
theorem tru_ok : TruR X (fun x H Q => ∃ k, TruV X.K x H k ∧ Q k H) := by
  intro pins s σ H x v Q I rx h
  obtain ⟨k, e, q⟩ := h
  have hl := line63
  have hs : sizeLine = 16777216 := sizeLine_eq
  cases x with
  | non =>
    cases rx
    have e' : k = false := e
    subst e'
    exact truthy_none ⟨H, I, q⟩
  | bl b =>
    cases rx
    have e' : k = b := e
    subst e'
    exact wpAny_truthy_bool ⟨H, I, q⟩
  | int i =>
    obtain ⟨t, rfl⟩ := rx
    have e' : k = (i != 0) := e
    subst e'
    exact PySem.P.truthy_int ⟨H, I, q⟩
  | str y =>
    obtain ⟨t, rfl⟩ := rx
    obtain ⟨hy, e'⟩ : y.length ≤ sizeLine ∧ k = ((y.length : Int) != 0) := e
    subst e'
    exact PySem.P.truthy_str (by omega) ⟨H, I.tok _, q⟩
  | byt y =>
    obtain ⟨t, rfl⟩ := rx
    obtain ⟨hy, e'⟩ : y.size ≤ sizeLine ∧ k = ((y.size : Int) != 0) := e
    subst e'
    exact PySem.W.truthy_bytes (by omega) ⟨H, I.tok _, q⟩
  | ref p =>
    cases rx
    have e' : (∃ xs, SqL X.K H p xs ∧ k = !xs.isEmpty) ∨ (∃ xs, SqT X.K H p xs ∧ k = !xs.isEmpty) ∨ ∃ kvs, H p = some (.dK kvs) ∧ k = !kvs.isEmpty := e
    rcases e' with ⟨xs, hx, e'⟩ | ⟨xs, hx, e'⟩ | ⟨kvs, hx, e'⟩
    · subst e'
      obtain ⟨its, r, pl, hz⟩ := I.list hx
      have hlen := r.length
      exact wpAny_truthy_list pl.isList (by simp only [List.size_toArray]; omega) ⟨H, I.tok _, by rw [isEmpty_of r]; exact q⟩
    · subst e'
      obtain ⟨its, r, pl, hz⟩ := I.tuple hx
      have hlen := r.length
      exact truthy_tuple pl (by simp only [List.size_toArray]; omega) ⟨H, I.tok _, by rw [isEmpty_of r]; exact q⟩
    · subst e'
      obtain ⟨hz, hS, vs, r, m⟩ : kvs.length ≤ sizeLine ∧ (p == sysModules) = false ∧ ∃ vs, KV kvs vs ∧ s.heap.DictOf (mixKind X.prog X.w) p vs := I.hok p _ hx
      have hlen : kvs.length = vs.length := Paired.length r
      exact wpAny_truthy_dict hS m (by omega) ⟨H, I.tok _, by rw [isEmpty_kv r]; exact q⟩
  | _ => exact (show False from e).elim
/-- any expression whose test is its value's truth (a name, a call, a subscript, a field ..: he by fun _ => rfl) -/
theorem pt_truth (ha : PE X a ta) (he : ∀ whole, isTrue a X.env whole = (do let v ← whole; standAt a.pos; holding [v] (truthy v))) :
    PT X a (fun σ H Q => ta σ H fun x H' => ∃ k, TruV X.K x H' k ∧ Q k H') := by
  intro pins s σ H Q I h
  exact isTrue_plain (thn (ha pins s σ H _ I h) fun v s1 ⟨x, H1, I1, r1, q1⟩ => tru_ok pins s1 σ H1 x v Q I1 r1 q1) (he _)

theorem op_add_str : OpR X (binaryOp .Add) (fun x y H Q => ∃ i j, x = .str i ∧ y = .str j ∧ i.length + j.length ≤ sizeLine ∧ Q (.str (i ++ j)) H) := by
  intro pins s σ H x y v u Q I rx ry h
  obtain ⟨i, j, rfl, rfl, hz, q⟩ := h
  obtain ⟨t, rfl⟩ := rx
  obtain ⟨t', rfl⟩ := ry
  exact add_str (fun t' tk => ⟨.str (i ++ j), H, I.tok _, ⟨_, rfl⟩, q⟩) hz
/-! ### scalar builtins, by CallR -/
theorem vals1 {x : V} {us : List Value} (r : Vals [x] us) : ∃ u, us = [u] ∧ RelV x u := by
  cases r with
  | cons r1 r2 => cases r2; exact ⟨_, rfl, r1⟩
theorem vals2 {x y : V} {us : List Value} (r : Vals [x, y] us) : ∃ u w', us = [u, w'] ∧ RelV x u ∧ RelV y w' := by
  cases r with
  | cons r1 r2 =>
    cases r2 with
    | cons r3 r4 => cases r4; exact ⟨_, _, rfl, r1, r3⟩
end
end L2

namespace L2
open PySem PySem.Spec PyProof.Rows

/-! ### an instance, its attributes a map -/
structure ObjM (h : Heap) (x dx C : Addr) (mA : Str → Option Value) : Prop where
  obj : h.get? x = some (PySem.W.instObj C dx)
  ns : h.Ns1 dx mA
  ne : dx ≠ x

theorem lookIn_ns {h : Heap} {dx : Addr} {mA : Str → Option Value} (n : h.Ns1 dx mA) : ∃ od, h.get? dx = some od ∧ ∀ name, PySem.W.lookIn name od = some (mA name) := by
  obtain ⟨o, es, ep, ho, hd, hk, _, hm⟩ := n
  refine ⟨o, ho, fun name => ?_⟩
  have e := hm name
  unfold nsFind findBy at e
  rw [← Array.find?_toList] at e
  unfold PySem.W.lookIn
  rw [hd]
  dsimp only
  split
  · rename_i y q
    rw [q] at e
    exact congrArg some e
  · rename_i q
    rw [q] at e
    have a : es.toList.any (·.refKey) = false := by
      rw [List.any_eq_false]
      intro y hy
      obtain ⟨z, t, hkey⟩ := hk y (Array.mem_toList_iff.mp hy)
      simp [DictEntry.refKey, hkey]
    have a' : ¬ es.toList.any (·.refKey) = true := by rw [a]; exact Bool.false_ne_true
    rw [if_neg a']
    exact congrArg some e

theorem ObjM.look {h : Heap} {x dx C : Addr} {mA : Str → Option Value} (I : ObjM h x dx C mA) : ∃ od, PySem.W.InstAt h x (PySem.W.instObj C dx) C (some od) ∧ ∀ name, PySem.W.lookIn name od = some (mA name) :=
  let ⟨od, ho, hl⟩ := lookIn_ns I.ns
  ⟨od, ⟨I.obj, rfl, rfl, ho⟩, hl⟩

section
variable {prog : Program} {w : World} {A : Around} {E : Value → Shared → Prop} {s : Shared} {K : PySem.W.Frag} {x dx C f : Addr} {mA : Str → Option Value} {name : Str} {v : Value}

theorem get_map {expr : Bool} {Q : Value → Shared → Prop} (X : K.In s.heap) (I : ObjM s.heap x dx C mA) (hg : PySem.W.plainGet K C name = true) (hh : PySem.W.hasDictIn K C = true)
    (ha : PySem.W.findIn K (.ref C) name = some none) (hv : mA name = some v) (hv' : PySem.W.handedIn v = true) (h : Q v { s with toks := s.toks + 1 }) :
    wpAny (model prog w) A (getAttr (.ref x) name expr) Q E s := by
  obtain ⟨od, J, hl⟩ := I.look
  exact PySem.W.get_value X J (PySem.W.plainGet_of hg).1 (PySem.W.findObj_own hh ha rfl (by rw [hl, hv])) hv' h

theorem get_meth {pl : Sem Bool} {Q : Value × List Value → Shared → Prop} (X : K.In s.heap) (I : ObjM s.heap x dx C mA) (hg : PySem.W.plainGet K C name = true)
    (hf : PySem.W.findIn K (.ref C) name = some (some (.ref f))) (ht : PySem.W.isFn K (.ref f) = true) (hv : mA name = none) (h : Q (.ref f, [.ref x]) s) :
    wpAny (model prog w) A (getMethod (.ref x) name pl) Q E s := by
  obtain ⟨od, J, hl⟩ := I.look
  exact PySem.W.method_fn X J (PySem.W.plainGet_of hg).1 (PySem.W.plainGet_of hg).2 hf (beq_iff_eq.mp ht) (by show (PySem.W.lookIn name od).map (·.isSome) = some false; rw [hl, hv]; rfl) h

theorem set_map {ns : List Str} {Q : Unit → Shared → Prop} (X : K.In s.heap) (I : ObjM s.heap x dx C mA)
    (hs : PySem.W.findIn K (.ref C) "__setattr__" = some (some (.builtin "object.__setattr__"))) (hp : PySem.W.plainOver K C = true) (ht : PySem.W.takerIn K C name = some none) (hh : PySem.W.hasDictIn K C = true)
    (hw : PySem.Within mA ns) (hsz : ns.length ≤ sizeLine)
    (h : ∀ h', ObjM h' x dx C (fun y => if y = name then some v else mA y) → Heap.SameBut dx s.heap h' → Q () { s with heap := h', toks := s.toks + 2 }) :
    wpAny (model prog w) A (setAttr (.ref x) name v) Q E s := by
  obtain ⟨od, J, hl⟩ := I.look
  refine PySem.W.set_plain X J hs (PySem.W.osa_open (s := { s with toks := s.toks + 1 }) (r := none) X J hp ht fun b => ?_)
  obtain ⟨cd, hc, hd'⟩ := PySem.W.any_some hh
  have hx : s.heap.get? x = some ⟨.ref C, some dx, .plain, #[]⟩ := I.obj
  refine wpAny_bind (wpAny_pure (wpAny_bind (wpAny_bind (wpAny_loadPart hx (wpAny_bind (PySem.W.Looks.here (s := { s with toks := s.toks + 1 }) (PySem.W.looks_clsIn X hc) ?_))))))
  rw [hd']
  refine wpAny_pure (a := some dx) (wpAny_bind (wpAny_pure (wpAny_bind ?_)))
  refine wpAny_nsSet1 (s := { s with toks := s.toks + 1 }) I.ns fun h' hn2 hs2 => ?_
  obtain ⟨oD, esD, epD, hoD, hdD, hcD⟩ := hn2.count (PySem.Within.cons name v hw)
  refine wpAny_bind (wpAny_lookBehind hoD (by rw [hdD]; exact pastItsLine_dict (Nat.le_trans hcD (by rw [List.length_cons]; omega))) ?_)
  exact wpAny_pure (h _ ⟨(hs2.2 _ (Ne.symm I.ne)).trans I.obj, hn2, I.ne⟩ hs2)

/-- C(..): the dict at the heap's end, the instance behind it; then its __init__ -/
theorem make_map {R : Result → Shared → Prop} {vs : List Value} {kw : List (Str × Value)} (X : K.In s.heap) (hm : PySem.W.makesIn K C = true)
    (hi : PySem.W.findIn K (.ref C) "__init__" = some (some (.ref f))) (hf : PySem.W.typeIn K (.ref f) = some (.type "function"))
    (h : codeAny (model prog w) (A.under (.builtin "type.__call__" ⟨.ref C :: vs, kw⟩)) (.call (.ref f) ⟨.ref (s.heap.objs.size + 1) :: vs, kw⟩) (PySem.W.InitBack (s.heap.objs.size + 1) R)
      { s with heap := (s.heap.push PySem.W.emptyDict).push (PySem.W.instObj C s.heap.objs.size) }) :
    codeAny (model prog w) A (.call (.ref C) ⟨vs, kw⟩) R s := by
  obtain ⟨hh, g, d, t, os⟩ := s
  exact PySem.W.make_core (PySem.W.makes_of X hm) (PySem.W.looks_findIn X hi) (fun self => PySem.W.bind_fn X self hf) (.inl rfl) h
end

/-! ### the attributes as a list of pairs -/
noncomputable def putF (f : Str) (v : V) : List (Str × V) → List (Str × V)
  | [] => [(f, v)]
  | (g, x) :: r => if g = f then (g, v) :: r else (g, x) :: putF f v r
theorem lookup_putF (f g : Str) (v : V) : ∀ fs : List (Str × V), (putF f v fs).lookup g = if g = f then some v else fs.lookup g
  | [] => by
    show List.lookup g [(f, v)] = _
    by_cases h : g = f
    · have hb : (g == f) = true := beq_iff_eq.mpr h
      simp only [List.lookup, hb, if_pos h]
    · have hb : (g == f) = false := beq_eq_false_iff_ne.mpr h
      simp only [List.lookup, hb, if_neg h]
  | (k, x) :: r => by
    have ih := lookup_putF f g v r
    rw [show putF f v ((k, x) :: r) = (if k = f then (k, v) :: r else (k, x) :: putF f v r) from rfl]
    by_cases hk : k = f
    · rw [if_pos hk]
      by_cases h : g = k
      · have hb : (g == k) = true := beq_iff_eq.mpr h
        simp only [List.lookup, hb, if_pos (h.trans hk)]
      · have hb : (g == k) = false := beq_eq_false_iff_ne.mpr h
        simp only [List.lookup, hb, if_neg (fun e : g = f => h (e.trans hk.symm))]
    · rw [if_neg hk]
      by_cases h : g = k
      · have hb : (g == k) = true := beq_iff_eq.mpr h
        simp only [List.lookup, hb, if_neg (fun e : g = f => hk (h.symm.trans e))]
      · have hb : (g == k) = false := beq_eq_false_iff_ne.mpr h
        simp only [List.lookup, hb]
        exact ih
theorem keys_putF (f : Str) (v : V) : ∀ fs : List (Str × V), f ∈ (putF f v fs).map (·.1) ∧ ∀ g, g ∈ fs.map (·.1) → g ∈ (putF f v fs).map (·.1)
  | [] => ⟨by simp [putF], fun g h => by simp at h⟩
  | (k, x) :: r => by
    obtain ⟨i1, i2⟩ := keys_putF f v r
    rw [show putF f v ((k, x) :: r) = (if k = f then (k, v) :: r else (k, x) :: putF f v r) from rfl]
    by_cases hk : k = f
    · rw [if_pos hk]
      subst hk
      exact ⟨by simp, fun g h => by simpa using h⟩
    · rw [if_neg hk]
      refine ⟨?_, fun g h => ?_⟩
      · rw [List.map_cons]
        exact List.mem_cons_of_mem _ i1
      · rw [List.map_cons] at h ⊢
        rcases List.mem_cons.mp h with e | e
        · exact List.mem_cons.mpr (.inl e)
        · exact List.mem_cons_of_mem _ (i2 g e)
theorem length_putF (f : Str) (v : V) : ∀ fs : List (Str × V), (putF f v fs).length ≤ fs.length + 1
  | [] => by simp [putF]
  | (k, x) :: r => by
    have ih := length_putF f v r
    rw [show putF f v ((k, x) :: r) = (if k = f then (k, v) :: r else (k, x) :: putF f v r) from rfl]
    by_cases hk : k = f
    · rw [if_pos hk, List.length_cons, List.length_cons]; omega
    · rw [if_neg hk, List.length_cons, List.length_cons]; omega

theorem RelO.some_of {v : V} {o : Option Value} (r : RelO (some v) o) : ∃ u, o = some u ∧ RelV v u := by
  cases o with
  | none => exact (show False from r).elim
  | some u => exact ⟨u, rfl, r⟩
theorem RelO.none_of {o : Option Value} (r : RelO none o) : o = none := by
  cases o with
  | none => rfl
  | some u => exact (show False from r).elim
theorem handed_of {v : V} {u : Value} (r : RelV v u) : PySem.W.handedIn u = true := by
  cases v with
  | non => cases (show u = Value.none from r); rfl
  | bl b => cases (show u = Value.bool b from r); rfl
  | int i => obtain ⟨t, e⟩ := (show ∃ t, u = Value.int i t from r); cases e; rfl
  | str x => obtain ⟨t, e⟩ := (show ∃ t, u = Value.str x t from r); cases e; rfl
  | byt b => obtain ⟨t, e⟩ := (show ∃ t, u = Value.bytes b t from r); cases e; rfl
  | flt b => obtain ⟨t, e⟩ := (show ∃ t, u = Value.float b t from r); cases e; rfl
  | ref a => cases (show u = Value.ref a from r); rfl
  | ty n => cases (show u = Value.type n from r); rfl

section
variable {P : Program} {w : World} {H H' : Hp} {h h' : Heap} {a C dx : Addr} {fs fs' : List (Str × V)}
theorem ins_get (hok : HOk P w H h) (e : H a = some (.ins C dx fs)) : ∃ mA, ObjM h a dx C mA ∧ (∀ f, RelO (fs.lookup f) (mA f)) ∧ PySem.Within mA (fs.map (·.1)) ∧ fs.length ≤ 1000 ∧ H dx = some (.own a) := by
  obtain ⟨d, z, ne, ob, mA, n, r, q⟩ := (show ObjOk P w H h a (.ins C dx fs) from hok a _ e)
  exact ⟨mA, ⟨ob, n, ne⟩, r, q, z, d⟩
end

/-! ### what of the text a class must have -/
structure Cls (K : PySem.W.Frag) (C : Addr) : Prop where
  pg : PySem.W.plainGet K C Str.empty = true
  hd : PySem.W.hasDictIn K C = true
  po : PySem.W.plainOver K C = true
  sa : PySem.W.findIn K (.ref C) "__setattr__" = some (some (.builtin "object.__setattr__"))
theorem Cls.get {K : PySem.W.Frag} {C : Addr} (c : Cls K C) (f : Str) : PySem.W.plainGet K C f = true := c.pg
/-- no class of it has the name -/
noncomputable def NoAttr (K : PySem.W.Frag) (C : Addr) (f : Str) : Prop := PySem.W.findIn K (.ref C) f = some none
theorem NoAttr.taker {K : PySem.W.Frag} {C : Addr} {f : Str} (n : NoAttr K C f) : PySem.W.takerIn K C f = some none := by
  unfold PySem.W.takerIn
  rw [show PySem.W.findIn K (.ref C) f = some none from n]
  rfl
/-- a method: a plain def of the class or of one above it -/
structure Meth (K : PySem.W.Frag) (C : Addr) (m : Str) (f : Addr) : Prop where
  at_ : PySem.W.findIn K (.ref C) m = some (some (.ref f))
  fn : PySem.W.isFn K (.ref f) = true
  kp : PySem.W.keepIn K (.ref f) = true

section
variable {X : Cx} {pins : List (Addr × Obj)} {σ : St} {H : Hp} {s : Shared} {a C dx : Addr} {fs : List (Str × V)} {f : Str} {v : V} {A : Around} {E : Value → Shared → Prop}

theorem getattr_ok {b : Bool} {Q : Value → Shared → Prop} (I : Inv X pins σ H s) (e : H a = some (.ins C dx fs)) (c : Cls X.K C) (n : NoAttr X.K C f) (l : fs.lookup f = some v)
    (h : ∀ u s', Inv X pins σ H s' → RelV v u → Q u s') : wpAny (model X.prog X.w) A (getAttr (.ref a) f b) Q E s := by
  obtain ⟨mA, O, r, _, _, _⟩ := ins_get I.hok e
  obtain ⟨u, hu, ru⟩ := RelO.some_of (v := v) (o := mA f) (by rw [← l]; exact r f)
  exact get_map I.kIn O (c.get f) c.hd n hu (handed_of ru) (h u _ (I.tok _) ru)

theorem getmeth_ok {m : Str} {g : Addr} {pl : Sem Bool} {Q : Value × List Value → Shared → Prop} (I : Inv X pins σ H s) (e : H a = some (.ins C dx fs)) (c : Cls X.K C) (k : Meth X.K C m g) (l : fs.lookup m = none)
    (h : Q (.ref g, [.ref a]) s) : wpAny (model X.prog X.w) A (getMethod (.ref a) m pl) Q E s := by
  obtain ⟨mA, O, r, _, _, _⟩ := ins_get I.hok e
  have hn : mA m = none := RelO.none_of (by rw [← l]; exact r m)
  exact get_meth I.kIn O (c.get m) k.at_ k.fn hn h

theorem setattr_ok {y : V} {u : Value} {Q : Unit → Shared → Prop} (I : Inv X pins σ H s) (e : H a = some (.ins C dx fs)) (c : Cls X.K C) (n : NoAttr X.K C f) (hl : fs.length < 1000) (ry : RelV y u)
    (h : ∀ s', Inv X pins σ (upd H a (.ins C dx (putF f y fs))) s' → Q () s') : wpAny (model X.prog X.w) A (setAttr (.ref a) f u) Q E s := by
  obtain ⟨mA, O, r, wi, _, ho⟩ := ins_get I.hok e
  have hz : (fs.map (·.1)).length ≤ sizeLine := by rw [List.length_map, sizeLine_eq]; omega
  refine set_map I.kIn O c.sa c.po n.taker c.hd wi hz fun h' O' sb => h _ ?_
  have hd : ∃ o, h'.get? dx = some o := let ⟨o, _, _, e', _⟩ := O'.ns; ⟨o, e'⟩
  refine I.write (x := a) (e := dx) (by rw [e]; exact True.intro) (.inr ho) (fun b q hb z => (sb.2 b hb).trans z) hd ?_
  refine ⟨by rw [upd_ne O.ne]; exact ho, ?_, O.ne, O'.obj, _, O'.ns, fun g => ?_, fun g hg => ?_⟩
  · have := length_putF f y fs; omega
  · show RelO ((putF f y fs).lookup g) (if g = f then some u else mA g)
    rw [lookup_putF]
    by_cases q : g = f
    · rw [if_pos q, if_pos q]; exact ry
    · rw [if_neg q, if_neg q]; exact r g
  · by_cases q : g = f
    · rw [q]; exact (keys_putF f y fs).1
    · refine (keys_putF f y fs).2 g (wi g fun z => hg ?_)
      show (if g = f then some u else mA g) = none
      rw [if_neg q]; exact z

/-- a new instance, tracked, without attributes -/
theorem Inv.made (I : Inv X pins σ H s) : Inv X pins σ (upd (upd H s.heap.objs.size (.own (s.heap.objs.size + 1))) (s.heap.objs.size + 1) (.ins C s.heap.objs.size []))
    { s with heap := (s.heap.push PySem.W.emptyDict).push (PySem.W.instObj C s.heap.objs.size) } := by
  have e1 : (s.heap.push PySem.W.emptyDict).get? s.heap.objs.size = some PySem.W.emptyDict := Heap.get?_push_size s.heap rfl
  have e2 : ((s.heap.push PySem.W.emptyDict).push (PySem.W.instObj C s.heap.objs.size)).get? (s.heap.objs.size + 1) = some (PySem.W.instObj C s.heap.objs.size) := by
    have := Heap.get?_push_size (s.heap.push PySem.W.emptyDict) (o := PySem.W.instObj C s.heap.objs.size) rfl
    rwa [Heap.size_push] at this
  have e3 : (s.heap.push PySem.W.emptyDict).Ns s.heap.objs.size (fun _ => none) := ⟨PySem.W.emptyDict, #[], _, e1, rfl, (fun e he => absurd he (by simp)), fun _ => rfl⟩
  have I1 := I.laid (a := s.heap.objs.size) (o := .own (s.heap.objs.size + 1)) (h' := s.heap.push PySem.W.emptyDict) (t' := s.toks) (fun b u q => Heap.get?_push_of_some _ q) (Nat.le_refl _) ⟨_, e1⟩
  refine I1.laid (a := s.heap.objs.size + 1) (o := .ins C s.heap.objs.size []) (t' := s.toks) (fun b u q => Heap.get?_push_of_some _ q) (Nat.le_of_eq (Heap.size_push _ _)) ?_
  have ne : s.heap.objs.size ≠ s.heap.objs.size + 1 := Nat.ne_of_lt (Nat.lt_succ_self _)
  refine ⟨by rw [upd_ne ne, upd_same], Nat.zero_le _, ne, e2, fun _ => none, (Heap.Ns1.of_empty e3).at fun o q => Heap.get?_push_of_some _ q, fun _ => True.intro, fun y hy => absurd rfl hy⟩

/-- e.f where nothing but the object is asked: through attributeBase (super) and the last hold -/
theorem attr_of {prog : Program} {w : World} {env : Env} {e : Expr} {f : Str} {pos : Pos} {s : Shared} {Q : Value → Shared → Prop} (hb : attributeBase e f env (eval e env) = eval e env)
    (h : wpAny (model prog w) A (eval e env) (fun o s₁ => wpAny (model prog w) A (getAttr o f true) Q E s₁) E s) : wpAny (model prog w) A (eval (.Attribute e f pos) env) Q E s :=
  Attribute_any_ h (by rw [arm_eval_Attribute, hb])
end

/-! ### readings and rules -/
/-- e.f, an attribute of the instance -/
noncomputable def tFld (K : PySem.W.Frag) (ta : TE) (f : Str) : TE := fun σ H Q => ta σ H fun x H1 => ∃ a C dx fs v, x = .ref a ∧ H1 a = some (.ins C dx fs) ∧ Cls K C ∧ NoAttr K C f ∧ fs.lookup f = some v ∧ Q v H1
/-- e.f = value -/
noncomputable def sFld (K : PySem.W.Frag) (ta tv : TE) (f : Str) : TS := fun D σ H => tv σ H fun y H1 => ta σ H1 fun x H2 => ∃ a C dx fs, x = .ref a ∧ H2 a = some (.ins C dx fs) ∧ Cls K C ∧ NoAttr K C f ∧ fs.length < 1000 ∧
  D.nx σ (upd H2 a (.ins C dx (putF f y fs)))
section
variable {X : Cx} {o e value : Expr} {f : Str} {pos pos' tpos : Pos} {ta tv : TE}
theorem pe_fld (he : PE X e ta) (hb : attributeBase e f X.env (eval e X.env) = eval e X.env) : PE X (.Attribute e f pos) (tFld X.K ta f) := by
  intro pins s σ H Q I h
  refine attr_of hb (thn (he pins s σ H _ I h) fun u s1 hP => ?_)
  obtain ⟨x, H1, I1, rx, a, C, dx, fs, v, ex, ea, c, n, l, q⟩ := hP
  subst ex
  obtain rfl : u = Value.ref a := rx
  exact getattr_ok I1 ea c n l fun u' s2 I2 ru => ⟨v, H1, I2, ru, q⟩
theorem ps_fld (ha : PE X o ta) (hv : PE X value tv) (hs : swapsWith value (some (.Attribute o f pos')) pos.line X.env = pure false) : PS X (.Assign [.Attribute o f pos'] value pos) (sFld X.K ta tv f) := by
  intro pins s σ H D I h
  refine plainObj_wpAny_Assign_Attribute (thn (hv pins s σ H _ I h) fun u s1 ⟨y, H1, I1, ry, q⟩ => thn (ha pins s1 σ H1 _ I1 q) fun ov s2 hP => ?_) hs
  obtain ⟨x, H2, I2, rx, a, C, dx, fs, ex, ea, c, n, l, q2⟩ := hP
  subst ex
  obtain rfl : ov = Value.ref a := rx
  exact setattr_ok I2 ea c n l ry fun s3 I3 => ⟨σ, _, I3, q2⟩
end

/-! ### isinstance -/
section
variable {X : Cx} {pins : List (Addr × Obj)} {σ : St} {H : Hp} {s : Shared} {A : Around} {E : Value → Shared → Prop} {Q : Value → Shared → Prop} {c : Value} {b : Bool}
end
end L2

namespace L2
open PySem PySem.Spec PyProof.Rows

/-! ### room -/
structure Room (k : Nat) (A : Around) : Prop where
  hd : A.handled = none
  dp : A.depth + 3 * k + 5 < recursionLimit
  un : A.units + 16 * k + 200 < cLine
theorem Room.mono {j k : Nat} {A : Around} (r : Room k A) (h : j ≤ k) : Room j A := ⟨r.hd, by have := r.dp; omega, by have := r.un; omega⟩
theorem Room.deeper {k : Nat} {A : Around} (r : Room (k + 1) A) (env : Env) : Room k (A.deeper env) :=
  ⟨r.hd, by have := r.dp; show A.depth + 1 + 3 * k + 5 < _; omega, by have := r.un; show A.units + 3 + 16 * k + 200 < _; omega⟩
theorem Room.in1 {k : Nat} {A : Around} (r : Room (k + 1) A) : Room k A.in1 :=
  ⟨r.hd, by have := r.dp; show A.depth + 3 * k + 5 < _; omega, by have := r.un; show A.units + 1 + 16 * k + 200 < _; omega⟩
theorem make_depth {A : Around} {C : Addr} {us : List Value} {kw : List (Str × Value)} : (A.under (.builtin "type.__call__" ⟨.ref C :: us, kw⟩)).depth = A.depth + 1 := by
  first | rfl | simp [Around.under, Code.weight, Code.isCreation, Code.isGuard, Code.isCaller, Code.frames, Code.isFrame, guardIds]
theorem make_units {A : Around} {C : Addr} {us : List Value} {kw : List (Str × Value)} : (A.under (.builtin "type.__call__" ⟨.ref C :: us, kw⟩)).units = A.units + 1 := by
  first | rfl | simp [Around.under, Code.cUnits, Code.frames, Code.isFrame]
theorem Room.make {k : Nat} {A : Around} (r : Room (k + 1) A) (C : Addr) (us : List Value) (kw : List (Str × Value)) : Room k (A.under (.builtin "type.__call__" ⟨.ref C :: us, kw⟩)) :=
  ⟨r.hd, by have := r.dp; rw [make_depth]; omega, by have := r.un; rw [make_units]; omega⟩
theorem Room.depth {k : Nat} {A : Around} (r : Room k A) : A.depth < recursionLimit := by have := r.dp; omega
theorem Room.units {k : Nat} {A : Around} (r : Room k A) : A.units + 64 < cLine := by have := r.un; omega
/-! ### argument lists and displays -/
noncomputable def tNil : TA := fun _ H Q => Q [] H
noncomputable def tCons (ta : TE) (tr : TA) : TA := fun σ H Q => ta σ H fun x H1 => tr σ H1 fun xs H2 => Q (x :: xs) H2
section
variable {X : Cx} {e : Expr} {es : List Expr} {te : TE} {t : TA} {pos : Pos}
theorem pa_nil : PA X [] tNil := fun _ _ _ _ H Q I h => Calls.spliced_nil ⟨[], H, I, .nil, h⟩
theorem pa_cons (ha : PE X e te) (hr : PA X es t) (hs : starEach (e :: es) X.env = (false, eval e X.env) :: starEach es X.env := by rfl) : PA X (e :: es) (tCons te t) := by
  intro pos pins s σ H Q I h
  rw [hs]
  show wpAny _ _ (spliced ((false, eval e X.env) :: backTo pos (starEach es X.env))) _ _ s
  refine Calls.spliced_cons (thn (ha pins s σ H _ I h) fun u s1 ⟨x, H1, I1, r1, q1⟩ => ?_)
  exact thn (hr pos pins s1 σ H1 _ I1 q1) fun us s2 ⟨xs, H2, I2, r2, q2⟩ => ⟨x :: xs, H2, I2, .cons r1 r2, q2⟩

/-- a tuple, a list of written items -/
noncomputable def tTup (t : TA) : TE := fun σ H Q => t σ H fun xs H1 => xs.length ≤ sizeLine ∧ ∀ p, H1 p = none → Q (.ref p) (upd H1 p (.tup xs))
noncomputable def tLst (t : TA) : TE := fun σ H Q => t σ H fun xs H1 => xs.length ≤ sizeLine ∧ ∀ p, H1 p = none → Q (.ref p) (upd H1 p (.lst xs))
theorem pe_tup {x1} (h : PA X es t) : PE X (.Tuple es x1 pos) (tTup t) := by
  intro pins s σ H Q I hq
  refine wpAny_Tuple_spliced (thn (h pos pins s σ H _ I hq) fun us s1 ⟨xs, H1, I1, r, z, q⟩ => ⟨by rw [← r.length]; exact z, ?_⟩)
  have hf : H1 s1.heap.objs.size = none := I1.hok.fresh (Nat.le_refl _)
  refine ⟨.ref s1.heap.objs.size, upd H1 s1.heap.objs.size (.tup xs), I1.laid (t' := s1.toks) (fun b u e => Heap.get?_push_of_some _ e) (Nat.le_refl _) ?_, rfl, q _ hf⟩
  exact ⟨z, us, r, ⟨_, Heap.get?_push_size _ rfl, rfl, ⟨_, rfl⟩, rfl⟩⟩
theorem pe_lst (h : PA X es t) : PE X (.List es pos) (tLst t) := by
  intro pins s σ H Q I hq
  refine wpAny_List_spliced (thn (h pos pins s σ H _ I hq) fun us s1 ⟨xs, H1, I1, r, z, q⟩ => ⟨by rw [← r.length]; exact z, ?_⟩)
  have hf : H1 s1.heap.objs.size = none := I1.hok.fresh (Nat.le_refl _)
  refine ⟨.ref s1.heap.objs.size, upd H1 s1.heap.objs.size (.lst xs), I1.laid (t' := s1.toks) (fun b u e => Heap.get?_push_of_some _ e) (Nat.le_refl _) ?_, rfl, q _ hf⟩
  exact ⟨z, us, 0, r, Heap.get?_push_size _ rfl⟩
end

/-! ### what a def promises -/
/-- a def's promise: the bound arguments in the parameters' order, the heap, the wanted end, the wanted exception -/
noncomputable abbrev Sp := List V → Hp → VK → XK → Prop
/-- how an exception lies behind a call (file 08 gives it): the callers' frames, abstract heap and state ahead of the call, the wish, the exception, the state -/
noncomputable abbrev CXT := List Env → Hp → Shared → XK → Value → Shared → Prop

/-- the state at a call -/
structure Env0 (P : Program) (w : World) (K : PySem.W.Frag) (mg : Str → Option Value) (base : Heap) (A : Around) (outer : List Env) (s : Shared) (H : Hp) : Prop where
  frames : A.frames = some outer
  mod : Mod K mg base
  bs : ∀ b o, base.get? b = some o → s.heap.get? b = some o ∧ H b = none
  bsz : base.objs.size ≤ s.heap.objs.size
  funs : s.heap.FunFrames base outer
  frf : ∀ b ∈ frs outer, H b = none
  hok : HOk P w H s.heap
  bare : AllBare s.gens
/-- a call's end -/
noncomputable def CE (outer : List Env) (P : Program) (w : World) (H : Hp) (s : Shared) (Q : VK) (u : Value) (s' : Shared) : Prop :=
  ∃ v H', s'.os = s.os ∧ AllBare s'.gens ∧ Un (frs outer) [] H H' s.heap s'.heap ∧ HOk P w H' s'.heap ∧ RelV v u ∧ Q v H'
noncomputable def CR (CX : CXT) (outer : List Env) (P : Program) (w : World) (H : Hp) (s : Shared) (Q : VK) (E : XK) (r : Result) (s' : Shared) : Prop :=
  match r with
  | .ok (.ret u) => CE outer P w H s Q u s'
  | .ok _ => False
  | .error e => CX outer H s E e s'
structure FnOk (P : Program) (w : World) (K : PySem.W.Frag) (mg : Str → Option Value) (base : Heap) (CX : CXT) (k : Nat) (f : Addr) (fd : FuncData) (ps : List Str) (sp : Sp) : Prop where
  len : ∀ vs H Q E, sp vs H Q E → vs.length = ps.length
  run : ∀ (A : Around) (outer : List Env) (s : Shared) (H : Hp) (args : Args) (us : List Value) (vs : List V) (Q : VK) (E : XK), Room k A → Env0 P w K mg base A outer s H → BindsTo s fd args (ps.zip us) → Vals vs us → sp vs H Q E →
    codeAny (model P w) A (.call (.ref f) args) (CR CX outer P w H s Q E) s
theorem FnOk.mono {P : Program} {w : World} {K : PySem.W.Frag} {mg : Str → Option Value} {base : Heap} {CX : CXT} {j k : Nat} {f : Addr} {fd : FuncData} {ps : List Str} {sp : Sp} (F : FnOk P w K mg base CX j f fd ps sp) (h : j ≤ k) :
    FnOk P w K mg base CX k f fd ps sp := ⟨F.len, fun A outer s H args us vs Q E hr => F.run A outer s H args us vs Q E (hr.mono h)⟩
/-- a weaker promise -/
theorem FnOk.imp {P : Program} {w : World} {K : PySem.W.Frag} {mg : Str → Option Value} {base : Heap} {CX : CXT} {k : Nat} {f : Addr} {fd : FuncData} {ps : List Str} {sp sp' : Sp} (F : FnOk P w K mg base CX k f fd ps sp)
    (h : ∀ vs H Q E, sp' vs H Q E → sp vs H Q E) : FnOk P w K mg base CX k f fd ps sp' :=
  ⟨fun vs H Q E q => F.len vs H Q E (h _ _ _ _ q), fun A outer s H args us vs Q E hr he hb hv hs => F.run A outer s H args us vs Q E hr he hb hv (h _ _ _ _ hs)⟩

theorem Env0.make {P : Program} {w : World} {K : PySem.W.Frag} {mg : Str → Option Value} {base : Heap} {A : Around} {outer : List Env} {s : Shared} {H : Hp} (e : Env0 P w K mg base A outer s H) (C : Addr) (us : List Value) (kw : List (Str × Value)) :
    Env0 P w K mg base (A.under (.builtin "type.__call__" ⟨.ref C :: us, kw⟩)) outer s H := ⟨by first | exact e.frames | (simpa [Around.under, Code.envs, Code.isFrame, pushEnvs] using e.frames), e.mod, e.bs, e.bsz, e.funs, e.frf, e.hok, e.bare⟩
theorem Env0.in1 {P : Program} {w : World} {K : PySem.W.Frag} {mg : Str → Option Value} {base : Heap} {A : Around} {outer : List Env} {s : Shared} {H : Hp} (e : Env0 P w K mg base A outer s H) :
    Env0 P w K mg base A.in1 outer s H := ⟨e.frames, e.mod, e.bs, e.bsz, e.funs, e.frf, e.hok, e.bare⟩

section
variable {X : Cx} {pins : List (Addr × Obj)} {σ : St} {H : Hp} {s s' : Shared}
/-- from a body: what a callee wants -/
theorem Inv.env0 (I : Inv X pins σ H s) : Env0 X.prog X.w X.K X.mg X.base X.A X.stack s H :=
  ⟨I.ok.frames, I.ok.mod, I.bs, Nat.le_trans I.ok.bsz I.sz, I.stack, I.stkFree, I.hok, I.bare⟩
/-- behind a call -/
theorem Inv.after {Q : VK} {u : Value} (I : Inv X pins σ H s) (h : CE X.stack X.prog X.w H s Q u s') : EP X pins σ Q u s' := by
  obtain ⟨v, H', os, bare, un, hok, r, q⟩ := h
  obtain ⟨hh, g, d, t, os'⟩ := s'
  obtain rfl : os' = s.os := os
  exact ⟨v, H', I.call (h' := hh) (g' := g) (d' := d) (t' := t) (ch := []) un hok bare (fun b z => absurd z (by simp)), r, q⟩
end

/-! ### calls -/
/-- how the parameters are bound: us the positional arguments, kw the keywords' values by name, ds the defaults that fill up -/
noncomputable def Binds (K : PySem.W.Frag) (fd : FuncData) (ps : List Str) (ds : List Value) : Prop :=
  ∀ (s : Shared) (us : List Value), K.In s.heap → (us ++ ds).length = ps.length → BindsTo s fd ⟨us, []⟩ (ps.zip (us ++ ds))
/-- every parameter is given -/
theorem Binds.all {K : PySem.W.Frag} {fd : FuncData} {ps : List Str} (h : ∀ us : List Value, us.length = ps.length → bindArgs fd ⟨us, []⟩ = pure (ps.zip us)) : Binds K fd ps [] := fun s us _ hl => by
  rw [List.append_nil] at hl ⊢
  exact .of_eq (h us hl)

section
variable {X : Cx} {CX : CXT} {k : Nat} {f C : Addr} {fd : FuncData} {ps : List Str} {sp : Sp} {dvs : List V} {ds : List Value} {E : XK} {x m : Str} {p pos apos : Pos} {e o : Expr} {es : List Expr} {ta : TE} {t : TA}

/-- what a class must have to be made -/
structure Mk (K : PySem.W.Frag) (C f : Addr) : Prop where
  makes : PySem.W.makesIn K C = true
  init : PySem.W.findIn K (.ref C) "__init__" = some (some (.ref f))
  fn : PySem.W.isFn K (.ref f) = true
  kp : PySem.W.keepIn K (.ref C) = true

end

/-! ### keywords -/
section
variable {X : Cx} {CX : CXT} {k : Nat} {f C : Addr} {fd : FuncData} {ps ks : List Str} {sp : Sp} {E : XK} {x m : Str} {p pos apos kpos : Pos} {e o : Expr} {es : List Expr} {kws : List Keyword} {te ta : TE} {t tk : TA} {nm : Option Str}
variable {g : List Value → List Value → List Value} {gV : List V → List V → List V}
end

/-! ### a def's body keeps its promise -/
/-- names: the parameters first -/
structure FnScope (N P : List Str) (sc : Scope) : Prop where
  kind : sc.kind = .function
  co : sc.isCoroutine = false
  gen : sc.isGenerator = false
  nd : N.Nodup
  pre : N.take P.length = P
  par : ∀ x ∈ P, sc.names.lookup x = some .local ∨ sc.names.lookup x = some .cell
  nofree : ∀ y ∈ sc.names, y.2 ≠ .free

theorem bindL_out {kindOf : Str → Option NameKind} {x : Str} : ∀ {binds : List (Str × Value)} {m : Str → Option Value}, (∀ v, (x, v) ∉ binds) → bindL kindOf binds m x = m x
  | [], _, _ => rfl
  | (n, v) :: r, m, h => by
    unfold bindL
    rw [bindL_out fun w hw => h w (List.mem_cons_of_mem _ hw)]
    split
    · have : x ≠ n := by rintro rfl; exact h v List.mem_cons_self
      simp [this]
    · rfl
theorem bindC_out {kindOf : Str → Option NameKind} {x : Str} : ∀ {binds : List (Str × Value)} {m : Str → Option Value}, (∀ v, (x, v) ∉ binds) → bindC kindOf binds m x = m x
  | [], _, _ => rfl
  | (n, v) :: r, m, h => by
    unfold bindC
    rw [bindC_out fun w hw => h w (List.mem_cons_of_mem _ hw)]
    split
    · rfl
    · have : x ≠ n := by rintro rfl; exact h v List.mem_cons_self
      simp [this]
theorem bindL_get {kindOf : Str → Option NameKind} {x : Str} {v : Value} : ∀ {P : List Str} {vs : List Value} {i : Nat} {m : Str → Option Value}, P.Nodup → P[i]? = some x → vs[i]? = some v → kindOf x = some .local →
    bindL kindOf (P.zip vs) m x = some v
  | [], _, _, _, _, h, _, _ => by simp at h
  | _ :: _, [], _, _, _, _, h, _ => by simp at h
  | p :: P, w :: vs, 0, m, nd, h1, h2, hk => by
    simp at h1 h2; subst h1; subst h2
    show bindL kindOf ((p, w) :: P.zip vs) m p = _
    unfold bindL
    rw [bindL_out fun v hv => (List.nodup_cons.mp nd).1 (List.of_mem_zip hv).1, if_pos hk]
    simp
  | p :: P, w :: vs, i + 1, m, nd, h1, h2, hk => by
    show bindL kindOf ((p, w) :: P.zip vs) m x = _
    unfold bindL
    exact bindL_get (i := i) (List.nodup_cons.mp nd).2 (by simpa using h1) (by simpa using h2) hk
theorem bindC_get {kindOf : Str → Option NameKind} {x : Str} {v : Value} : ∀ {P : List Str} {vs : List Value} {i : Nat} {m : Str → Option Value}, P.Nodup → P[i]? = some x → vs[i]? = some v → kindOf x ≠ some .local →
    bindC kindOf (P.zip vs) m x = some v
  | [], _, _, _, _, h, _, _ => by simp at h
  | _ :: _, [], _, _, _, _, h, _ => by simp at h
  | p :: P, w :: vs, 0, m, nd, h1, h2, hk => by
    simp at h1 h2; subst h1; subst h2
    show bindC kindOf ((p, w) :: P.zip vs) m p = _
    unfold bindC
    rw [bindC_out fun v hv => (List.nodup_cons.mp nd).1 (List.of_mem_zip hv).1, if_neg hk]
    simp
  | p :: P, w :: vs, i + 1, m, nd, h1, h2, hk => by
    show bindC kindOf ((p, w) :: P.zip vs) m x = _
    unfold bindC
    exact bindC_get (i := i) (List.nodup_cons.mp nd).2 (by simpa using h1) (by simpa using h2) hk

/-- the names' values at the entry -/
noncomputable def start (N : List Str) (vs : List V) : St := vs.map some ++ List.replicate (N.length - vs.length) none

/-- the context of a def's body, at its entry; an exception leaves the frame, then lies as CX says -/
noncomputable def cxOf (CX : CXT) (P : Program) (w : World) (K : PySem.W.Frag) (mg : Str → Option Value) (base : Heap) (N : List Str) (qual : Str) (scope : Scope) (f : Addr) (cd : Value) (A : Around) (outer : List Env) (s : Shared) (H : Hp) (E : XK) : Cx where
  prog := P
  w := w
  K := K
  mg := mg
  base := base
  A := A.deeper (envOfC qual scope s.heap.objs.size f cd)
  N := N
  s₀ := s
  H₀ := H
  env := envOfC qual scope s.heap.objs.size f cd
  outer := outer
  stack := envOfC qual scope s.heap.objs.size f cd :: outer
  ex := []
  calm := true
  fn := fun _ => true
  pn := []
  xe := fun e s' => wpAny (model P w) (A.deeper (envOfC qual scope s.heap.objs.size f cd)) (leaving (envOfC qual scope s.heap.objs.size f cd) e) (fun _ s'' => CX outer H s E e s'') (fun e' s'' => CX outer H s E e' s'') s'

theorem cell_has {sc : Scope} {n : Nat} {x : Str} (h : sc.names.lookup x = some .cell) : ∃ c, (cellsFrom n sc.names []).lookup x = some c := by
  have q := PySem.W.cellsFrom_some sc.names n [] (.inl h)
  exact Option.isSome_iff_exists.mp q

theorem inv_start {CX : CXT} {P : Program} {w : World} {K : PySem.W.Frag} {mg : Str → Option Value} {base : Heap} {N ps : List Str} {qual : Str} {scope : Scope} {f : Addr} {cd : Value} {A : Around} {outer : List Env} {s s1 : Shared} {H : Hp} {E : XK} {us : List Value} {vs : List V}
    (S : FnScope N ps scope) (hd : A.handled = none) (e0 : Env0 P w K mg base A outer s H) (hl : vs.length = ps.length) (r : Vals vs us)
    (x : InCallC s s.heap.objs.size (bindL (envOfC qual scope s.heap.objs.size f cd).kindOf (ps.zip us) fun _ => none) (cellsFrom (s.heap.objs.size + 1) scope.names []) (bindC (envOfC qual scope s.heap.objs.size f cd).kindOf (ps.zip us) fun _ => none) s1) :
    Inv (cxOf CX P w K mg base N qual scope f cd A outer s H E) [] (start N vs) H s1 := by
  have hpl : ps.length ≤ N.length := by have := congrArg List.length S.pre; rw [List.length_take] at this; omega
  obtain ⟨h1, tk, rfl, hk⟩ := x.done
  have noA : ∀ b : Addr, b ∉ (cxOf CX P w K mg base N qual scope f cd A outer s H E).ex := fun b z => absurd (show b ∈ ([] : List Addr) from z) (by simp)
  refine ⟨⟨e0.mod, S.kind, rfl, rfl, Nat.le_refl _, fun y z c h1 h2 => ?_, fun y hy => ?_, fun y c _ h => ?_, fun _ => hd, Around.frames_deeper e0.frames, .inr ⟨rfl, rfl⟩, fun b z => absurd z (noA b), e0.bs, e0.bsz, fun b _ _ => noA b, fun b z => absurd z (noA b), e0.funs, e0.frf⟩,
    rfl, e0.bare, Un.kept hk, ⟨_, x.toInCall.ns, fun i y v h1 h2 h3 => ?_⟩, fun y c h => ⟨_, x.cell y c h⟩, e0.hok.fresh (Nat.le_refl _), fun y c h => ?_, fun p hp => absurd (show p ∈ ([] : List (Addr × Obj)) from hp) (by simp), e0.hok.kept hk, ?_⟩
  · exact name_of_addr x.apart (PySem.mem_of_lookup h1) (PySem.mem_of_lookup h2)
  · have hy : scope.names.lookup y = some .cell ∨ scope.names.lookup y = some .free := hy
    rcases hy with hy | hy
    · exact cell_has hy
    · exact absurd rfl (S.nofree _ (PySem.mem_of_lookup hy))
  · exact Nat.le_of_lt (x.above y c (PySem.mem_of_lookup h))
  · have hi : i < vs.length := by
      unfold start at h2
      by_cases hi : i < vs.length
      · exact hi
      · rw [List.getElem?_append_right (by simpa using hi)] at h2
        rw [List.getElem?_replicate] at h2
        split at h2 <;> cases h2
    have ha : vs[i]? = some v := by
      unfold start at h2
      rw [List.getElem?_append_left (by simpa using hi), List.getElem?_map] at h2
      cases e : vs[i]? with
      | none => rw [e] at h2; cases h2
      | some a => rw [e] at h2; cases h2; rfl
    obtain ⟨u, hu, rv⟩ := r.get ha
    have hp : ps[i]? = some y := by
      rw [← S.pre, List.getElem?_take_of_lt (by omega)]; exact h1
    have ndP : ps.Nodup := by rw [← S.pre]; exact S.nd.sublist (List.take_sublist _ _)
    refine ⟨u, rv, ?_⟩
    rcases S.par y (List.mem_of_getElem? hp) with k | k
    · exact .inl ⟨k, bindL_get ndP hp hu k⟩
    · obtain ⟨c, e⟩ := cell_has (n := s.heap.objs.size + 1) k
      refine .inr ⟨.inl k, c, e, ?_⟩
      have q := x.cell y c e
      rw [bindC_get ndP hp hu (by show scope.names.lookup y ≠ _; rw [k]; decide)] at q
      exact q
  · exact e0.hok.fresh (Nat.le_of_lt (x.above y c (PySem.mem_of_lookup h)))
  · unfold start
    show _ = N.length
    rw [List.length_append, List.length_map, List.length_replicate]
    omega

/-- THE RULE: a def (or a method) of the text, by its body. The body's reading t is chosen for each entry; it is run at the parameters' values -/
theorem fn_of {CX : CXT} {P : Program} {w : World} {K : PySem.W.Frag} {mg : Str → Option Value} {base : Heap} {k : Nat} {f : Addr} {name qual : Str} {params : Arguments} {body : List Stmt} {scope : Scope} {dV kV doc pm cdv ct oc : Value} {an od : Option Addr}
    {osl : Array (Option Value)} {N ps : List Str} {sp : Sp} (lk : K.lookup f = some ⟨oc, od, .func (PySem.W.fnOf name qual params body scope dV kV doc pm an cdv ct), osl⟩) (hcd : PySem.W.codeIn K cdv qual = true) (S : FnScope N ps scope)
    (len : ∀ vs H Q E, sp vs H Q E → vs.length = ps.length)
    (hbody : ∀ (A : Around) (outer : List Env) (s : Shared) (H : Hp) (vs : List V) (Q : VK) (E : XK), Room k (A.deeper (envOfC qual scope s.heap.objs.size f cdv)) → sp vs H Q E →
      ∃ t, PSs (cxOf CX P w K mg base N qual scope f cdv A outer s H E) body t ∧ t { nx := fun _ H' => Q .non H', rt := Q } (start N vs) H) :
    FnOk P w K mg base CX (k + 1) f (PySem.W.fnOf name qual params body scope dV kV doc pm an cdv ct) ps sp := by
  refine ⟨len, fun A outer s H args us vs Q E hr e0 hb r hsp => ?_⟩
  have hl := len _ _ _ _ hsp
  have KX : K.In s.heap := e0.mod.kin.keeps fun b o e => (e0.bs b o e).1
  have lim : s.heap.NoLimit := e0.mod.nolimit.keeps fun b o e => (e0.bs b o e).1
  have hkind : ∀ y ∈ ps.zip us, scope.names.lookup y.1 = some .local ∨ (scope.names.lookup y.1 = some .cell ∧ ((cellsFrom (s.heap.objs.size + 1) scope.names []).lookup y.1).isSome = true) := fun ⟨n, v⟩ hy => by
    rcases S.par n (List.of_mem_zip hy).1 with q | q
    · exact .inl q
    · exact .inr ⟨q, PySem.W.cellsFrom_some _ _ _ (.inl q)⟩
  refine codeAny_call_function hr.depth (KX _ _ lk) rfl S.co S.gen rfl (PySem.W.codeRec_of KX hcd) (hb _ _ _ _ ?_)
  refine wpAny_newFunctionEnv_cells S.kind hkind fun env he s1 x => ?_
  subst he
  refine ⟨lim.keeps x.toInCall.keep, codeAny_func ?_⟩
  obtain ⟨t, ht, hq⟩ := hbody A outer s H vs Q E (hr.deeper _) hsp
  have I : Inv (cxOf CX P w K mg base N qual scope f cdv A outer s H E) [] (start N vs) H s1 := inv_start S hr.hd e0 hl r x
  refine wpAny_mono (ht [] s1 (start N vs) H _ I hq) (fun fl s' hs => ?_) fun e s' hs => hs
  have fin : ∀ {σ' : St} {H' : Hp} {v : V} {u : Value}, Inv (cxOf CX P w K mg base N qual scope f cdv A outer s H E) [] σ' H' s' → RelV v u → Q v H' → CE outer P w H s Q u s' :=
    fun {σ' H' v u} J rv q => ⟨v, H', J.os, J.bare, J.base, J.hok, rv, q⟩
  cases fl with
  | ret u =>
    obtain ⟨v, σ', H', J, rv, q⟩ := hs
    exact fin J rv q
  | next =>
    obtain ⟨σ', H', J, q⟩ := hs
    exact fin (v := V.non) (u := Value.none) J rfl q
  | brk =>
    obtain ⟨_, _, _, q⟩ := hs
    exact False.elim q
  | cont =>
    obtain ⟨_, _, _, q⟩ := hs
    exact False.elim q
end L2

namespace L2
open PySem PySem.Spec PyProof.Rows
section
variable {X : Cx} {x : Str} {p pos : Pos} {e : Expr} {es : List Expr} {t : TA} {id T : String} {r : List V → Hp → VK → Prop}

noncomputable def tCB (r : List V → Hp → VK → Prop) (t : TA) : TE := fun σ H Q => t σ H fun vs H1 => r vs H1 Q
/-- f(e, ..), f a built-in function -/
theorem pe_callB (hc : CallR X (.builtin id) r) (hg : Gl X x) (hm : X.mg x = none) (hv : bootBuiltins x = some (.builtin id)) (ha : PA X (e :: es) t) (hn : x ≠ "__name__" := by decide) (hdb : (x == ("__debug__" : Str)) = false := by decide)
    (he : starEach (e :: es) X.env = (false, eval e X.env) :: starEach es X.env := by rfl) (hpl : (backTo pos (starEach es X.env)).any (·.1) = false := by rfl) : PE X (.Call (.Name x p) (e :: es) [] pos) (tCB r t) := by
  intro pins s σ H Q I h
  refine wpAny_Call_Name_kw (ld_blt I hg hm hv ?_ hn hdb)
  exact PyProof.Rows.callWith_builtin1 (thn (ha pos pins s σ H _ I h) fun us s1 ⟨vs, H1, I1, r1, q1⟩ => hc pins s1 σ H1 vs us Q I1 r1 q1) he hpl
/-- T(e, ..), T a built-in type -/
theorem pe_callTy (hc : CallR X (.type T) r) (hg : Gl X x) (hm : X.mg x = none) (hv : bootBuiltins x = some (.type T)) (ha : PA X (e :: es) t) (hn : x ≠ "__name__" := by decide) (hdb : (x == ("__debug__" : Str)) = false := by decide)
    (he : starEach (e :: es) X.env = (false, eval e X.env) :: starEach es X.env := by rfl) (hpl : (backTo pos (starEach es X.env)).any (·.1) = false := by rfl) : PE X (.Call (.Name x p) (e :: es) [] pos) (tCB r t) := by
  intro pins s σ H Q I h
  refine wpAny_Call_Name_kw (ld_blt I hg hm hv ?_ hn hdb)
  exact PyProof.Rows.callWith_type1 (thn (ha pos pins s σ H _ I h) fun us s1 ⟨vs, H1, I1, r1, q1⟩ => hc pins s1 σ H1 vs us Q I1 r1 q1) he hpl
end
end L2

namespace HT
open PySem PyProof.Rows

section
open PySem.SeqAt
open PySem.AutoSeq1 (wpAny_loadPart')
open PySem.MeetsSeq PySem.MeetsSeq2 PySem.MeetsSeq3

end

section
variable {prog : Program} {w : World} {A : Around} {E : Value → Shared → Prop} {s : Shared}

/-- t + u, t not empty -/
theorem cat_tup {t b : Addr} {vs ws : List Value} {Q : Value → Shared → Prop} (ht : IsTup s.heap t vs.toArray) (hb : IsTup s.heap b ws.toArray) (hv : vs ≠ [])
    (h1 : ws = [] → Q (.ref t) s) (h2 : ws ≠ [] → Q (.ref s.heap.objs.size) { s with heap := s.heap.push { cls := .type "tuple", data := .seq (vs ++ ws).toArray } })
    (hsz : vs.length + ws.length ≤ sizeLine) : wpAny (model prog w) A (binaryOp .Add (.ref t) (.ref b)) Q E s := by
  obtain ⟨⟨cls, dd, data, sl⟩, ho, hc, n, hd⟩ := id ht
  obtain ⟨⟨cls2, dd2, data2, sl2⟩, ho2, hc2, n2, hd2⟩ := id hb
  simp only at hc hd hc2 hd2
  subst hc hd hc2 hd2
  have e : vs.toArray ++ ws.toArray = (vs ++ ws).toArray := by simp
  by_cases hw : ws = []
  · exact concat_meets ⟨_, ho, rfl⟩ ⟨_, ho2, rfl⟩ noFill_tuple_add seq_tuple_add PySem.F.slot_tuple_add PySem.F.entry_tuple_add (PySem.F.args_tuple_add_2 _ _)
      (tuple_addW1 t b vs.toArray ws.toArray n n2 dd dd2 sl sl2 (by simpa using hv) (by simp [hw])) ⟨ho, ho2, h1 hw⟩
  · refine concat_meets ⟨_, ho, rfl⟩ ⟨_, ho2, rfl⟩ noFill_tuple_add seq_tuple_add PySem.F.slot_tuple_add PySem.F.entry_tuple_add (PySem.F.args_tuple_add_2 _ _)
      (tuple_addW2 t b vs.toArray ws.toArray n n2 dd dd2 sl sl2 (by simpa using hv) (by simpa using hw) (by rw [List.size_toArray, List.size_toArray]; exact hsz)) ⟨ho, ho2, ?_⟩
    rw [e]
    exact h2 hw

/-! ### t[a:b], not the whole -/
/-- a slice's bound as a place among n (d where it is left out) -/
noncomputable def sIx (n d : Nat) : Option Int → Nat
  | none => d
  | some v => if v < 0 then (v + (n : Int)).toNat else min v.toNat n
theorem sIx_none (n d : Nat) : sIx n d none = d := rfl
theorem sIx_nat (n d k : Nat) : sIx n d (some (k : Int)) = min k n := by
  show (if (k : Int) < 0 then ((k : Int) + (n : Int)).toNat else min (k : Int).toNat n) = min k n
  rw [if_neg (by omega), Int.toNat_natCast]
theorem sIx_le (n d : Nat) (hd : d ≤ n) (o : Option Int) : sIx n d o ≤ n := by
  cases o with
  | none => exact hd
  | some v =>
    show (if v < 0 then (v + (n : Int)).toNat else min v.toNat n) ≤ n
    by_cases hv : v < 0
    · rw [if_pos hv]; omega
    · rw [if_neg hv]; exact Nat.min_le_right _ _
theorem clip_eq (v : Int) (n d : Nat) : (if v < 0 then max (v + (n : Int)) 0 else min v (n : Int)) = ((sIx n d (some v) : Nat) : Int) := by
  show (if v < 0 then max (v + (n : Int)) 0 else min v (n : Int)) = (((if v < 0 then (v + (n : Int)).toNat else min v.toNat n) : Nat) : Int)
  by_cases hv : v < 0
  · simp only [if_pos hv]; omega
  · simp only [if_neg hv]; omega
theorem adjust_gen (lo hi : Option Int) (n : Nat) : Builtin.Slice.sliceAdjust lo hi 1 (n : Int) = (((sIx n 0 lo : Nat) : Int), ((sIx n n hi : Nat) : Int)) := by
  have h1 : ¬ ((1 : Int) < 0) := by omega
  unfold Builtin.Slice.sliceAdjust
  simp only [h1, if_false]
  refine Prod.ext ?_ ?_
  · cases lo with
    | none => rfl
    | some v => exact clip_eq v n 0
  · cases hi with
    | none => rfl
    | some v => exact clip_eq v n n
theorem places_gen (i j : Nat) : Builtin.Slice.slicePlaces (i : Int) (j : Int) 1 = j - i := by
  unfold Builtin.Slice.slicePlaces
  have h1 : (1 : Int) > 0 := by omega
  simp only [h1, if_true, Int.ediv_one]
  split <;> omega
theorem slicePart_ {v : Value} {o : Option Int} {Q : Option Int → Shared → Prop} (p : IsPart v o) (h : Q o s) : wpAny (model prog w) A (Builtin.Slice.slicePartIndex v) Q E s := by
  cases p with
  | none => exact slicePart_none h
  | int i t => exact slicePart_int h
theorem sliceApplied_gen {sl : Addr} {vl vu : Value} {lo hi : Option Int} {n : Nat} {Q : Int × Int × Nat → Shared → Prop} (hs : s.heap.IsSliceOf sl vl vu .none) (pl : IsPart vl lo) (pu : IsPart vu hi)
    (h : Q (((sIx n 0 lo : Nat) : Int), 1, sIx n n hi - sIx n 0 lo) s) : wpAny (model prog w) A (Builtin.Slice.sliceApplied (.ref sl) (pure (n : Int))) Q E s := by
  obtain ⟨os, hos, hcs, hds⟩ := id hs
  unfold Builtin.Slice.sliceApplied Builtin.Slice.sliceFields
  refine wpAny_bind (wpAny_bind (wpAny_field hos hds (x := vl) rfl (wpAny_bind (wpAny_field hos hds (x := vu) rfl (wpAny_bind (wpAny_field hos hds (x := .none) rfl (wpAny_pure ?_)))))))
  refine wpAny_bind (slicePart_none ?_)
  show wpAny _ _ (if ((1 : Int) == 0) = true then _ else _) _ _ s
  rw [if_neg (by decide)]
  refine wpAny_bind (slicePart_ pl (wpAny_bind (slicePart_ pu (wpAny_bind (wpAny_pure ?_)))))
  show wpAny _ _ (match Builtin.Slice.sliceAdjust lo hi 1 (n : Int) with | (lo, hi) => pure (lo, (1 : Int), Builtin.Slice.slicePlaces lo hi 1)) _ _ s
  rw [adjust_gen lo hi n]
  show wpAny _ _ (pure (((sIx n 0 lo : Nat) : Int), (1 : Int), Builtin.Slice.slicePlaces ((sIx n 0 lo : Nat) : Int) ((sIx n n hi : Nat) : Int) 1)) _ _ s
  rw [places_gen]
  exact wpAny_pure h
theorem pick_gen (xs : Array Value) (i k : Nat) : ((List.range k).filterMap fun (m : Nat) => xs[((i : Int) + (m : Int) * 1).toNat]?).toArray = ((xs.toList.drop i).take k).toArray := by
  have e : (fun (m : Nat) => xs[((i : Int) + (m : Int) * 1).toNat]?) = fun m => xs[i + m]? := by
    funext m
    have : ((i : Int) + (m : Int) * 1).toNat = i + m := by omega
    rw [this]
  rw [e]
  have := pick_run xs i k
  rw [List.filterMap_map] at this
  have e2 : ((fun x => xs[x]?) ∘ fun x => i + x) = fun m => xs[i + m]? := rfl
  rw [e2] at this
  rw [this]

theorem getItem_tuple_cut {t sl : Addr} {items : Array Value} {vl vu : Value} {lo hi : Option Int} {Q : Value → Shared → Prop} (ht : IsTup s.heap t items) (hs : s.heap.IsSliceOf sl vl vu .none) (pl : IsPart vl lo) (pu : IsPart vu hi)
    (hw : ¬ (sIx items.size 0 lo = 0 ∧ sIx items.size items.size hi = items.size))
    (h : Q (.ref s.heap.objs.size) { s with heap := s.heap.push { cls := .type "tuple", data := .seq ((items.toList.drop (sIx items.size 0 lo)).take (sIx items.size items.size hi - sIx items.size 0 lo)).toArray } })
    (hsz : items.size ≤ sizeLine) : wpAny (model prog w) A (getItem (.ref t) (.ref sl)) Q E s := by
  have htake : sizeOk (.seq ((items.toList.drop (sIx items.size 0 lo)).take (sIx items.size items.size hi - sIx items.size 0 lo)).toArray) := by
    show ((items.toList.drop (sIx items.size 0 lo)).take (sIx items.size items.size hi - sIx items.size 0 lo)).toArray.size ≤ sizeLine
    rw [List.size_toArray, List.length_take, List.length_drop, Array.length_toList]
    omega
  have hj : sIx items.size items.size hi ≤ items.size := sIx_le _ _ (Nat.le_refl _) hi
  obtain ⟨os, hos, hcs, hds⟩ := id hs
  have hTs : s.TypeIs (.ref sl) "slice" := ⟨os, hos, hcs⟩
  unfold getItem
  try with_reducible refine wpAny_holding ?_
  first | refine wpAny_bind (wpAny_pure ?_) | skip
  refine wpAny_bind (wpAny_sequenceKey ht.typeIs (by decide) ?_)
  refine wpAny_bind (wpAny_callSpecial?_slot (name := Str.ofString "__getitem__") ht.typeIs PyProof.Rows.slot_tuple_getitem
    (wpAny_call_entry PyProof.Rows.slot_tuple_getitem ht.typeIs entry_tuple_getitem ?_ (args_tuple_getitem _ _)))
  show wpAny _ _ (Builtin.Tuple.tupleItemsOf (.ref t) >>= _) _ _ s
  refine wpAny_bind (tupleItemsOf_ ht ?_)
  refine wpAny_bind (wpAny_typeOf hTs ?_)
  rw [if_pos (by decide)]
  refine wpAny_bind (sliceApplied_gen hs pl pu ?_)
  have hno : ¬ ((((sIx items.size 0 lo : Nat) : Int) == 0 && (1 : Int) == 1 && (sIx items.size items.size hi - sIx items.size 0 lo) == items.size) = true) := by
    intro q
    rw [Bool.and_eq_true, Bool.and_eq_true] at q
    have q1 : ((sIx items.size 0 lo : Nat) : Int) = 0 := eq_of_beq q.1.1
    have q2 : sIx items.size items.size hi - sIx items.size 0 lo = items.size := eq_of_beq q.2
    exact hw ⟨by omega, by omega⟩
  show wpAny _ _ (if (((sIx items.size 0 lo : Nat) : Int) == 0 && (1 : Int) == 1 && (sIx items.size items.size hi - sIx items.size 0 lo) == items.size) = true then _ else _) _ _ s
  rw [if_neg hno, pick_gen]
  first
    | exact wpAny_bind (m := Builtin.Tuple.tupleExact _) (wpAny_newObj_type (wpAny_pure ⟨_, rfl, wpAny_pure h⟩) htake)
    | exact wpAny_bind (m := Builtin.Tuple.tupleExact _) (wpAny_newObj_type (wpAny_bind (wpAny_pure (wpAny_pure ⟨_, rfl, wpAny_pure h⟩))) htake)
    | exact wpAny_bind (wpAny_bind (m := Builtin.Tuple.tupleExact _) (wpAny_newObj_type (wpAny_pure (wpAny_pure ⟨_, rfl, wpAny_pure h⟩)) htake))
    | exact wpAny_bind (wpAny_bind (m := Builtin.Tuple.tupleExact _) (wpAny_newObj_type (wpAny_pure ⟨_, rfl, wpAny_pure h⟩) htake))
end
end HT

namespace L2
open PySem PySem.Spec PyProof.Rows

/-! ### the parts of a slice -/
noncomputable abbrev TO := St → Hp → (Option Int → Hp → Prop) → Prop
/-- a slice's part (left out, or an int) -/
noncomputable def PO (X : Cx) (e : Option Expr) (t : TO) : Prop :=
  ∀ (pins : List (Addr × Obj)) (s : Shared) (σ : St) (H : Hp) (Q : Option Int → Hp → Prop), Inv X pins σ H s → t σ H Q →
    wpAny (model X.prog X.w) X.A (evalPart e X.env) (fun u s' => ∃ o H', Inv X pins σ H' s' ∧ IsPart u o ∧ Q o H') X.xe s
noncomputable def tNoPart : TO := fun _ H Q => Q none H
noncomputable def tPart (t : TE) : TO := fun σ H Q => t σ H fun x H1 => ∃ i, x = .int i ∧ Q (some i) H1

section
variable {X : Cx} {e : Expr} {te : TE} {lo hi : Option Expr} {tl th : TO} {pos p2 : Pos}

theorem po_none : PO X none tNoPart := by
  intro pins s σ H Q I h
  rw [evalPart_none]
  exact wpAny_pure ⟨none, H, I, .none, h⟩
theorem po_some (h : PE X e te) : PO X (some e) (tPart te) := by
  intro pins s σ H Q I hw
  rw [evalPart_some]
  refine thn (h pins s σ H _ I hw) fun u s1 ⟨x, H1, I1, r1, q1⟩ => ?_
  obtain ⟨i, rfl, q⟩ := q1
  obtain ⟨t, rfl⟩ := r1
  exact ⟨some i, H1, I1, .int i t, q⟩

/-- what a slice of a value is, by values: the slice object stands at sl -/
noncomputable def SlR (X : Cx) (r : V → Option Int → Option Int → Hp → VK → Prop) : Prop :=
  ∀ (pins : List (Addr × Obj)) (s : Shared) (σ : St) (H : Hp) (x : V) (v vl vu : Value) (lo hi : Option Int) (sl : Addr) (Q : VK), Inv X pins σ H s → RelV x v → s.heap.IsSliceOf sl vl vu .none → IsPart vl lo → IsPart vu hi → r x lo hi H Q →
    ∃ T id, typeLookup (.type T) "__getitem__" = pure (some (.builtin id)) ∧ s.TypeIs v T ∧ wpAny (model X.prog X.w) X.A (getItem v (.ref sl)) (EP X pins σ Q) X.xe s
theorem SlR.or {r r' : V → Option Int → Option Int → Hp → VK → Prop} (h : SlR X r) (h' : SlR X r') : SlR X (fun x lo hi H Q => r x lo hi H Q ∨ r' x lo hi H Q) := by
  intro pins s σ H x v vl vu lo hi sl Q I rx hs pl pu q
  rcases q with q | q
  · exact h pins s σ H x v vl vu lo hi sl Q I rx hs pl pu q
  · exact h' pins s σ H x v vl vu lo hi sl Q I rx hs pl pu q
noncomputable def tSl (r : V → Option Int → Option Int → Hp → VK → Prop) (te : TE) (tl th : TO) : TE := fun σ H Q => te σ H fun x H1 => tl σ H1 fun l H2 => th σ H2 fun u H3 => r x l u H3 Q
/-- a[lo:hi], any a -/
theorem pe_slice {r : V → Option Int → Option Int → Hp → VK → Prop} (hr : SlR X r) (he : PE X e te) (hl : PO X lo tl) (hu : PO X hi th) : PE X (.Subscript e (.Slice lo hi none p2) pos) (tSl r te tl th) := by
  intro pins s σ H Q I h
  refine Subscript_ (thn (he pins s σ H _ I h) fun v s1 ⟨x, H1, I1, r1, q1⟩ => ?_)
  refine wpAny_Slice (thn (hl pins s1 σ H1 _ I1 q1) fun vl s2 ⟨l, H2, I2, pl, q2⟩ => thn (hu pins s2 σ H2 _ I2 q2) fun vu s3 ⟨u, H3, I3, pu, q3⟩ => ?_)
  rw [evalPart_none]
  refine wpAny_pure ?_
  have I4 : Inv X pins σ H3 { s3 with heap := s3.heap.push { cls := .type "slice", data := .fields #[vl, vu, .none] } } := I3.kept (t' := s3.toks) fun b ob q => Heap.get?_push_of_some _ q
  obtain ⟨T, id, hT, ht, hg⟩ := hr pins { s3 with heap := s3.heap.push { cls := .type "slice", data := .fields #[vl, vu, .none] } } σ H3 x v vl vu l u s3.heap.objs.size Q I4 r1 (Heap.IsSliceOf.new ..) pl pu q3
  show wpAny (model X.prog X.w) X.A (subscriptTail e (.Slice lo hi none p2) v (.ref s3.heap.objs.size)) (EP X pins σ Q) X.xe { s3 with heap := s3.heap.push { cls := .type "slice", data := .fields #[vl, vu, .none] } }
  exact tail_any (ops := [.ref s3.heap.objs.size, v]) ht hT hg (by with_unfolding_all rfl)

/-- the items of xs[lo:hi] -/
noncomputable def cutV (xs : List V) (lo hi : Option Int) : List V := (xs.drop (HT.sIx xs.length 0 lo)).take (HT.sIx xs.length xs.length hi - HT.sIx xs.length 0 lo)
theorem cutV_length (xs : List V) (lo hi : Option Int) : (cutV xs lo hi).length ≤ xs.length := by
  unfold cutV
  rw [List.length_take, List.length_drop]
  omega
/-- t[lo:hi], not the whole of it (the whole would be t itself) -/
noncomputable def rSlT (K : PySem.W.Frag) : V → Option Int → Option Int → Hp → VK → Prop := fun x lo hi H Q => ∃ a xs, x = .ref a ∧ SqT K H a xs ∧
  ¬ (HT.sIx xs.length 0 lo = 0 ∧ HT.sIx xs.length xs.length hi = xs.length) ∧ ∀ p, H p = none → Q (.ref p) (upd H p (.tup (cutV xs lo hi)))
theorem sl_tup : SlR X (rSlT X.K) := by
  intro pins s σ H x v vl vu lo hi sl Q I rx hs pl pu h
  obtain ⟨a, xs, rfl, hx, hw, q⟩ := h
  cases rx
  obtain ⟨its, r, ht, hz⟩ := I.tuple hx
  have hlen : its.toArray.size = xs.length := by rw [List.size_toArray]; exact r.length.symm
  refine ⟨"tuple", _, PyProof.Rows.slot_tuple_getitem.lookup, ht.typeIs, ?_⟩
  refine HT.getItem_tuple_cut ht hs pl pu (by rw [hlen]; exact hw) ?_ (by rw [hlen]; exact hz)
  rw [hlen]
  refine ⟨.ref s.heap.objs.size, _, I.laid (t' := s.toks) (o := .tup (cutV xs lo hi)) (fun b ob q => Heap.get?_push_of_some _ q) (Nat.le_refl _) ?_, rfl, q _ (I.hok.fresh (Nat.le_refl _))⟩
  exact ⟨Nat.le_trans (cutV_length xs lo hi) hz, _, (r.drop (HT.sIx xs.length 0 lo)).take (HT.sIx xs.length xs.length hi - HT.sIx xs.length 0 lo), TupD.new _ _⟩

/-- t + u, t not empty: u empty gives t itself -/
noncomputable def rCatT (K : PySem.W.Frag) : R2 := fun x y H Q => ∃ a b xs ys, x = .ref a ∧ y = .ref b ∧ SqT K H a xs ∧ SqT K H b ys ∧ xs ≠ [] ∧ xs.length + ys.length ≤ sizeLine ∧
  (ys = [] → Q (.ref a) H) ∧ (ys ≠ [] → ∀ p, H p = none → Q (.ref p) (upd H p (.tup (xs ++ ys))))
theorem Vals.nil_iff {xs : List V} {us : List Value} (r : Vals xs us) : us = [] ↔ xs = [] := by
  cases r with
  | nil => simp
  | cons _ _ => simp
theorem op_catT : OpR X (binaryOp .Add) (rCatT X.K) := by
  intro pins s σ H x y v u Q I rx ry h
  obtain ⟨a, b, xs, ys, rfl, rfl, ha, hb, hx, hz, q1, q2⟩ := h
  cases rx
  cases ry
  obtain ⟨its, r1, p1, _⟩ := I.tuple ha
  obtain ⟨its2, r2, p2, _⟩ := I.tuple hb
  refine HT.cat_tup p1 p2 (fun z => hx (r1.nil_iff.mp z)) (fun z => ⟨.ref a, H, I, rfl, q1 (r2.nil_iff.mp z)⟩) (fun z => ?_) (by rw [← r1.length, ← r2.length]; exact hz)
  refine ⟨.ref s.heap.objs.size, _, I.laid (t' := s.toks) (o := .tup (xs ++ ys)) (fun b ob q => Heap.get?_push_of_some _ q) (Nat.le_refl _) ?_, rfl, q2 (fun w => z (r2.nil_iff.mpr w)) _ (I.hok.fresh (Nat.le_refl _))⟩
  exact ⟨by rw [List.length_append]; exact hz, _, r1.append r2, TupD.new _ _⟩
end
end L2

namespace L2
open PySem PySem.Spec PyProof.Rows

/-! ### places -/
/-- the place that an index of any sign means -/
noncomputable def ixN (n : Nat) (i : Int) : Option Nat := if 0 ≤ i then (if i < n then some i.toNat else none) else if -(n : Int) ≤ i then some (i + n).toNat else none
noncomputable def atI {α : Type} (xs : List α) (i : Int) : Option α := (ixN xs.length i).bind fun j => xs[j]?
theorem ixN_seq {n : Nat} {i : Int} {j : Nat} (h : ixN n i = some j) : seqIndex? i n = some j ∧ j < n ∧ -(n : Int) ≤ i ∧ i < n := by
  unfold ixN at h
  by_cases h0 : 0 ≤ i
  · rw [if_pos h0] at h
    by_cases h1 : i < n
    · rw [if_pos h1] at h
      have e : i.toNat = j := Option.some.inj h
      exact ⟨by rw [seqIndex_of h0 h1, e], by omega, by omega, h1⟩
    · rw [if_neg h1] at h; cases h
  · rw [if_neg h0] at h
    by_cases h1 : -(n : Int) ≤ i
    · rw [if_pos h1] at h
      have e : (i + n).toNat = j := Option.some.inj h
      exact ⟨by rw [seqIndex_neg (by omega) h1, e], by omega, h1, by omega⟩
    · rw [if_neg h1] at h; cases h
theorem atI_get {α : Type} {xs : List α} {i : Int} {v : α} (h : atI xs i = some v) : ∃ j, seqIndex? i xs.length = some j ∧ xs[j]? = some v ∧ j < xs.length ∧ -(xs.length : Int) ≤ i ∧ i < xs.length := by
  unfold atI at h
  cases e : ixN xs.length i with
  | none => rw [e] at h; cases h
  | some j =>
    rw [e] at h
    obtain ⟨h1, h2, h3, h4⟩ := ixN_seq e
    exact ⟨j, h1, h, h2, h3, h4⟩
theorem atI_nat {α : Type} {xs : List α} {j : Nat} {v : α} (h : xs[j]? = some v) : atI xs (j : Int) = some v := by
  have hj : j < xs.length := (List.getElem?_eq_some_iff.mp h).1
  have e : ixN xs.length (j : Int) = some j := by
    unfold ixN
    rw [if_pos (by omega), if_pos (by omega)]; simp
  unfold atI; rw [e]; exact h
/-! ### what may be subscripted -/
/-- what stands as an index of a plain subscript -/
noncomputable def PlainIx (b : Expr) : Prop := ∀ o i, subscripted b false o i = operate [o, i] (getItem o i)
/-- a subscript by values -/
noncomputable def IxR (X : Cx) (r : R2) : Prop :=
  ∀ (value slice : Expr) (pins : List (Addr × Obj)) (s : Shared) (σ : St) (H : Hp) (x y : V) (v u : Value) (Q : VK), Inv X pins σ H s → RelV x v → RelV y u → r x y H Q →
    subscripted slice false v u = operate [v, u] (getItem v u) → wpAny (model X.prog X.w) X.A (subscriptTail value slice v u) (EP X pins σ Q) X.xe s
/-- a call of a builtin's method by values: the receiver, the arguments -/
noncomputable def MtR (X : Cx) (id : String) (r : V → List V → Hp → VK → Prop) : Prop :=
  ∀ (pins : List (Addr × Obj)) (s : Shared) (σ : St) (H : Hp) (x : V) (xs : List V) (v : Value) (us : List Value) (Q : VK), Inv X pins σ H s → RelV x v → Vals xs us → r x xs H Q →
    wpAny (model X.prog X.w) X.A (call (.builtin id) (v :: us)) (EP X pins σ Q) X.xe s
section
variable {X : Cx} {a b : Expr} {ta tb : TE} {pos : Pos}
theorem IxR.or {r r' : R2} (h : IxR X r) (h' : IxR X r') : IxR X (fun x y H Q => r x y H Q ∨ r' x y H Q) := by
  intro value slice pins s σ H x y v u Q I rx ry q hs
  rcases q with q | q
  · exact h value slice pins s σ H x y v u Q I rx ry q hs
  · exact h' value slice pins s σ H x y v u Q I rx ry q hs
theorem MtR.or {id : String} {r r' : V → List V → Hp → VK → Prop} (h : MtR X id r) (h' : MtR X id r') : MtR X id (fun x xs H Q => r x xs H Q ∨ r' x xs H Q) := by
  intro pins s σ H x xs v us Q I rx rs q
  rcases q with q | q
  · exact h pins s σ H x xs v us Q I rx rs q
  · exact h' pins s σ H x xs v us Q I rx rs q
/-- a[b] -/
theorem pe_ix {r : R2} (hr : IxR X r) (ha : PE X a ta) (hb : PE X b tb) (hs : PlainIx b) : PE X (.Subscript a b pos) (tOp r ta tb) := by
  intro pins s σ H Q I h
  exact Subscript_ (binT ha hb I h fun v u s2 x y H2 I2 rx ry q => hr a b pins s2 σ H2 x y v u Q I2 rx ry q (hs _ _))

noncomputable def rIxL (K : PySem.W.Frag) : R2 := fun x y H Q => ∃ p xs i v, x = .ref p ∧ y = .int i ∧ SqL K H p xs ∧ atI xs i = some v ∧ Q v H
noncomputable def rIxT (K : PySem.W.Frag) : R2 := fun x y H Q => ∃ p xs i v, x = .ref p ∧ y = .int i ∧ SqT K H p xs ∧ atI xs i = some v ∧ Q v H
noncomputable def rIxS : R2 := fun x y H Q => ∃ z i c, x = .str z ∧ y = .int i ∧ z.length ≤ sizeLine ∧ atI z.cps.toList i = some c ∧ Q (.str ⟨#[c]⟩) H
theorem ix_list : IxR X (rIxL X.K) := by
  intro value slice pins s σ H x y v u Q I rx ry h hs
  obtain ⟨p, xs, i, z, rfl, rfl, hq, he, q⟩ := h
  cases rx
  obtain ⟨t, rfl⟩ := ry
  obtain ⟨its, r, pl, hz⟩ := I.list hq
  obtain ⟨j, h1, h2, h3, h4, h5⟩ := atI_get he
  obtain ⟨w, ew, rw'⟩ := r.get h2
  have hl := r.length
  have hn := line63
  have fin : EP X pins σ Q w s := ⟨z, H, I, rw', q⟩
  by_cases h0 : 0 ≤ i
  · have hj : i.toNat = j := by
      rw [seqIndex_of h0 h5] at h1
      exact Option.some.inj h1
    exact item_listR pl.isList h0 (by omega) (by rw [hj]; simpa using ew) fin hs
  · have hj : (i + (its.toArray.size : Int)).toNat = j := by
      rw [seqIndex_neg (by omega) h4] at h1
      rw [List.size_toArray, ← hl]
      exact Option.some.inj h1
    exact subscriptTail_builtinR (x := w) pl.isList.typeIs slot_list_getitem.lookup
      (wpAny_getItem_list_neg (Q := fun r s' => r = w ∧ EP X pins σ Q r s') pl.isList (by omega) (by rw [List.size_toArray] <;> omega) (by omega) (by rw [hj]; simpa using ew) ⟨rfl, fin⟩) hs
theorem ix_tup : IxR X (rIxT X.K) := by
  intro value slice pins s σ H x y v u Q I rx ry h hs
  obtain ⟨p, xs, i, z, rfl, rfl, hq, he, q⟩ := h
  cases rx
  obtain ⟨t, rfl⟩ := ry
  obtain ⟨its, r, pl, hz⟩ := I.tuple hq
  obtain ⟨j, h1, h2, h3, h4, h5⟩ := atI_get he
  obtain ⟨w, ew, rw'⟩ := r.get h2
  have hl := r.length
  have hn := line63
  have fin : EP X pins σ Q w s := ⟨z, H, I, rw', q⟩
  exact subscriptTail_builtinR (x := w) pl.typeIs slot_tuple_getitem.lookup
    (getItem_tuple (j := j) (Q := fun r s' => r = w ∧ EP X pins σ Q r s') pl (by omega) (by omega) (by rw [List.size_toArray, ← hl]; exact h1) (by simpa using ew) ⟨rfl, fin⟩) hs
theorem ix_str : IxR X rIxS := by
  intro value slice pins s σ H x y v u Q I rx ry h hs
  obtain ⟨z, i, c, rfl, rfl, hz, he, q⟩ := h
  obtain ⟨t, rfl⟩ := rx
  obtain ⟨t', rfl⟩ := ry
  obtain ⟨j, h1, h2, h3, h4, h5⟩ := atI_get he
  have hl : z.cps.toList.length = z.length := by simp [Str.length]
  rw [hl] at h1 h4 h5
  have hn := line63
  exact tail_any (typeIs_str s z t) slot_str_getitem.lookup (getItem_str (c := c) (by
    have e1 : decide (i < -(2 ^ 63 : Int)) = false := decide_eq_false (by omega)
    have e2 : decide (i ≥ 2 ^ 63) = false := decide_eq_false (by omega)
    rw [e1, e2, Bool.or_false]) (by rw [h1]; simpa using h2) ⟨.str ⟨#[c]⟩, H, I.tok _, ⟨_, rfl⟩, q⟩) hs
/-- list, tuple or str -/
noncomputable def rIx (K : PySem.W.Frag) : R2 := fun x y H Q => rIxL K x y H Q ∨ rIxT K x y H Q ∨ rIxS x y H Q
theorem ix_seq : IxR X (rIx X.K) := ix_list.or (ix_tup.or ix_str)

/-! ### xs[i] = v, any sign -/
theorem Inv.lst {pins : List (Addr × Obj)} {σ : St} {H : Hp} {s : Shared} {p : Addr} {xs : List V} (I : Inv X pins σ H s) (h : H p = some (.lst xs)) :
    ∃ (its : List Value) (n : Nat), Vals xs its ∧ s.heap.get? p = some { cls := .type "list", data := .seq its.toArray n } ∧ xs.length ≤ sizeLine := by
  obtain ⟨z, its, n, r, e⟩ := I.hok p _ h
  exact ⟨its, n, r, e, z⟩
/-! ### slices -/
theorem slice_bounds (lo hi : Option Int) (n : Nat) : (sliceBounds lo hi none n).1 = ((HT.sIx n 0 lo : Nat) : Int) ∧ (sliceBounds lo hi none n).2.1 = ((HT.sIx n n hi : Nat) : Int) ∧ (sliceBounds lo hi none n).2.2 = 1 := by
  refine ⟨?_, ?_, rfl⟩
  · cases lo with
    | none => simp [sliceBounds, HT.sIx]
    | some i =>
      simp only [sliceBounds, HT.sIx, Option.getD_none, show (1 : Int) > 0 by decide, if_true]
      by_cases h : i < 0
      · simp only [h, if_true] <;> omega
      · simp only [h, if_false] <;> omega
  · cases hi with
    | none => simp [sliceBounds, HT.sIx]
    | some i =>
      simp only [sliceBounds, HT.sIx, Option.getD_none, show (1 : Int) > 0 by decide, if_true]
      by_cases h : i < 0
      · simp only [h, if_true] <;> omega
      · simp only [h, if_false] <;> omega
theorem slicePick_cut (its : List Value) (lo hi : Option Int) : slicePick its.toArray lo hi none = ((its.drop (HT.sIx its.length 0 lo)).take (HT.sIx its.length its.length hi - HT.sIx its.length 0 lo)).toArray := by
  obtain ⟨h1, h2, h3⟩ := slice_bounds lo hi its.toArray.size
  unfold slicePick
  rw [h1, h2, h3]
  simp only [sliceRange_one, pick_run, List.size_toArray] <;> rfl
/-- xs[lo:hi] of a list: a new list -/
noncomputable def rSlL (K : PySem.W.Frag) : V → Option Int → Option Int → Hp → VK → Prop := fun x lo hi H Q => ∃ a xs, x = .ref a ∧ SqL K H a xs ∧ ∀ p, H p = none → Q (.ref p) (upd H p (.lst (cutV xs lo hi)))
theorem sl_list : SlR X (rSlL X.K) := by
  intro pins s σ H x v vl vu lo hi sl Q I rx hs pl pu h
  obtain ⟨a, xs, rfl, hx, q⟩ := h
  cases rx
  obtain ⟨its, r, ht, hz⟩ := I.list hx
  have hlen := r.length
  refine ⟨"list", _, slot_list_getitem.lookup, ht.isList.typeIs, ?_⟩
  refine wpAny_getItem_list_slice ht.isList hs pl pu .none (by simp) ?_ (by rw [List.size_toArray] <;> omega)
  rw [slicePick_cut, ← hlen]
  refine ⟨.ref s.heap.objs.size, _, I.laid (t' := s.toks) (o := .lst (cutV xs lo hi)) (fun b ob q => Heap.get?_push_of_some _ q) (Nat.le_refl _) ?_, rfl, q _ (I.hok.fresh (Nat.le_refl _))⟩
  exact ⟨Nat.le_trans (cutV_length xs lo hi) hz, _, 0, (r.drop (HT.sIx xs.length 0 lo)).take (HT.sIx xs.length xs.length hi - HT.sIx xs.length 0 lo), Heap.get?_push_size _ rfl⟩

/-! ### len, list(x), tuple(x) of any list or tuple that is read -/
theorem call_len_seq : CallR X (.builtin "len") (fun xs H Q => ∃ p ys, xs = [.ref p] ∧ (SqL X.K H p ys ∨ SqT X.K H p ys) ∧ Q (.int ys.length) H) := by
  intro pins s σ H xs us Q I r h
  obtain ⟨p, ys, rfl, hq, q⟩ := h
  obtain ⟨u, rfl, rx⟩ := vals1 r
  cases rx
  have hn := line63
  rcases hq with hq | hq
  · obtain ⟨its, r', pl, hz⟩ := I.list hq
    have hlen := r'.length
    exact Calls.call_len_list pl.isList (by simp only [List.size_toArray] <;> omega) ⟨.int ys.length, H, I.tok _, ⟨s.toks + 1, by rw [List.size_toArray, hlen]⟩, q⟩
  · obtain ⟨its, r', pl, hz⟩ := I.tuple hq
    have hlen := r'.length
    exact len_tuple pl (by simp only [List.size_toArray] <;> omega) ⟨.int ys.length, H, I.tok _, ⟨s.toks + 1, by rw [List.size_toArray, hlen]⟩, q⟩
theorem CallR.or {f : Value} {r r' : List V → Hp → VK → Prop} (h : CallR X f r) (h' : CallR X f r') : CallR X f (fun xs H Q => r xs H Q ∨ r' xs H Q) := by
  intro pins s σ H xs us Q I rs q
  rcases q with q | q
  · exact h pins s σ H xs us Q I rs q
  · exact h' pins s σ H xs us Q I rs q
theorem call_tuple_of : CallR X (.type "tuple") (fun xs H Q => ∃ p ys, xs = [.ref p] ∧ ((SqL X.K H p ys ∧ ∀ l, H l = none → Q (.ref l) (upd H l (.tup ys))) ∨ (SqT X.K H p ys ∧ Q (.ref p) H))) := by
  intro pins s σ H xs us Q I r h
  obtain ⟨p, ys, rfl, h⟩ := h
  obtain ⟨u, rfl, rx⟩ := vals1 r
  cases rx
  rcases h with ⟨hq, q⟩ | ⟨hq, q⟩
  · obtain ⟨its, r', pl, hz⟩ := I.list hq
    have hlen := r'.length
    refine call_tuple_list pl.isList (fun h' kp => ?_) (by simp only [List.size_toArray] <;> omega)
    have I1 : Inv X pins σ H { s with heap := h' } := I.kept (t' := s.toks) kp
    have I2 : Inv X pins σ (upd H h'.objs.size (.tup ys)) { s with heap := h'.push { cls := .type "tuple", data := .seq its.toArray } } :=
      I1.laid (t' := s.toks) (fun b o e => Heap.get?_push_of_some _ e) (Nat.le_refl _) (show ObjOk X.prog X.w _ _ _ (.tup ys) from ⟨hz, its, r', TupD.new _ _⟩)
    exact ⟨.ref h'.objs.size, _, I2, rfl, q _ (I1.hok.fresh (Nat.le_refl _))⟩
  · obtain ⟨its, r', pl, hz⟩ := I.tuple hq
    exact call_tuple_same pl ⟨.ref p, H, I, rfl, q⟩

/-! ### the call of a builtin's method: o.m(..) -/
/-- the value is of that builtin type -/
noncomputable def tyV (K : PySem.W.Frag) (T : String) (x : V) (H : Hp) : Prop := match x with
  | .str _ => T = "str"
  | .int _ => T = "int"
  | .ref p => (T = "list" ∧ ∃ xs, SqL K H p xs) ∨ (T = "tuple" ∧ ∃ o, K.lookup p = some o ∧ o.cls = .type "tuple" ∧ o.dict = none) ∨
      (T = "dict" ∧ ((∃ kvs, H p = some (.dK kvs)) ∨ ∃ kvs, H p = some (.dT kvs))) ∨ (T = "set" ∧ ∃ S n, H p = some (.set S n))
  | _ => False
theorem tyV_is {pins : List (Addr × Obj)} {σ : St} {H : Hp} {s : Shared} {T : String} {x : V} {v : Value} (I : Inv X pins σ H s) (r : RelV x v) (ty : tyV X.K T x H) :
    s.TypeIs v T ∧ ∀ a, v = .ref a → ∃ ob, s.heap.get? a = some ob ∧ ob.dict = none := by
  cases x with
  | str z =>
    obtain ⟨t, rfl⟩ := r
    cases (show T = "str" from ty)
    exact ⟨typeIs_str s z t, fun _ e => nomatch e⟩
  | int i =>
    obtain ⟨t, rfl⟩ := r
    cases (show T = "int" from ty)
    exact ⟨typeIs_int s i t, fun _ e => nomatch e⟩
  | ref p =>
    cases r
    rcases ty with ⟨rfl, xs, hq⟩ | ⟨rfl, o, hk, hc, hd⟩ | ⟨rfl, hk⟩ | ⟨rfl, S, n, hk⟩
    · obtain ⟨its, _, pl, _⟩ := I.list hq
      refine ⟨pl.isList.typeIs, fun a e => ?_⟩
      cases e
      obtain ⟨o, n, e, c, hd, _⟩ := pl
      exact ⟨o, e, hd⟩
    · refine ⟨⟨o, I.kIn p o hk, hc⟩, fun a e => ?_⟩
      cases e
      exact ⟨o, I.kIn _ o hk, hd⟩
    · have z : ∃ o, s.heap.get? p = some o ∧ o.ExactDict := by
        rcases hk with ⟨kvs, hk⟩ | ⟨kvs, hk⟩
        · obtain ⟨_, _, _, _, o, _, _, e, ex, _⟩ := I.hok p _ hk
          exact ⟨o, e, ex⟩
        · obtain ⟨_, _, _, _, o, _, _, e, ex, _⟩ := I.hok p _ hk
          exact ⟨o, e, ex⟩
      obtain ⟨o, e, ex⟩ := z
      refine ⟨⟨o, e, ex.1⟩, fun a e2 => ?_⟩
      cases e2
      exact ⟨o, e, ex.2.1⟩
    · obtain ⟨⟨o, _, _, _, e, ex, _⟩, _⟩ := I.hok p _ hk
      refine ⟨⟨o, e, ex.1⟩, fun a e2 => ?_⟩
      cases e2
      exact ⟨o, e, ex.2.1⟩
  | _ => exact False.elim ty
noncomputable def tBM (K : PySem.W.Frag) (T : String) (r : V → List V → Hp → VK → Prop) (to : TE) (t : TA) : TE := fun σ H Q => to σ H fun x H1 => tyV K T x H1 ∧ t σ H1 fun xs H2 => r x xs H2 Q
variable {o e : Expr} {es : List Expr} {to : TE} {t : TA} {name : Str} {apos cpos : Pos} {T id : String} {r : V → List V → Hp → VK → Prop}
theorem pe_bm (pa : PlainAttrs T) (slot : Slot T name id) (hty : typeOf (.builtin id) = pure (.type "method_descriptor")) (hm : MtR X id r) (ho : PE X o to) (ha : PA X (e :: es) t)
    (hbase : attributeBase o name X.env (eval o X.env) = eval o X.env := by rfl)
    (hfew : ((backTo cpos (starEach (e :: es) X.env)).all (fun x => !x.1) && (backToKw cpos (keywordEach [] X.env)).all (fun x => x.1.isSome)
      && decide ((e :: es).length + ([] : List Keyword).length + (if ([] : List Keyword).isEmpty then 0 else 1) < 30)) = true := by rfl)
    (hline : (apos.endLine == cpos.line) = true := by rfl) (hs : starEach (e :: es) X.env = (false, eval e X.env) :: starEach es X.env := by rfl) (hplain : (backTo cpos (starEach es X.env)).any (·.1) = false := by rfl) :
    PE X (.Call (.Attribute o name apos) (e :: es) [] cpos) (tBM X.K T r to t) := by
  intro pins s σ H Q I h
  refine wpAny_Call_method_late hbase hfew hline rfl (thn (ho pins s σ H _ I h) fun v s1 ⟨x, H1, I1, r1, ty, q1⟩ => ?_)
  obtain ⟨h1, h2⟩ := tyV_is I1 r1 ty
  refine ⟨T, id, pa, slot, hty, h1, h2, ?_⟩
  have hA := ha cpos pins s1 σ H1 _ I1 q1
  rw [hs] at hA ⊢
  refine Calls.callWith_builtin (by show (false || (backTo cpos (starEach es X.env)).any (·.1)) = false; rw [hplain] <;> rfl) (Calls.evalArgs_plain ?_)
  exact thn hA fun us s2 ⟨vs, H2, I2, r2, q2⟩ => hm pins s2 σ H2 x vs v us Q I2 r1 r2 q2
/- xs.append(e), list.index on a module's tuple .. are MtR facts of 06m -/
end
end L2

namespace L2
open PySem PySem.Spec PyProof.Rows

noncomputable def MtM (X : Cx) (id : String) (r : V → List V → Hp → VK → Prop) : Prop :=
  ∀ (pins : List (Addr × Obj)) (s : Shared) (σ : St) (H : Hp) (x : V) (xs : List V) (v : Value) (us : List Value) (Q : VK), Inv X pins σ H s → RelV x v → Vals xs us → r x xs H Q →
    wpAny (model X.prog X.w) X.A (call (.builtin id) (v :: us)) (EP X pins σ Q) X.xe s

/-! ### lists of values -/
theorem Vals.one {x : V} {us : List Value} (h : Vals [x] us) : ∃ u, us = [u] ∧ RelV x u := by
  cases h with | cons r t => cases t; exact ⟨_, rfl, r⟩
theorem Vals.two : ∀ {x y : V} {us : List Value}, Vals [x, y] us → ∃ u v, us = [u, v] ∧ RelV x u ∧ RelV y v
  | _, _, _, .cons r (.cons q .nil) => ⟨_, _, rfl, r, q⟩
theorem Vals.zero : ∀ {us : List Value}, Vals [] us → us = []
  | _, .nil => rfl
section
variable {X : Cx} {pins : List (Addr × Obj)} {σ : St} {H : Hp} {s : Shared} {l b : Addr} {xs ys zs : List V}

/-! ### the two steps: a tracked list is rewritten, a new list is laid -/
theorem Inv.lset {its its' : List Value} {n : Nat} {f : Array Value → Array Value} {t' : Nat} (I : Inv X pins σ H s) (hH : H l = some (.lst xs))
    (e : s.heap.get? l = some { cls := .type "list", data := .seq its.toArray n }) (hf : f its.toArray = its'.toArray) (hv : Vals ys its') (hz : ys.length ≤ sizeLine) :
    Inv X pins σ (upd H l (.lst ys)) { s with heap := s.heap.update l (Obj.mapSeq f), toks := t' } := by
  have q := PySem.IsL.update e f
  rw [hf] at q
  refine I.write (x := l) (e := l) (by rw [hH]; exact trivial) (.inl rfl) (fun b' u hb hu => (Heap.get?_update_other s.heap (Obj.mapSeq f) (Ne.symm hb)).trans hu) ⟨_, q⟩ ?_
  exact ⟨hz, its', _, hv, q⟩
theorem Inv.lnew {its : List Value} {t' : Nat} (I : Inv X pins σ H s) (hv : Vals ys its) (hz : ys.length ≤ sizeLine) :
    Inv X pins σ (upd H s.heap.objs.size (.lst ys)) { s with heap := s.heap.push { cls := .type "list", data := .seq its.toArray }, toks := t' } :=
  I.laid (fun _ _ q => Heap.get?_push_of_some _ q) (Nat.le_refl _) ⟨hz, its, 0, hv, Heap.get?_push_size _ rfl⟩
theorem Inv.fresh (I : Inv X pins σ H s) : H s.heap.objs.size = none := I.hok.fresh (Nat.le_refl _)
theorem Inv.lstM (I : Inv X pins σ H s) (hH : H l = some (.lst xs)) : xs.length ≤ sizeLine ∧ ∃ (its : List Value) (n : Nat), Vals xs its ∧ xs.length = its.length ∧ s.heap.get? l = some { cls := .type "list", data := .seq its.toArray n } := by
  obtain ⟨z, its, n, r, e⟩ := I.hok l _ hH
  exact ⟨z, its, n, r, r.length, e⟩

end

section
variable {X : Cx}

/-! ### methods -/
noncomputable def rAppend : V → List V → Hp → VK → Prop := fun x vs H Q => ∃ l xs y, x = .ref l ∧ vs = [y] ∧ H l = some (.lst xs) ∧ xs.length < sizeLine ∧ Q .non (upd H l (.lst (xs ++ [y])))
theorem mt_append : MtM X "list.append" rAppend := by
  intro pins s σ H x vs v us Q I rx rv h
  obtain ⟨l, xs, y, rfl, rfl, hH, hz, q⟩ := h
  cases rx
  obtain ⟨u, rfl, ru⟩ := rv.one
  obtain ⟨z, its, n, r, hl, e⟩ := I.lstM hH
  refine call_meets F.slot_list_append ⟨_, e, rfl⟩ F.entry_list_append (F.args_list_append_2 _ _) (PySem.list_append l its.toArray n u (by rw [List.size_toArray]; omega)) ⟨e, ?_⟩
  refine ⟨.non, _, I.lset (its' := its ++ [u]) hH e (by simp) (r.append (.cons ru .nil)) ?_, rfl, q⟩
  rw [List.length_append, List.length_singleton]
  omega

end

/-! ### xs[a:b] = ys -/
section
variable {prog : Program} {w : World} {A : Around} {E : Value → Shared → Prop} {s : Shared}
set_option maxRecDepth 100000 in
end

section
variable {X : Cx}
end
end L2

namespace L2
open PySem PySem.Spec PyProof.Rows

/-! ### lists of pairs as tables -/
section
variable {κ : Type} [DecidableEq κ]
noncomputable def valV (kvs : List (κ × V)) (k : κ) : Option V := (kvs.find? fun kv => decide (kv.1 = k)).map (·.2)
/-- in its place, or at the end -/
noncomputable def putK (kvs : List (κ × V)) (k : κ) (v : V) : List (κ × V) :=
  if (kvs.any fun kv => decide (kv.1 = k)) = true then kvs.map (fun kv => if kv.1 = k then (kv.1, v) else kv) else kvs ++ [(k, v)]
noncomputable def dropK (kvs : List (κ × V)) (k : κ) : List (κ × V) := kvs.filter fun kv => decide (kv.1 ≠ k)

theorem valV_pos {p : κ × V} {r : List (κ × V)} {k : κ} (e : p.1 = k) : valV (p :: r) k = some p.2 := by simp [valV, List.find?_cons, e]
theorem valV_neg {p : κ × V} {r : List (κ × V)} {k : κ} (e : ¬ p.1 = k) : valV (p :: r) k = valV r k := by simp [valV, List.find?_cons, e]
theorem valV_any (k : κ) : ∀ kvs : List (κ × V), (kvs.any fun kv => decide (kv.1 = k)) = (valV kvs k).isSome
  | [] => rfl
  | p :: r => by
    rw [List.any_cons]
    by_cases e : p.1 = k
    · simp only [valV_pos e, decide_eq_true e, Bool.true_or, Option.isSome_some]
    · rw [valV_neg e, decide_eq_false e, Bool.false_or]; exact valV_any k r
theorem length_putK (kvs : List (κ × V)) (k : κ) (v : V) : (putK kvs k v).length ≤ kvs.length + 1 := by
  unfold putK
  split
  · rw [List.length_map]; omega
  · rw [List.length_append, List.length_cons, List.length_nil]; omega
theorem RelO.isSome_eq {o : Option V} {u : Option Value} (r : RelO o u) : o.isSome = u.isSome := by
  cases o with
  | none => cases u with
    | none => rfl
    | some _ => exact (show False from r).elim
  | some _ => cases u with
    | none => exact (show False from r).elim
    | some _ => rfl
theorem RelO.getD {o : Option V} {u : Option Value} {d : V} {d' : Value} (r : RelO o u) (rd : RelV d d') : RelV (o.getD d) (u.getD d') := by
  cases o with
  | none => cases u with
    | none => exact rd
    | some _ => exact (show False from r).elim
  | some _ => cases u with
    | none => exact (show False from r).elim
    | some _ => exact r

/-- raw tables of the same keys -/
theorem KV.val {kvs : List (κ × V)} {vs : List (κ × Value)} (r : KV kvs vs) (k : κ) : RelO (valV kvs k) (valueAt vs k) := by
  unfold KV at r
  induction r with
  | nil => exact True.intro
  | @cons p q ps qs h t ih =>
    obtain ⟨h1, h2⟩ := h
    by_cases e : p.1 = k
    · have e' : q.1 = k := h1.symm.trans e
      have b : valueAt (q :: qs) k = some q.2 := by simp [valueAt, List.find?_cons, e']
      rw [valV_pos e, b]; exact h2
    · have e' : ¬ q.1 = k := fun z => e (h1.trans z)
      have b : valueAt (q :: qs) k = valueAt qs k := by simp [valueAt, List.find?_cons, e']
      rw [valV_neg e, b]; exact ih
theorem KV.any {kvs : List (κ × V)} {vs : List (κ × Value)} (r : KV kvs vs) (k : κ) : (kvs.any fun kv => decide (kv.1 = k)) = vs.any fun kv => decide (kv.1 = k) := by
  unfold KV at r
  induction r with
  | nil => rfl
  | cons h t ih => rw [List.any_cons, List.any_cons, ih, h.1]
theorem KV.repl {kvs : List (κ × V)} {vs : List (κ × Value)} (r : KV kvs vs) (k : κ) {y : V} {u : Value} (ry : RelV y u) :
    KV (kvs.map fun kv => if kv.1 = k then (kv.1, y) else kv) (vs.map fun kv => if kv.1 = k then (kv.1, u) else kv) := by
  unfold KV at r ⊢
  induction r with
  | nil => exact .nil
  | @cons p q ps qs h t ih =>
    rw [List.map_cons, List.map_cons]
    refine .cons ?_ ih
    obtain ⟨h1, h2⟩ := h
    by_cases e : p.1 = k
    · rw [if_pos e, if_pos (h1.symm.trans e)]; exact ⟨h1, ry⟩
    · rw [if_neg e, if_neg (fun z => e (h1.trans z))]; exact ⟨h1, h2⟩
theorem KV.put {kvs : List (κ × V)} {vs : List (κ × Value)} (r : KV kvs vs) (k : κ) {y : V} {u : Value} (ry : RelV y u) : KV (putK kvs k y) (stored vs k u) := by
  unfold putK stored
  rw [r.any k]
  by_cases e : (vs.any fun kv => decide (kv.1 = k)) = true
  · rw [if_pos e, if_pos e]; exact r.repl k ry
  · rw [if_neg e, if_neg e]; exact Paired.snoc r ⟨rfl, ry⟩
theorem KV.drop {kvs : List (κ × V)} {vs : List (κ × Value)} (r : KV kvs vs) (k : κ) : KV (dropK kvs k) (without vs k) := by
  unfold KV at r ⊢
  unfold dropK without
  induction r with
  | nil => exact .nil
  | @cons p q ps qs h t ih =>
    obtain ⟨h1, h2⟩ := h
    rw [List.filter_cons, List.filter_cons]
    by_cases e : p.1 = k
    · have a : ¬ decide (p.1 ≠ k) = true := by simp [e]
      have b : ¬ decide (q.1 ≠ k) = true := by simp [h1.symm.trans e]
      rw [if_neg a, if_neg b]; exact ih
    · have e' : ¬ q.1 = k := fun z => e (h1.trans z)
      have a : decide (p.1 ≠ k) = true := by simp [e]
      have b : decide (q.1 ≠ k) = true := by simp [e']
      rw [if_pos a, if_pos b]; exact .cons ⟨h1, h2⟩ ih
theorem KV.keys {kvs : List (κ × V)} {vs : List (κ × Value)} (r : KV kvs vs) : kvs.map (·.1) = vs.map (·.1) := by
  unfold KV at r
  induction r with
  | nil => rfl
  | cons h t ih => rw [List.map_cons, List.map_cons, ih, h.1]
theorem KV.length {kvs : List (κ × V)} {vs : List (κ × Value)} (r : KV kvs vs) : kvs.length = vs.length := Paired.length r
end


/-! ### a tracked dict, its keys ints and texts or tuples of these -/
theorem kV_is {P : Program} {w : World} {k : Key} {u : Value} (r : RelV (kV k) u) : (mixKind P w).is k u = true := by
  cases k with
  | inl i => obtain ⟨t, e⟩ := (show ∃ t, u = Value.int i t from r); subst e; exact mixKind_int P w i t
  | inr x => obtain ⟨t, e⟩ := (show ∃ t, u = Value.str x t from r); subst e; exact mixKind_str P w x t
theorem items_are {P : Program} {w : World} : ∀ {ks : List Key} {us : List Value}, Vals (ks.map kV) us → ItemsAre (mixKind P w) ks us
  | [], _, r => by rw [List.map_nil] at r; cases r; exact .nil
  | k :: ks, _, r => by
    rw [List.map_cons] at r
    cases r with
    | cons h t => exact .cons (kV_is h) (items_are t)

/-- raw entries of a dict with tuple keys -/
noncomputable abbrev KT (H : Hp) : List (List Key × V) → List (List Key × Addr × Value) → Prop := Paired fun p q => p.1 = q.1 ∧ H q.2.1 = some (.tup (p.1.map kV)) ∧ RelV p.2 q.2.2
theorem KT.val {H : Hp} {kvs : List (List Key × V)} {xs : List (List Key × Addr × Value)} (r : KT H kvs xs) (k : List Key) : RelO (valV kvs k) ((atKey xs k).map (·.2)) := by
  induction r with
  | nil => exact True.intro
  | @cons p q ps qs h t ih =>
    obtain ⟨h1, _, h2⟩ := h
    by_cases e : p.1 = k
    · have e' : q.1 = k := h1.symm.trans e
      have b : atKey (q :: qs) k = some q.2 := by simp [atKey, List.find?_cons, e']
      rw [valV_pos e, b]; exact h2
    · have e' : ¬ q.1 = k := fun z => e (h1.trans z)
      have b : atKey (q :: qs) k = atKey qs k := by simp [atKey, List.find?_cons, e']
      rw [valV_neg e, b]; exact ih
theorem KT.repl {H : Hp} {kvs : List (List Key × V)} {xs : List (List Key × Addr × Value)} (r : KT H kvs xs) (k : List Key) {y : V} {u : Value} (ry : RelV y u) :
    KT H (kvs.map fun kv => if kv.1 = k then (kv.1, y) else kv) (xs.map (putAt k u)) := by
  induction r with
  | nil => exact .nil
  | @cons p q ps qs h t ih =>
    rw [List.map_cons, List.map_cons]
    refine .cons ?_ ih
    obtain ⟨h1, h2, h3⟩ := h
    unfold putAt
    by_cases e : p.1 = k
    · rw [if_pos e, if_pos (h1.symm.trans e)]; exact ⟨h1, h2, ry⟩
    · rw [if_neg e, if_neg (fun z => e (h1.trans z))]; exact ⟨h1, h2, h3⟩
theorem KT.put {H : Hp} {kvs : List (List Key × V)} {xs : List (List Key × Addr × Value)} (r : KT H kvs xs) (k : List Key) {b : Addr} {y : V} {u : Value} (hb : H b = some (.tup (k.map kV))) (ry : RelV y u) :
    KT H (putK kvs k y) (storedH xs k b u) := by
  have e : (kvs.any fun kv => decide (kv.1 = k)) = (atKey xs k).isSome := by
    rw [valV_any, (r.val k).isSome_eq, Option.isSome_map]
  unfold putK storedH
  rw [e]
  by_cases q : (atKey xs k).isSome = true
  · rw [if_pos q, if_pos q]; exact r.repl k ry
  · rw [if_neg q, if_neg q]; exact Paired.snoc r ⟨rfl, hb, ry⟩
theorem KT.keeps {H H' : Hp} {kvs : List (List Key × V)} {xs : List (List Key × Addr × Value)} (r : KT H kvs xs) (ht : ∀ b ys, H b = some (.tup ys) → H' b = some (.tup ys)) : KT H' kvs xs :=
  Paired.mapP r fun _ _ z => ⟨z.1, ht _ _ z.2.1, z.2.2⟩

section
variable {P : Program} {w : World} {H : Hp} {h : Heap} {a : Addr}
theorem rd_of {u : HO} (ok : HOk P w H h) (e : Rd H a u) : ObjOk P w H h a u := e.ok ok
theorem dk_rd {kvs : List (Key × V)} (ok : HOk P w H h) (e : Rd H a (.dK kvs)) : kvs.length ≤ sizeLine ∧ (a == sysModules) = false ∧ ∃ vs, KV kvs vs ∧ h.DictOf (mixKind P w) a vs :=
  show ObjOk P w H h a (.dK kvs) from rd_of ok e
theorem dk_of {kvs : List (Key × V)} (ok : HOk P w H h) (e : H a = some (.dK kvs)) : kvs.length ≤ sizeLine ∧ (a == sysModules) = false ∧ ∃ vs, KV kvs vs ∧ h.DictOf (mixKind P w) a vs := dk_rd ok (.inl e)
/-- a tracked tuple of ints and texts is a key -/
theorem key_of {ks : List Key} (ok : HOk P w H h) (e : H a = some (.tup (ks.map kV))) : (tupleKind (mixKind P w)).is h ks a := by
  obtain ⟨_, its, r, o, h1, h2, ⟨n, h3⟩, _⟩ := (show ObjOk P w H h a (.tup (ks.map kV)) from ok a _ e)
  exact ⟨o, its.toArray, n, h1, h2, h3, by simpa using items_are r⟩
theorem dt_rd {kvs : List (List Key × V)} (ok : HOk P w H h) (e : Rd H a (.dT kvs)) : kvs.length ≤ sizeLine ∧ (a == sysModules) = false ∧
    ∃ xs, KT H kvs xs ∧ h.DictOfH (tupleKind (mixKind P w)) a xs := by
  obtain ⟨z, y, xs, r, o, es, ep, h1, h2, h3, h4, h5⟩ := (show ObjOk P w H h a (.dT kvs) from rd_of ok e)
  refine ⟨z, y, xs, r, o, es, ep, h1, h2, h3, h4, fun x hx => ?_, h5⟩
  have all : ∀ {l : List (List Key × V)} {m : List (List Key × Addr × Value)}, KT H l m → ∀ x ∈ m, (tupleKind (mixKind P w)).is h x.1 x.2.1 := by
    intro l m q
    induction q with
    | nil => intro x hx; exact nomatch hx
    | @cons p q ps qs hq t ih =>
      intro x hx
      rcases List.mem_cons.mp hx with e | hx
      · subst e
        exact key_of ok (by rw [← hq.1]; exact hq.2.1)
      · exact ih x hx
  exact all r x hx
theorem dt_of {kvs : List (List Key × V)} (ok : HOk P w H h) (e : H a = some (.dT kvs)) : kvs.length ≤ sizeLine ∧ (a == sysModules) = false ∧
    ∃ xs, KT H kvs xs ∧ h.DictOfH (tupleKind (mixKind P w)) a xs := dt_rd ok (.inl e)
end

/-- what the dict at a holds at the key y -/
noncomputable def DGet (H : Hp) (a : Addr) (y : V) (r : Option V) : Prop :=
  (∃ kvs k, Rd H a (.dK kvs) ∧ y = kV k ∧ r = valV kvs k) ∨ ∃ kvs k b, Rd H a (.dT kvs) ∧ y = .ref b ∧ H b = some (.tup (k.map kV)) ∧ r = valV kvs k
/-- the heap behind a[y] = v -/
noncomputable def DPut (H : Hp) (a : Addr) (y v : V) (H' : Hp) : Prop :=
  (∃ kvs k, H a = some (.dK kvs) ∧ y = kV k ∧ kvs.length < sizeLine ∧ H' = upd H a (.dK (putK kvs k v))) ∨
  ∃ kvs k b, H a = some (.dT kvs) ∧ y = .ref b ∧ H b = some (.tup (k.map kV)) ∧ kvs.length < sizeLine ∧ H' = upd H a (.dT (putK kvs k v))
theorem DGet.k {H : Hp} {a : Addr} {kvs : List (Key × V)} {k : Key} (e : H a = some (.dK kvs)) : DGet H a (kV k) (valV kvs k) := .inl ⟨kvs, k, .inl e, rfl, rfl⟩
theorem DGet.t {H : Hp} {a b : Addr} {kvs : List (List Key × V)} {k : List Key} (e : H a = some (.dT kvs)) (eb : H b = some (.tup (k.map kV))) : DGet H a (.ref b) (valV kvs k) := .inr ⟨kvs, k, b, .inl e, rfl, eb, rfl⟩
theorem DPut.k {H : Hp} {a : Addr} {kvs : List (Key × V)} {k : Key} {v : V} (e : H a = some (.dK kvs)) (hl : kvs.length < sizeLine) : DPut H a (kV k) v (upd H a (.dK (putK kvs k v))) := .inl ⟨kvs, k, e, rfl, hl, rfl⟩
theorem DPut.t {H : Hp} {a b : Addr} {kvs : List (List Key × V)} {k : List Key} {v : V} (e : H a = some (.dT kvs)) (eb : H b = some (.tup (k.map kV))) (hl : kvs.length < sizeLine) :
    DPut H a (.ref b) v (upd H a (.dT (putK kvs k v))) := .inr ⟨kvs, k, b, e, rfl, eb, hl, rfl⟩


section
variable {X : Cx} {pins : List (Addr × Obj)} {σ : St} {H : Hp} {s : Shared} {a : Addr} {y v : V} {u r : Value} {o : Option V} {A : Around} {E : Value → Shared → Prop}

theorem Inv.big (I : Inv X pins σ H s) : sysModules < s.heap.objs.size := by
  have h : mainGlobals < s.heap.objs.size := (I.mod.glob.keeps I.bk).lt
  exact Nat.lt_trans (by decide) h

/-- a dict's object is replaced -/
theorem d_write {h' : Heap} {t' : Nat} {ob : HO} (I : Inv X pins σ H s) (mu : Mut (H a)) (hs : Heap.SameBut a s.heap h') (he : ∃ q, h'.get? a = some q) (new : ObjOk X.prog X.w (upd H a ob) h' a ob) :
    Inv X pins σ (upd H a ob) { s with heap := h', toks := t' } :=
  I.write (x := a) (e := a) mu (.inl rfl) (fun b q hb z => (hs.2 b hb).trans z) he new
theorem dk_new {P : Program} {w : World} {H' : Hp} {h' : Heap} {kvs : List (Key × V)} {vs : List (Key × Value)} (z : kvs.length ≤ sizeLine) (hd : (a == sysModules) = false) (rel : KV kvs vs) (dd : h'.DictOf (mixKind P w) a vs) :
    ObjOk P w H' h' a (.dK kvs) := ⟨z, hd, vs, rel, dd⟩
/-- d[y] = v -/
theorem d_setItem {H' : Hp} {Q : Unit → Shared → Prop} (hu : A.units + 1 < cLine) (I : Inv X pins σ H s) (g : DPut H a y v H') (ry : RelV y u) (rv : RelV v r) (h : ∀ s', Inv X pins σ H' s' → Q () s') :
    wpAny (model X.prog X.w) A (setItem (.ref a) u r) Q E s := by
  rcases g with ⟨kvs, k, e, ey, l, eH⟩ | ⟨kvs, k, b, e, ey, eb, l, eH⟩
  · subst ey eH
    obtain ⟨z, hd, vs, rel, dd⟩ := dk_of I.hok e
    have hz : vs.length ≤ sizeLine := by rw [← rel.length]; exact z
    have hl : (putK kvs k v).length ≤ sizeLine := by have := length_putK kvs k v; omega
    refine wpAny_setItem_pairs (hsz := hz) (kV_is ry) dd fun h' dd' hs => h _ ?_
    have he : ∃ q, h'.get? a = some q := let ⟨q, _, _, hq, _⟩ := dd'; ⟨q, hq⟩
    exact d_write I (by rw [e]; exact True.intro) hs he (dk_new hl hd (rel.put k rv) dd')
  · subst ey eH
    cases (show u = Value.ref b from ry)
    obtain ⟨z, hd, xs, rel, dd⟩ := dt_of I.hok e
    have hz : xs.length ≤ sizeLine := by rw [← Paired.length rel]; exact z
    have hl : (putK kvs k v).length ≤ sizeLine := by have := length_putK kvs k v; omega
    refine wpAny_setItem_heap (hsz := hz) (tupleKind_room_in1 hu) (key_of I.hok eb) dd fun h' dd' hs => h _ ?_
    obtain ⟨q, es, ep, hq, h2, h3, h4, _, h5⟩ := dd'
    refine d_write I (by rw [e]; exact True.intro) hs ⟨q, hq⟩ ⟨hl, hd, _, (rel.put k eb rv).keeps fun c ys ec => ?_, q, es, ep, hq, h2, h3, h4, h5⟩
    rw [upd_ne (ne_of ec e (fun z => nomatch z))]
    exact ec
end

section
variable {X : Cx} {pins : List (Addr × Obj)} {σ : St} {H : Hp} {s : Shared} {a : Addr} {kvs : List (Key × V)} {k : Key} {u : Value} {A : Around} {E : Value → Shared → Prop}
end


/-- d[y] = v -/
noncomputable def sDPut (td ty tv : TE) : TS := fun D σ H => tv σ H fun v H1 => td σ H1 fun x H2 => ty σ H2 fun y H3 => ∃ a H4, x = .ref a ∧ DPut H3 a y v H4 ∧ D.nx σ H4
section
variable {X : Cx} {o i e value : Expr} {pos pos' tpos : Pos} {td ty tv : TE}
theorem ps_dput (hu : X.A.units + 1 < cLine) (ho : PE X o td) (hi : PE X i ty) (hv : PE X value tv) (hs : swapsWith value (some (.Subscript o i pos')) pos.line X.env = pure false) :
    PS X (.Assign [.Subscript o i pos'] value pos) (sDPut td ty tv) := by
  intro pins s σ H D I h
  refine wpAny_Assign_Subscript (thn (hv pins s σ H _ I h) fun r s1 ⟨v, H1, I1, rv, q1⟩ => thn (ho pins s1 σ H1 _ I1 q1) fun u s2 ⟨x, H2, I2, rx, q2⟩ => thn (hi pins s2 σ H2 _ I2 q2) fun iv s3 ⟨y, H3, I3, ry, a, H4, ex, g, q3⟩ => ?_) hs
  subst ex
  obtain rfl : u = Value.ref a := rx
  exact d_setItem hu I3 g ry rv fun s4 I4 => ⟨σ, H4, I4, q3⟩
end


theorem dt_empty {P : Program} {w : World} {H : Hp} (h : Heap) (hb : sysModules < h.objs.size) : ObjOk P w H (h.push { cls := .type "dict", data := .dict #[] }) h.objs.size (.dT []) :=
  ⟨Nat.zero_le _, beq_eq_false_iff_ne.mpr (Ne.symm (Nat.ne_of_lt hb)), [], .nil, _, #[], 0, Heap.get?_push_size _ rfl, ⟨rfl, rfl, rfl⟩, rfl, rfl, List.nodup_nil⟩
noncomputable def tDNewT : TE := fun _ H Q => ∀ p, H p = none → Q (.ref p) (upd H p (.dT []))
section
variable {X : Cx} {pos : Pos}
theorem pe_dnewT : PE X (.Dict [] [] pos) tDNewT := fun pins s σ H Q I h =>
  wpAny_Dict_empty ⟨.ref s.heap.objs.size, _, I.laid (a := s.heap.objs.size) (o := .dT []) (t' := s.toks) (fun _ _ q => Heap.get?_push_of_some _ q) (Nat.le_refl _) (dt_empty s.heap I.big), rfl, h _ (I.hok.fresh (Nat.le_refl _))⟩
end

/-! ### methods -/
structure M2 (X : Cx) (o : Expr) (m : Str) (apos : Pos) (e f : Expr) (cpos : Pos) : Prop where
  base : attributeBase o m X.env (eval o X.env) = eval o X.env
  few : ((backTo cpos (starEach [e, f] X.env)).all (fun x => !x.1) && (backToKw cpos (keywordEach [] X.env)).all (fun x => x.1.isSome)
    && decide (([e, f] : List Expr).length + ([] : List Keyword).length + (if ([] : List Keyword).isEmpty then 0 else 1) < 30)) = true
  line : (apos.endLine == cpos.line) = true
  trees : backTo cpos (starEach [e, f] X.env) = [(false, eval e X.env), (false, eval f X.env)]

/-- a is a dict, whatever its keys -/
noncomputable def IsD (H : Hp) (a : Addr) : Prop := (∃ kvs, Rd H a (.dK kvs)) ∨ ∃ kvs, Rd H a (.dT kvs)
theorem isD_at {X : Cx} {pins : List (Addr × Obj)} {σ : St} {H : Hp} {s : Shared} {a : Addr} (I : Inv X pins σ H s) (d : IsD H a) :
    s.TypeIs (.ref a) "dict" ∧ (∀ b, Value.ref a = .ref b → ∃ ob, s.heap.get? b = some ob ∧ ob.dict = none) ∧ (a == sysModules) = false := by
  rcases d with ⟨kvs, e⟩ | ⟨kvs, e⟩
  · obtain ⟨_, hd, vs, _, dd⟩ := dk_rd I.hok e
    refine ⟨dd.typeIs, fun b q => ?_, hd⟩
    cases q
    obtain ⟨ob, _, _, h1, h2, _⟩ := dd
    exact ⟨ob, h1, h2.2.1⟩
  · obtain ⟨_, hd, xs, _, dd⟩ := dt_rd I.hok e
    refine ⟨dd.typeIs, fun b q => ?_, hd⟩
    cases q
    obtain ⟨ob, _, _, h1, h2, _⟩ := dd
    exact ⟨ob, h1, h2.2.1⟩

section
variable {X : Cx} {pins : List (Addr × Obj)} {σ : St} {H : Hp} {s : Shared} {a : Addr} {y d : V} {u r : Value} {o : Option V} {A : Around} {E : Value → Shared → Prop}
/-- d.get(y, x) -/
theorem d_get2 {Q : Value → Shared → Prop} (hu : A.units + 1 < cLine) (I : Inv X pins σ H s) (g : DGet H a y o) (ry : RelV y u) (rd : RelV d r) (h : ∀ w' s', Inv X pins σ H s' → RelV (o.getD d) w' → Q w' s') :
    wpAny (model X.prog X.w) A (call (.builtin "dict.get") [.ref a, u, r]) Q E s := by
  rcases g with ⟨kvs, k, e, ey, l⟩ | ⟨kvs, k, b, e, ey, eb, l⟩
  · subst ey
    obtain ⟨z, hd, vs, rel, dd⟩ := dk_rd I.hok e
    refine call_meetsIn PySem.F.slot_dict_get dd.typeIs PySem.F.entry_dict_get (PySem.F.args_dict_get_3 _ _ _) (meets_dict_get_default (mixKind X.prog X.w) a (kV_is ry) hd r) ⟨_, dd.mapOf, h _ _ (I.tok _) ?_⟩
    rw [l]
    exact (rel.val k).getD rd
  · subst ey
    cases (show u = Value.ref b from ry)
    obtain ⟨z, hd, xs, rel, dd⟩ := dt_rd I.hok e
    refine call_meetsIn PySem.F.slot_dict_get dd.typeIs PySem.F.entry_dict_get (PySem.F.args_dict_get_3 _ _ _) (meetsH_dict_get_default (tupleKind (mixKind X.prog X.w)) a b hd r) ⟨tupleKind_room_in1 hu, k, xs, key_of I.hok eb, dd, h _ _ (I.tok _) ?_⟩
    rw [l]
    exact (rel.val k).getD rd
end

noncomputable def tDGet2 (td ty tx : TE) : TE := fun σ H Q => td σ H fun x H1 => ∃ a, x = .ref a ∧ IsD H1 a ∧ ty σ H1 fun y H2 => tx σ H2 fun z H3 => ∃ o, DGet H3 a y o ∧ Q (o.getD z) H3
section
variable {X : Cx} {o e f : Expr} {apos cpos : Pos} {td ty tx : TE}
theorem pe_dget2 (hu : X.A.units + 1 < cLine) (ho : PE X o td) (he : PE X e ty) (hf : PE X f tx) (m : M2 X o "get" apos e f cpos) : PE X (.Call (.Attribute o "get" apos) [e, f] [] cpos) (tDGet2 td ty tx) := by
  intro pins s σ H Q I h
  refine wpAny_Call_method m.base m.few m.line PySem.F.plainAttrs_dict PySem.F.slot_dict_get PySem.F.type_dict_get (thn (ho pins s σ H _ I h) fun u s1 ⟨x, H1, I1, rx, a, ex, d, q1⟩ => ?_)
  subst ex
  obtain rfl : u = Value.ref a := rx
  obtain ⟨t1, t2, _⟩ := isD_at I1 d
  refine ⟨t1, t2, ?_⟩
  rw [m.trees]
  refine Calls.callWith_builtin rfl (Calls.evalArgs_plain (Calls.spliced_cons (thn (he pins s1 σ H1 _ I1 q1) fun iv s2 ⟨y, H2, I2, ry, q2⟩ =>
    Calls.spliced_cons (thn (hf pins s2 σ H2 _ I2 q2) fun fv s3 ⟨z, H3, I3, rz, ov, g, q3⟩ => Calls.spliced_nil ?_))))
  exact d_get2 hu I3 g ry rz fun w' s4 I4 rw' => ⟨_, H3, I4, rw', q3⟩
end

/-! ### dict(d): a copy -/
section
variable {X : Cx} {pins : List (Addr × Obj)} {σ : St} {H : Hp} {s : Shared} {a : Addr} {kvs : List (Key × V)} {A : Around} {E : Value → Shared → Prop}
end


section
variable {X : Cx} {pins : List (Addr × Obj)} {σ : St} {H : Hp} {s : Shared} {a : Addr} {y : V} {u : Value} {A : Around} {E : Value → Shared → Prop}
end
end L2

namespace Att
open PySem PySem.W PySem.Calls PyProof.Rows

/-! ### the script -/
theorem ints_of_wellAll {P : Params} {h : Heap} : ∀ (ns : List Int) (vs : List Value), WellAll P h vs (ns.map WData.int) → IntsAre vs ns := by
  intro ns
  induction ns with
  | nil =>
    intro vs w
    rw [List.map_nil] at w
    cases w
    exact .nil
  | cons n ns ih =>
    intro vs w
    rw [List.map_cons] at w
    cases w with
    | cons a b =>
      cases a
      exact .cons _ _ (ih _ b)

theorem script_of {l : OpenLaw} {n : Nat} (hn : l.most = some n) {P : Params} {h : Heap} {args : List WData} {vals : List Value}
    (hpre : l.row.toRowW.claim.pre args = true) (hwl : WellAll P h vals args) :
    ∃ a vs ns, vals = [Value.ref a] ∧ args = [WData.list (ns.map WData.int)] ∧ h.get? a = some { cls := .type "list", data := .seq vs.toArray } ∧ IntsAre vs ns ∧ ns.length ≤ n := by
  have hsh : WShape.hasAll [] args [.list .int] = true := (pre_splitW hpre).1
  have hc : l.pre.holds [] { args := args } = true := (pre_splitW hpre).2
  obtain ⟨d, r, rfl, h1, h2⟩ := hasAllW_cons hsh
  obtain rfl := hasAllW_nil h2
  obtain ⟨xs, rfl, h3⟩ := hasW_list h1
  obtain ⟨ns, rfl⟩ := items_int h3
  have hlen : ns.length ≤ n := by
    unfold OpenLaw.pre at hc
    have h4 : (WTm.not (.lt (.lit (.int (n : Int))) (.len (.arg 0)))).holds [] { args := [.list (ns.map .int)] } = true := by
      have h4 := (holds_andW hc).1
      rw [hn] at h4
      exact h4
    have h5 := condW_of h4 (w_not (w_lt w_lit (w_len_list (w_arg rfl))))
    rw [List.length_map] at h5
    refine Nat.le_of_not_lt fun q => ?_
    have q' : (n : Int) < ((ns.length : Nat) : Int) := by omega
    first
      | (rw [decide_eq_true q'] at h5; exact absurd h5 (by decide))
      | (simp at h5; omega)
  cases hwl with
  | cons w1 w2 =>
    cases w2
    cases w1 with
    | list ho hall => exact ⟨_, _, ns, rfl, rfl, ho, ints_of_wellAll ns _ hall, hlen⟩

theorem post_true (l : OpenLaw) (args : List WData) : l.row.toRowW.claim.post args (.bool true) args = true :=
  postW_of (r := l.row.toRowW) (X := (true == true))
    (show WShape.has [] (.bool true) .bool = true by first | rfl | decide | simp [WShape.has, WShape.arms, WShape.armsAll])
    (show (WTm.eq .res (.lit (.bool true))).value [] { args := args, res := some (.bool true), after := args } = some (.bool (true == true)) from w_eq_bool (w_res rfl) w_lit) rfl

/-- the same from a codeAny of the CALL (for a layer whose function contracts speak of calls) -/
theorem attach_call {l : OpenLaw} {n : Nat} {q : Program} {loose : List Str} {XP : (Str → Option Value) → Heap → Prop} {YP : World → Heap → Prop} {d : DefRec}
    (hn : l.most = some n) (hdf : d.params.defaults = [])
    (call : ∀ (w : World) (s₀ s₁ : Shared) (mg mb : Str → Option Value) (fa : Addr) (o : Obj) (pm cd doc : Value) (a : Addr) (vs : List Value) (ns : List Int),
      Ground q loose [] XP w s₀ mg mb s₁.heap → YP w s₁.heap →
      s₁.heap.get? fa = some o → o.data = .func (docDef d.name d.params d.body d.scope pm cd doc) → s₁.heap.CodeRec cd d.name → mg d.name = some (.ref fa) →
      s₁.heap.get? a = some { cls := .type "list", data := .seq vs.toArray } → IntsAre vs ns → ns.length ≤ n → s₁.gens = #[] →
      codeAny (model l.prog w) callerA (.call (.ref fa) ⟨[.ref a], []⟩) (fun r s' => r = .ok (.ret (.bool true)) ∧ OldK s₁.heap s'.heap ∧ s'.os = s₁.os ∧ AllBare s'.gens) s₁) :
    WalkO q loose XP YP l.row.toRowW d [] (fun f vs => PySem.call f vs) := by
  intro w s₀ s₁ mg mb G Y fa o pm cd doc dV kV ho hd hcd hD hmg hg args vals as hpre hlay hrd hwl hlo
  obtain rfl : dV = .none := Dflts.none hD hdf
  obtain rfl : kV = .none := Dflts.noKw hD
  obtain ⟨a, vs, ns, rfl, rfl, hobj, hints, hlen⟩ := script_of hn hpre hwl
  refine enter_call (codeAny_mono (call w s₀ s₁ mg mb fa o pm cd doc a vs ns G Y ho (fd_plain hd) hcd hmg hobj hints hlen hg) fun r s' hq => ?_)
  obtain ⟨rfl, h2, h3, h4⟩ := hq
  exact ⟨.inl ⟨.bool true, .bool true, [], rfl, fun _ => rfl, .bool true, post_true l _, fun _ => ⟨List.Pairwise.nil, fun _ hm => (nomatch hm)⟩⟩, h2, h3, h4⟩

/-! ### rules over ANY heap (no ledger) from facts about the written part K: the library's own take a ledger (News) for what they write -/
section
variable {prog : Program} {w : World} {A : Around} {E : Value → Shared → Prop} {s : Shared} {K : Frag}

noncomputable def ledger (h : Heap) (L d : Addr) : List (Addr × Obj) := (List.range h.objs.size).filterMap fun a => if a = L ∨ a = d then none else (h.get? a).map fun o => (a, o)
end
end Att

namespace L2
open PySem PySem.Spec PyProof.Rows

theorem vals_ints : ∀ {vs : List Value} {ns : List Int}, IntsAre vs ns → Vals (ns.map V.int) vs
  | _, _, .nil => .nil
  | _, _, .cons n t h => .cons ⟨t, rfl⟩ (vals_ints h)

/-- nothing is tracked but the script, known to the object (or it is an object of the module) -/
noncomputable def Only (H : Hp) : Prop := ∀ b, H b = none ∨ ∃ o xs, H b = some (.frz o (.lst xs))

/-- THE HEAD: the law's promise, at the heap behind the top. F, the promise of the law's def, may use that base is part of the heap (so K.In base, base.Ns mainGlobals mg stand in Mod) -/
theorem law_call {P : Program} {w : World} {K : PySem.W.Frag} {mg mb : Str → Option Value} {CX : CXT} {k : Nat} {fa a : Addr} {fd : FuncData} {x : Str} {sp : Sp} {s₁ : Shared} {vs : List Value} {ns : List Int}
    (KX : K.In s₁.heap) (hns : s₁.heap.Ns mainGlobals mg) (hb : s₁.heap.Ns builtinsNs mb) (hbb : ∀ x : Str, x ≠ "__name__" → mb x = bootBuiltins x) (hlim : s₁.heap.NoLimit) (hg : s₁.gens = #[])
    (ha : s₁.heap.get? a = some { cls := .type "list", data := .seq vs.toArray }) (hi : IntsAre vs ns) (hl : ns.length ≤ sizeLine) (hr : Room k callerA)
    (F : ∀ base : Heap, K.In base → base.Ns mainGlobals mg → FnOk P w K mg base CX k fa fd [x] sp) (hbind : ∀ (s : Shared) (u : Value), BindsTo s fd ⟨[u], []⟩ [(x, u)])
    (hsp : ∀ H : Hp, Only H → SqL K H a (ns.map V.int) → sp [.ref a] H (fun v _ => v = .bl true) fun _ _ _ => False)
    (hCX : ∀ H e s', CX [] H s₁ (fun _ _ _ => False) e s' → False) :
    codeAny (model P w) callerA (.call (.ref fa) ⟨[.ref a], []⟩) (fun r s' => r = .ok (.ret (.bool true)) ∧ OldK s₁.heap s'.heap ∧ s'.os = s₁.os ∧ AllBare s'.gens) s₁ := by
  have rv := vals_ints hi
  have lenV := hi.length
  -- from an abstract heap in which nothing but the script may be tracked
  have core : ∀ H : Hp, Only H → SqL K H a (ns.map V.int) → HOk P w H s₁.heap → (∀ b, H b ≠ none → b = a) → (H a ≠ none → K.lookup a = none) →
      codeAny (model P w) callerA (.call (.ref fa) ⟨[.ref a], []⟩) (fun r s' => r = .ok (.ret (.bool true)) ∧ OldK s₁.heap s'.heap ∧ s'.os = s₁.os ∧ AllBare s'.gens) s₁ := by
    intro H hO hS hok hA hK
    have base_of : ∀ {b : Addr} {o : Obj}, s₁.heap.get? b = some o → H b = none → (hidT s₁.heap H).get? b = some o := fun e n => hidT_get e n
    have noA : ∀ {b : Addr} {o : Obj} {es : Array DictEntry} {ep : Nat}, s₁.heap.get? b = some o → o.data = .dict es ep → H b = none := fun {b o es ep} e d => by
      cases q : H b with
      | none => rfl
      | some u =>
        have e' : b = a := hA b (by rw [q]; simp)
        subst e'
        rw [ha] at e; cases e
        have d' : Data.seq vs.toArray _ = Data.dict es ep := d
        cases d'
    have nsK : ∀ {b : Addr} {m : Str → Option Value}, s₁.heap.Ns b m → (hidT s₁.heap H).Ns b m := fun {b m} ⟨o, es, ep, e, d, r⟩ => ⟨o, es, ep, base_of e (noA e d), d, r⟩
    have hKb : K.In (hidT s₁.heap H) := fun b o e => base_of (KX b o e) (by
      cases q : H b with
      | none => rfl
      | some u =>
        have e' : b = a := hA b (by rw [q]; simp)
        subst e'
        rw [hK (by rw [q]; simp)] at e; cases e)
    have hM : Mod K mg (hidT s₁.heap H) := ⟨hKb, nsK hns, ⟨mb, nsK hb, hbb⟩, let ⟨mc, h1, h2⟩ := hlim; ⟨mc, nsK h1, h2⟩⟩
    have e0 : Env0 P w K mg (hidT s₁.heap H) callerA [] s₁ H := ⟨rfl, hM, fun b o e => of_hidT e, Nat.le_of_eq (hidT_size _ _), trivial, fun b hb => absurd (show b ∈ ([] : List Addr) from hb) (by simp), hok, .of_eq hg⟩
    refine codeAny_mono ((F _ hKb (nsK hns)).run callerA [] s₁ H ⟨[.ref a], []⟩ [.ref a] [.ref a] _ _ hr e0 (hbind s₁ (.ref a)) (.cons rfl .nil) (hsp H hO hS)) fun r s' h => ?_
    cases r with
    | error e => exact (hCX H e s' h).elim
    | ok fl =>
      cases fl with
      | next => exact False.elim h
      | brk => exact False.elim h
      | cont => exact False.elim h
      | ret u =>
        obtain ⟨v, H', os, bare, un, hok', r', q⟩ := h
        have q' : v = .bl true := q
        subst q'
        obtain rfl : u = Value.bool true := r'
        refine ⟨rfl, OldK.of_keep fun b o e => ?_, os, bare⟩
        cases q : H b with
        | none => exact un.keep b o e q (by intro z; exact absurd (show b ∈ ([] : List Addr) from z) (by simp)) (by simp)
        | some u =>
          rcases hO b with z | ⟨ob, xs, z⟩
          · rw [q] at z; cases z
          · have z2 := un.frzs b ob _ z
            obtain ⟨e1, _⟩ := hok b _ z
            obtain ⟨e2, _⟩ := hok' b _ z2
            rw [e] at e1; cases e1
            exact e2
  cases hk : K.lookup a with
  | some o =>
    -- the script is one of the module's own objects
    have e := KX a o hk
    rw [ha] at e
    cases e
    refine core (fun _ => none) (fun _ => .inl rfl) (.inr ⟨_, vs.toArray, _, hk, rfl, rfl, rfl, by rw [List.size_toArray, lenV]; exact hl, by simpa using rv⟩) (fun b u z => by have z' : (none : Option HO) = some u := z; cases z') (fun b z => absurd rfl z) fun z => absurd rfl z
  | none =>
    refine core (fun b => if b = a then some (.frz { cls := .type "list", data := .seq vs.toArray } (.lst (ns.map V.int))) else none) (fun b => ?_) (.inl (.inr ⟨{ cls := .type "list", data := .seq vs.toArray }, if_pos rfl⟩)) (fun b u z => ?_) (fun b z => ?_) fun _ => hk
    · by_cases hb : b = a
      · exact .inr ⟨_, _, if_pos hb⟩
      · exact .inl (if_neg hb)
    · by_cases hb : b = a
      · have z' := (if_pos hb).symm.trans z
        cases z'
        subst hb
        exact ⟨ha, by rw [List.length_map]; exact hl, vs, _, rv, ha⟩
      · have z' := (if_neg hb).symm.trans z
        cases z'
    · by_cases hb : b = a
      · exact hb
      · exact absurd (if_neg hb) z
end L2

namespace L2
open PySem PySem.Spec PyProof.Rows

noncomputable abbrev KOf {K : PySem.W.Frag} {h : Heap} (_ : K.In h) : PySem.W.Frag := K

/-- the goal that k_head leaves (case hc), from the law's promise. F gives the function object fd (K's own) once, then the promise over every base -/
theorem walk_of {l : PySem.W.OpenLaw} {n k : Nat} {q : Program} {loose : List Str} {XP : (Str → Option Value) → Heap → Prop} {YP : World → Heap → Prop} {d : DefRec} {K : Params → PySem.W.Frag} {CX : World → CXT} {sp : World → Sp} {x : Str}
    (hn : l.most = some n) (hn2 : n ≤ sizeLine) (hdf : d.params.defaults = []) (hr : Room k callerA)
    (hY : ∀ (w : World) (h : Heap), YP w h → (K w.params).In h)
    (F : ∀ (w : World) (mg : Str → Option Value) (fa : Addr) (h : Heap), (K w.params).In h → h.Ns mainGlobals mg → mg d.name = some (.ref fa) →
      ∃ fd : FuncData, (∀ (s : Shared) (u : Value), BindsTo s fd ⟨[u], []⟩ [(x, u)]) ∧
        ∀ base : Heap, (K w.params).In base → base.Ns mainGlobals mg → FnOk l.prog w (K w.params) mg base (CX w) k fa fd [x] (sp w))
    (hsp : ∀ (w : World) (H : Hp) (a : Addr) (ns : List Int), ns.length ≤ n → Only H → SqL (K w.params) H a (ns.map V.int) → sp w [.ref a] H (fun v _ => v = .bl true) fun _ _ _ => False)
    (hCX : ∀ (w : World) (H : Hp) (s : Shared) (e : Value) (s' : Shared), CX w [] H s (fun _ _ _ => False) e s' → False) :
    PySem.W.WalkO q loose XP YP l.row.toRowW d [] (fun f vs => PySem.call f vs) := by
  refine Att.attach_call hn hdf fun w s₀ s₁ mg mb fa o pm cd doc a vs ns G Y ho hd hcd hmg hobj hints hlen hg => ?_
  have KX := hY w _ Y
  obtain ⟨fd, hb, hF⟩ := F w mg fa _ KX G.T.g hmg
  exact law_call KX G.T.g G.T.b G.T.builtins G.T.nolimit hg hobj hints (Nat.le_trans hlen hn2) hr hF hb (fun H hO hS => hsp w H a ns hlen hO hS) fun H e s' => hCX w H s₁ e s'
end L2


/-! SHORT WORDS over the layer: a def of the text, its body, what a loop and a test want. -/
namespace L2
open PySem PySem.Spec PyProof.Rows

/-! ### the text by places -/
/-- the j-th statement of a class's body -/
noncomputable def inClass (s : Stmt) (j : Nat) : Stmt := match s with
  | .ClassDef _ _ _ body _ _ _ _ _ _ _ => body.getD j (.Pass ⟨0, 0, 0, 0⟩)
  | _ => .Pass ⟨0, 0, 0, 0⟩
noncomputable def defArgs (s : Stmt) : Arguments := match s with
  | .FunctionDef _ a _ _ _ _ _ _ _ _ => a
  | _ => { posonlyargs := [], args := [], vararg := none, kwonlyargs := [], kw_defaults := [], kwarg := none, defaults := [] }
noncomputable def defBody (s : Stmt) : List Stmt := match s with
  | .FunctionDef _ _ b _ _ _ _ _ _ _ => b
  | _ => []
noncomputable def defScope (s : Stmt) : Scope := match s with
  | .FunctionDef _ _ _ _ _ _ sc _ _ _ => sc
  | _ => { kind := .function, names := [], isGenerator := false, isCoroutine := false }

/-! ### no exception leaves a def -/
noncomputable abbrev CX0 : CXT := fun _ _ _ _ _ _ => False
/-! ### a def (or method) of the text as it stands behind the top -/
structure Fun (K : PySem.W.Frag) (x qual : Str) (st : Stmt) (f : Addr) (fd : FuncData) : Prop where
  ex : ∃ (oc : Value) (od : Option Addr) (kV doc pm : Value) (an : Option Addr) (cdv ct : Value) (osl : Array (Option Value)),
    fd = PySem.W.fnOf x qual (defArgs st) (defBody st) (defScope st) .none kV doc pm an cdv ct ∧ K.lookup f = some ⟨oc, od, .func fd, osl⟩ ∧ PySem.W.codeIn K cdv qual = true
  kp : PySem.W.keepIn K (.ref f) = true
section
variable {P : Program} {w : World} {K : PySem.W.Frag} {mg : Str → Option Value} {base : Heap}
/-- THE RULE for a def: its body as a term of rules, and the reading of that term -/
theorem Fun.ok {x qual : Str} {st : Stmt} {f : Addr} {fd : FuncData} {N ps : List Str} {k : Nat} {sp : Sp} (F : Fun K x qual st f fd) (S : FnScope N ps (defScope st)) (len : ∀ vs H Q E, sp vs H Q E → vs.length = ps.length)
    (hbody : ∀ (cdv : Value) (A : Around) (outer : List Env) (s : Shared) (H : Hp) (vs : List V) (Q : VK) (E : XK), Room k (A.deeper (envOfC qual (defScope st) s.heap.objs.size f cdv)) → sp vs H Q E →
      ∃ t, PSs (cxOf CX0 P w K mg base N qual (defScope st) f cdv A outer s H E).nox (defBody st) t ∧ t { nx := fun _ H' => Q .non H', rt := Q } (start N vs) H) : FnOk P w K mg base CX0 (k + 1) f fd ps sp := by
  obtain ⟨oc, od, kV, doc, pm, an, cdv, ct, osl, rfl, lk, hcd⟩ := F.ex
  refine fn_of lk hcd S len fun A outer s H vs Q E hr hsp => ?_
  obtain ⟨t, h, q⟩ := hbody cdv A outer s H vs Q E hr hsp
  exact ⟨t, h.nox, q⟩
/-- how its arguments bind (no defaults): h is «fun _ _ _ _ _ _ us hl => match us, hl with | [_, _], _ => rfl», one _ a parameter -/
theorem Fun.binds {x qual : Str} {st : Stmt} {f : Addr} {fd : FuncData} {ps : List Str} (F : Fun K x qual st f fd)
    (h : ∀ (kV doc pm : Value) (an : Option Addr) (cdv ct : Value) (us : List Value), us.length = ps.length → bindArgs (PySem.W.fnOf x qual (defArgs st) (defBody st) (defScope st) .none kV doc pm an cdv ct) ⟨us, []⟩ = pure (ps.zip us)) : Binds K fd ps [] := by
  obtain ⟨oc, od, kV, doc, pm, an, cdv, ct, osl, rfl, lk, hcd⟩ := F.ex
  exact .all (h kV doc pm an cdv ct)
theorem fun_mk {x qual : Str} {st : Stmt} {f : Addr} {oc : Value} {od an : Option Addr} {osl : Array (Option Value)} {kV doc pm cdv ct : Value} (l : K.lookup f = some ⟨oc, od, .func (PySem.W.fnOf x qual (defArgs st) (defBody st) (defScope st) .none kV doc pm an cdv ct), osl⟩)
    (c : PySem.W.codeIn K cdv qual = true) (k : PySem.W.keepIn K (.ref f) = true) : Fun K x qual st f (PySem.W.fnOf x qual (defArgs st) (defBody st) (defScope st) .none kV doc pm an cdv ct) := ⟨⟨oc, od, kV, doc, pm, an, cdv, ct, osl, rfl, l, c⟩, k⟩
end
theorem hu_of {A : Around} {k : Nat} (hr : Room k A) : A.units + 1 < cLine := Nat.lt_of_le_of_lt (Nat.add_le_add_left (by decide : 1 ≤ 64) _) hr.units
theorem small1000 {n : Nat} (h : n ≤ 1000) : n < sizeLine := Nat.lt_of_le_of_lt h (by decide)

/-! ### expressions in short: the name that stands in the i-th slot -/
section
variable {X : Cx}
end

/-! ### heaps -/
/-- all that was tracked is as it was -/
noncomputable def Same (H H' : Hp) : Prop := ∀ b o, H b = some o → H' b = some o
theorem Same.refl (H : Hp) : Same H H := fun _ _ h => h
theorem Same.trans {H H1 H2 : Hp} (a : Same H H1) (b : Same H1 H2) : Same H H2 := fun c o h => b c o (a c o h)
theorem Same.free {H H' : Hp} (e : Same H H') {l : Addr} (h : H' l = Option.none) : H l = Option.none := by
  cases q : H l with
  | none => rfl
  | some o =>
    rw [e l o q] at h
    cases h
theorem Same.seq {K : PySem.W.Frag} {H H' : Hp} {a : Addr} {xs : List V} (e : Same H H') (h : SqL K H a xs) : SqL K H' a xs := by
  rcases h with (h | ⟨o, h⟩) | h
  · exact .inl (.inl (e _ _ h))
  · exact .inl (.inr ⟨o, e _ _ h⟩)
  · exact .inr h

/-! ### a dict's pairs: keys that differ -/
section
variable {κ : Type} [DecidableEq κ]
end
end L2

set_option maxHeartbeats 4000000

namespace L2.HD
open PySem PySem.W
/-- the top's run over a tree of objects, the step function a letter -/
noncomputable def goU (thr okS : Thread → Bool) (f : SharedT → Thread → Option (SharedT × Thread)) : Nat → SharedT → Thread → Option SharedT
  | 0, _, _ => none
  | n + 1, s, t => match thr t with
    | true => some s
    | false => match okS t with
      | false => none
      | true => match f s t with
        | some (s', t') => goU thr okS f n s' t'
        | none => none
theorem goU_top {tb : String → Option Builtin} {p : Program} {w : World} {n₀ : Nat} {ann : Option Value} : ∀ {n : Nat} {s s' : SharedT} {t : Thread},
    goU through (stepOk n₀ ann) (stepT (denote tb) p w) n s t = some s' → topRun tb p w n₀ ann n s.abs t = some s'.abs
  | 0, _, _, _, h => by cases h
  | n + 1, s, s', t, h => by
    unfold goU at h
    unfold topRun
    cases ht : through t with
    | true => rw [ht] at h; cases h; rfl
    | false =>
      rw [ht] at h
      cases hk : stepOk n₀ ann t with
      | false => rw [hk] at h; cases h
      | true =>
        rw [hk] at h
        cases hs : stepT (denote tb) p w s t with
        | none => rw [hs] at h; cases h
        | some r => obtain ⟨s₂, t₂⟩ := r; rw [hs] at h; rw [stepT_spec hs]; exact goU_top h
/-- the boot's objects as a tree -/
noncomputable def T0 (P : Params) : BT := (((((((((((BT.nil.ins 0 (boot_o_0 P)).ins 1 (boot_o_1 P)).ins 2 (boot_o_2 P)).ins 3 (boot_o_3 P)).ins 4 (boot_o_4 P)).ins 5 (boot_o_5 P)).ins 6 (boot_o_6 P)).ins 7 (boot_o_7 P)).ins 8 (boot_o_8 P)).ins 9 (boot_o_9 P)).ins 10 (boot_o_10 P))
noncomputable def S0 (w : World) (os : OsState) : SharedT := ⟨T0 w.params, 11, (boot_heap w.params).life, #[], boot_drawn, boot_toks, os⟩
theorem S0_abs (w : World) (os : OsState) : (S0 w os).abs = ⟨boot_heap w.params, #[], boot_drawn, boot_toks, os⟩ := by kernel_rfl
theorem size0 (w : World) : ((boot_heap w.params).isNs mainGlobals && (#[] : Array GenState).size == 0, (boot_heap w.params).objs.size, (boot_heap w.params).nsMap mainGlobals "__annotations__") = (true, 11, some (.ref 6)) := by kernel_rfl
theorem left_of {p q : Program} {loose : List Str} {Xt : Shared → Bool} {α : Type} {Yf : Shared → α} {Ya : World → α} {N : Nat} {g0 : Bool}
    (open_ : ∀ w : World, (fencedOpening treeTable p w N).map (fun s => (s.heap, s.gens, s.drawn, s.toks)) = some (boot_heap w.params, #[], boot_drawn, boot_toks))
    (run : ∀ w : World, (fun os => (goU through (stepOk 11 (some (.ref 6))) (stepT (denote treeTable) p w) N (S0 w os) (topStub p)).map (fun s =>
      ((staticsOk (importedModules p.main.body) (boot_heap w.params) s.abs.heap && namesBound p s.abs.heap && gensDone s.abs && laidKept (boot_heap w.params) s.abs.heap),
        openSeen q loose (importedModules p.main.body) Xt g0 s.abs, Yf s.abs))) = fun _ => some (true, openGood q loose, Ya w)) : LeftO p q loose Xt Yf Ya N g0 := fun w => by
  obtain ⟨⟨h, gs, d, k, os⟩, e, e'⟩ := Option.map_eq_some_iff.mp (open_ w)
  obtain ⟨rfl, rfl, rfl, rfl⟩ : h = boot_heap w.params ∧ gs = #[] ∧ d = boot_drawn ∧ k = boot_toks := by simpa using e'
  obtain ⟨s, r, z⟩ := Option.map_eq_some_iff.mp (congrFun (run w) os)
  have r := goU_top r
  rw [S0_abs] at r
  obtain ⟨z1, z2, z3⟩ : _ ∧ _ ∧ _ := by simpa only [Prod.mk.injEq] using size0 w
  obtain ⟨l1, l2, l3⟩ : _ ∧ _ ∧ _ := by simpa only [Prod.mk.injEq] using z
  have t : topFrom treeTable p w N ⟨boot_heap w.params, #[], boot_drawn, boot_toks, os⟩ = some s.abs := by
    unfold topFrom
    dsimp only
    rw [z1, z2, z3, r]
    show (match staticsOk (importedModules p.main.body) (boot_heap w.params) s.abs.heap && namesBound p s.abs.heap && gensDone s.abs && laidKept (boot_heap w.params) s.abs.heap with | true => _ | false => _) = _
    rw [l1]
  unfold openEnds
  rw [e]
  show (topFrom treeTable p w N _).map _ = _
  rw [t]
  exact congrArg some (Prod.ext l2 l3)
end L2.HD

namespace L2.HD
open PySem PySem.W
/-! what the top leaves, written shortly -/
noncomputable def vs (x : Str) (t : Nat) : Value := .str x t
noncomputable def vi (i : Int) : Value := .int i 0
noncomputable def de (P : Params) (x : Str) (t : Nat) (v : Value) : DictEntry := ⟨PyData.keyHash P x, .str x t, v⟩
noncomputable def ob (c : String) (d : Data) : Obj := { cls := .type c, data := d }
noncomputable def od (n : Nat) (es : List DictEntry) : Obj := { cls := .type "dict", data := .dict es.toArray n }
noncomputable def ot (xs : List Value) : Obj := { cls := .type "tuple", data := .seq xs.toArray }
noncomputable def ofd (c : String) (xs : List Value) : Obj := { cls := .type c, data := .fields xs.toArray }
noncomputable def oc (x : Str) (xt : Nat) (q : Str) (a b c d e : Nat) (xs : List Value) (f g h : Nat) : Obj :=
  ofd "code" ([.str x xt, .str q a, .str "/claim/cut.py" b, vi c, vi d, vi 0, vi 0, vi e] ++ xs ++ [vi f, vi g, .str "/claim/cut.py" h])
noncomputable def of (x q : Str) (st : Stmt) (m : Str) (mt c : Nat) : Obj := { cls := .type "function", data := .func (fnOf x q (defArgs st) (defBody st) (defScope st) .none .none .none (.str m mt) none (.ref c) .none) }
theorem holds_of {l : OpenLaw} {q : Program} {d : DefRec} {K : Params → Frag} {as : List Addr} {e : ∀ P, as = (K P).map (·.1)} {N : Nat}
    (left : LeftO l.prog q [] (fun s => xlAt q [] s && recOk (RowW.records l.row.toRowW) s) (Hook.obs (kHook K as e)) (Hook.val (kHook K as e)) N)
    (said : l.row.wellSaid = true) (hdef : defOf q l.row.name = some (d, [])) (hp : l.row.prog.theDef l.row.name = some (d.params, d.body, d.scope)) (hk : kwWritten? d.params.kwonlyargs d.params.kw_defaults = some [])
    (hwr : (!l.row.writes || l.row.records.isEmpty) = true) (ok : (chainsOk q && opensWell l.row.prog && (frees l.row.toRowW && l.row.within.isEmpty)) = true) (hb : l.row.prog.bare) (hw : l.row.toRowW.promised)
    (call : WalkO q [] (XL q []) (Hook.says (kHook K as e)) l.row.toRowW d [] fun f vs => PySem.call f vs) : l.row.Holds :=
  holds_open (r := l.row) (q := q) (loose := []) (Xt := fun s => xlAt q [] s && recOk (RowW.records l.row.toRowW) s) (XP := XL q []) (Yf := Hook.obs (kHook K as e)) (Ya := Hook.val (kHook K as e)) (YP := Hook.says (kHook K as e)) (N := N)
    left (Hook.of (kHook K as e)) (Hook.keeps (kHook K as e)) (fun s e => xl_of s (Bool.and_eq_true_iff.mp e).1) XL.keeps hdef hp hk (fun s e => recFacts_of (Bool.and_eq_true_iff.mp e).2) hwr said ok hb hw call
end L2.HD

namespace L2.PU
open PySem PySem.Spec PyProof.Rows

section
variable {prog : Program} {w : World} {A : Around} {E : Value → Shared → Prop} {s : Shared}
end
end L2.PU

namespace L2.PU
open PySem PySem.Spec PyProof.Rows

section
variable {prog : Program} {w : World} {A : Around} {R : Result → Shared → Prop} {I : Addr} {fp wr : List Addr} {G : Array GenState → Array GenState → Prop} {n : Nat} {P : Nat → Value → Prop} {St : Nat → Shared → Prop}
end
section
variable {prog : Program} {w : World} {A : Around} {E : Value → Shared → Prop} {s : Shared}
/-- an iterator of a list or a tuple, made and walked -/
theorem seq_walk {l : Addr} {items : Array Value} {T : String} {o : Obj} {nn : Nat} {Q : Value → Shared → Prop} (hT : T = "list" ∨ T = "tuple") (hh : A.handled = none) (ho : s.heap.get? l = some o) (hc : o.cls = .type T) (hd : o.data = .seq items nn)
    (h : ∀ (ob : Obj) (St : Nat → Heap → Prop), (∀ A', A'.handled = none → Walks prog w A' s.heap.objs.size [s.heap.objs.size, l] [s.heap.objs.size] items.size (fun i v => items[i]? = some v) St) → St 0 (s.heap.push ob) → Q (.ref s.heap.objs.size) { s with heap := s.heap.push ob }) :
    wpAny (model prog w) A (pyIter (.ref l)) Q E s := by
  have lt : l < s.heap.objs.size := Heap.lt_size ho
  rcases hT with rfl | rfl
  · have hl : s.heap.IsList l items := ⟨o, ho, hc, nn, hd⟩
    exact wpAny_pyIter_list hl (h _ _ (fun A' hA => Walks.list hA _ l (Nat.ne_of_lt lt) items) ⟨⟨_, Heap.get?_push_size _ rfl, rfl, rfl⟩, hl.push _⟩)
  · have hl : s.heap.IsTuple l items := ⟨o, ho, hc, nn, hd⟩
    exact wpAny_pyIter_tuple hl (h _ _ (fun A' hA => Walks.tuple hA _ l (Nat.ne_of_lt lt) items) ⟨⟨_, Heap.get?_push_size _ rfl, rfl, rfl⟩, hl.push _⟩)
end

section
variable {prog : Program} {w : World} {A : Around} {E : Value → Shared → Prop} {s : Shared}
end
end L2.PU

namespace L2.PU
open PySem PySem.Spec PyProof.Rows

/-! ### t.index(x): texts -/
section
variable {prog : Program} {w : World} {A : Around} {E : Value → Shared → Prop} {s : Shared}
end
end L2.PU

namespace L2.PU
open PySem PySem.Spec PyProof.Rows

/-! ### reversed(t) of a tuple, and the tuple of it -/
theorem slot_rev_next : PySem.Slot "reversed" "__next__" "reversed.__next__" := .of (owner := "reversed") (n := "__next__") (by rw [typeLookup_type, builtinLookup_eq_fast]; kernel_rfl) (by decide +kernel) (by decide +kernel) (by decide +kernel) (by first | exact .inl (by decide +kernel) | exact .inr (by decide +kernel)) (by rw [isSubtype_type]; kernel_rfl)
theorem slot_rev_iter : PySem.Slot "reversed" "__iter__" "reversed.__iter__" := .of (owner := "reversed") (n := "__iter__") (by rw [typeLookup_type, builtinLookup_eq_fast]; kernel_rfl) (by decide +kernel) (by decide +kernel) (by decide +kernel) (by first | exact .inl (by decide +kernel) | exact .inr (by decide +kernel)) (by rw [isSubtype_type]; kernel_rfl)
theorem entry_rev_next : entryFor table "reversed.__next__" = some Builtin.«reversed.__next__» := entryFor_of_tree (by kernel_rfl)
theorem args_rev_next (a : Value) : argsOk "reversed.__next__" ⟨[a], []⟩ := by unfold argsOk; kernel_rfl
theorem args_rev_iter (a : Value) : argsOk "reversed.__iter__" ⟨[a], []⟩ := by unfold argsOk; kernel_rfl
section
variable {prog : Program} {w : World} {A : Around} {E : Value → Shared → Prop} {s : Shared}
end
end L2.PU

namespace L2.PU
open PySem PySem.Spec PyProof.Rows
section
variable {prog : Program} {w : World} {A : Around} {E : Value → Shared → Prop} {s : Shared}
/-- the iterator, i items drawn -/
noncomputable def IsRev (h : Heap) (it t : Addr) (k : Int) : Prop := ∃ o, h.get? it = some o ∧ o.cls = .type "reversed" ∧ o.data = .fields #[.ref t, rawInt k]
theorem rev_item {it t : Addr} {items : Array Value} {k : Nat} {x : Value} {Q : Option Value → Shared → Prop} (hi : IsRev s.heap it t k) (ht : IsTup s.heap t items) (hx : items[k]? = some x) (hz : items.size ≤ sizeLine) (ne : t ≠ it)
    (q : ∀ h' tk, IsRev h' it t ((k : Int) - 1) → Heap.SameBut it s.heap h' → Q (some x) { s with heap := h', toks := tk }) : wpAny (model prog w) A (pyNext (.ref it)) Q E s := by
  obtain ⟨o, ho, hc, hd⟩ := id hi
  have hT : s.TypeIs (.ref it) "reversed" := ⟨o, ho, hc⟩
  have hg := PyProof.Rows.slot_tuple_getitem.lookup
  have hlt : k < items.size := by
    rcases Nat.lt_or_ge k items.size with h | h
    · exact h
    · rw [Array.getElem?_eq_none h] at hx; cases hx
  have hs : sizeLine = 16777216 := sizeLine_eq
  unfold pyNext
  refine wpAny_bind (wpAny_attempt (wpAny_callSpecial?_slot (name := Str.ofString "__next__") hT slot_rev_next (wpAny_call_entry slot_rev_next hT entry_rev_next ?_ (args_rev_next _))))
  unfold Builtin.«reversed.__next__»
  have hk : ¬ ((k : Int) < 0) := by omega
  have hj : seqIndex? (k : Int) items.size = some k := by
    have := PySem.StrLaws.seqIndex_nonneg (i := (k : Int)) (n := items.size) (by omega) (by omega)
    simpa using this
  generalize hGI : getItem = GI
  wp_walk using (wpAny_field ho hd (x := .ref t) rfl), (wpAny_field ho hd (x := rawInt k) rfl), (wpAny_specialOf (name := Str.ofString "__getitem__") ht.typeIs hg)
  subst hGI
  refine getItem_tuple (j := k) ht (by omega) (by omega) hj hx ?_
  show wpAny _ _ (field (.ref it) 1 >>= _) _ _ _
  refine wpAny_bind (wpAny_field ho hd (x := rawInt k) rfl ?_)
  show wpAny _ _ (setField (.ref it) 1 (rawInt ((k : Int) - 1)) >>= _) _ _ _
  refine wpAny_bind (wpAny_setField ho hd (by simp) (wpAny_pure ⟨x, rfl, wpAny_pure (q _ _ ?_ (Heap.SameBut.update ..))⟩))
  exact ⟨_, Heap.get?_update_self _ ho (Obj.isFreed_of_fields (Obj.data_mapFields hd _)), (Obj.cls_mapFields ..).trans hc, by rw [Obj.data_mapFields hd]; simp [rawInt]⟩
theorem rev_end {it t : Addr} {Q : Option Value → Shared → Prop} (hh : A.handled = none) (hi : IsRev s.heap it t (-1)) (q : ∀ h' tk, Heap.ExtBut it s.heap h' → Q none { s with heap := h', toks := tk }) : wpAny (model prog w) A (pyNext (.ref it)) Q E s := by
  obtain ⟨o, ho, hc, hd⟩ := id hi
  have hT : s.TypeIs (.ref it) "reversed" := ⟨o, ho, hc⟩
  unfold pyNext
  refine wpAny_bind (wpAny_attempt (wpAny_callSpecial?_slot (name := Str.ofString "__next__") hT slot_rev_next (wpAny_call_entry slot_rev_next hT entry_rev_next ?_ (args_rev_next _))))
  unfold Builtin.«reversed.__next__»
  obtain ⟨c1, d1, x1, l1⟩ := o
  dsimp only at hc hd
  subst hc hd
  generalize hGI : getItem = GI
  wp_walk using AutoSeq1.wpAny_loadPart' ho
  simp only [raiseNew]; refine wpAny_bind (wpAny_handled ?_)
  rw [show A.in1.handled = none by simp [hh]]; refine wpAny_bind (wpAny_pure (wpAny_throw ?_))
  refine wpAny_bind (wpAny_isInstance (T := "StopIteration") (b := true) ⟨_, Heap.get?_push_size _ rfl, rfl⟩ isSubtype_stop (wpAny_pure (q _ _ ?_)))
  exact (((Heap.SameBut.update ..).trans (Heap.SameBut.update ..)).extBut.push _).push _
theorem entry_rev_iter : entryFor table "reversed.__iter__" = some Builtin.«dict_keyiterator.__iter__» := entryFor_alias (id' := "dict_keyiterator.__iter__") (by kernel_rfl) rfl (by decide +kernel) (by kernel_rfl)
theorem rev_self {it t : Addr} {k : Int} {Q : Value → Shared → Prop} (hi : IsRev s.heap it t k) (q : Q (.ref it) s) : wpAny (model prog w) A (pyIter (.ref it)) Q E s := by
  obtain ⟨o, ho, hc, hd⟩ := hi
  have hT : s.TypeIs (.ref it) "reversed" := ⟨o, ho, hc⟩
  refine wpAny_pyIter_slot hT slot_rev_iter (wpAny_call_entry slot_rev_iter hT entry_rev_iter ?_ (args_rev_iter _))
  exact wpAny_pure ⟨_, rfl, "reversed", _, hT, slot_rev_next.lookup, q⟩
theorem Walks.rev (hh : A.handled = none) (it t : Addr) (ne : t ≠ it) (items : Array Value) (hz : items.size ≤ sizeLine) :
    Walks prog w A it [it, t] [it] items.size (fun i v => items[items.size - 1 - i]? = some v) (fun i h => IsRev h it t ((items.size : Int) - 1 - i) ∧ IsTup h t items) where
  sub := fun b hb => by simp at hb; simp [hb]
  frame := fun i h h' st hk => by
    obtain ⟨⟨o, a1, a2⟩, u, b1, b2⟩ := st
    exact ⟨⟨o, hk it (by simp) o a1, a2⟩, u, hk t (by simp) u b1, b2⟩
  item := fun i s Q E hi st hQ => by
    have ek : (items.size : Int) - 1 - i = ((items.size - 1 - i : Nat) : Int) := by omega
    have st1 := st.1
    rw [ek] at st1
    have hx : items[items.size - 1 - i]? = some items[items.size - 1 - i] := by simp
    refine rev_item st1 st.2 hx hz ne fun h' tk r sb => hQ _ h' tk hx ⟨?_, ?_⟩ fun b o hb e => sb.extBut b o (fun z => hb (by simp [z])) e
    · have e2 : ((items.size - 1 - i : Nat) : Int) - 1 = (items.size : Int) - 1 - ((i + 1 : Nat) : Int) := by omega
      rw [← e2]; exact r
    · obtain ⟨u, b1, b2⟩ := st.2
      exact ⟨u, sb.extBut t u ne b1, b2⟩
  done := fun s Q E st hQ => by
    have e : (items.size : Int) - 1 - (items.size : Nat) = -1 := by omega
    have st1 := st.1
    rw [e] at st1
    exact rev_end hh st1 fun h' tk x => hQ h' tk fun b o hb q => x b o (fun z => hb (by simp [z])) q
  self := fun _ _ _ _ st hQ => rev_self st.1 hQ
end
end L2.PU

namespace L2.PU
open PySem PySem.Spec PyProof.Rows

section
variable {prog : Program} {w : World} {A : Around} {E : Value → Shared → Prop} {s : Shared}
end
end L2.PU

namespace L2.PU
open PySem PySem.Spec PyProof.Rows

/-! ### the items of a set of texts, in the order that it gives them -/
section
variable {prog : Program} {w : World} {A : Around} {E : Value → Shared → Prop} {s : Shared}
end
end L2.PU

namespace L2.PU
open PySem PySem.Spec PyProof.Rows

/-! ### all items of a set of texts -/
section
variable {prog : Program} {w : World} {A : Around} {E : Value → Shared → Prop} {s : Shared}
end
end L2.PU

namespace L2.PU
open PySem PySem.Spec PyProof.Rows

/-! ### texts in their order -/
noncomputable def leS (a b : Str) : Bool := !ltCps b.cps.toList a.cps.toList
noncomputable def srtS (xs : List Str) : List Str := xs.mergeSort leS
theorem leS_iff (a b : Str) : leS a b = true ↔ a.cps.toList ≤ b.cps.toList := by
  unfold leS; rw [ltCps_eq]; simp
theorem leS_trans (a b c : Str) (h1 : leS a b = true) (h2 : leS b c = true) : leS a c = true := by
  rw [leS_iff] at *; exact List.le_trans h1 h2
theorem leS_total (a b : Str) : (leS a b || leS b a) = true := by
  rw [Bool.or_eq_true, leS_iff, leS_iff]; exact List.le_total _ _
theorem leS_anti (a b : Str) (h1 : leS a b = true) (h2 : leS b a = true) : a = b := by
  rw [leS_iff] at *; exact Str.ext' (Array.toList_inj.mp (List.le_antisymm h1 h2))
theorem srtS_perm (xs : List Str) : (srtS xs).Perm xs := List.mergeSort_perm xs leS
theorem srtS_pair (xs : List Str) : (srtS xs).Pairwise (fun a b => leS a b = true) := List.pairwise_mergeSort leS_trans leS_total xs
theorem rising_pair : ∀ (l : List Str) (p : Str), risingS p l = true → (p :: l).Pairwise (fun a b => leS a b = true)
  | [], p, _ => by simp
  | x :: r, p, h => by
    have h' : (!ltCps x.cps.toList p.cps.toList && risingS x r) = true := h
    rw [Bool.and_eq_true] at h'
    have ih := rising_pair r x h'.2
    refine List.pairwise_cons.mpr ⟨fun y hy => ?_, ih⟩
    rcases List.mem_cons.mp hy with e | e
    · rw [e]; exact h'.1
    · exact leS_trans _ _ _ h'.1 (List.rel_of_pairwise_cons ih e)
theorem sortedS_pair : ∀ (l : List Str), sortedS l = true → l.Pairwise (fun a b => leS a b = true)
  | [], _ => .nil
  | x :: r, h => rising_pair r x h
theorem srtS_of {xs ys : List Str} (hs : sortedS ys = true) (hp : ys.Perm xs) : ys = srtS xs :=
  List.Perm.eq_of_pairwise (fun a b _ _ => leS_anti a b) (sortedS_pair ys hs) (srtS_pair xs) (hp.trans (srtS_perm xs).symm)
/-! ### sorted(x) -/
section
variable {prog : Program} {w : World} {A : Around} {E : Value → Shared → Prop} {s : Shared}
theorem sorted_of {x : Value} {xs : List Str} {Q : Value → Shared → Prop} (hh : A.handled = none) (h64 : xs.length < 64)
    (hc : ∀ (B : Around) (Q' : List Value → Shared → Prop), B.handled = none → (∀ vals ts h' tk d, StrsAre vals ts → ts.Perm xs → s.heap.objs.size ≤ h'.objs.size → (∀ b o, s.heap.get? b = some o → h'.get? b = some o) → Q' vals { s with heap := h', toks := tk, drawn := d }) → wpAny (model prog w) B (collect x) Q' E s)
    (h : ∀ out l h' tk d m, StrsAre out (srtS xs) → s.heap.objs.size ≤ l → h'.get? l = some { cls := .type "list", data := .seq out.toArray m } → (∀ b o, s.heap.get? b = some o → h'.get? b = some o) → Q (.ref l) { s with heap := h', toks := tk, drawn := d }) :
    wpAny (model prog w) A (call (.builtin "sorted") [x]) Q E s := by
  refine Calls.call_function_entry kind_sorted plain_sorted entry_sorted (args_sorted1 _) ?_
  unfold Builtin.«sorted»
  refine wpAny_bind (m := checkCount "sorted" 1 1 _) (wpAny_pure ?_)
  refine wpAny_bind (hc A.in1 _ (by simp [hh]) fun vals ts h1 tk d hS hp le hk => ?_)
  have hvl : vals.length < 64 := by rw [hS.len_eq, hp.length_eq]; exact h64
  refine wpAny_bind (wpAny_newList ?_)
  have hoL : (h1.push (seqObj "list" vals.toArray 0)).get? h1.objs.size = some (seqObj "list" vals.toArray 0) := Heap.get?_push_size _ rfl
  show wpAny _ _ _ _ _ { s with heap := h1.push (seqObj "list" vals.toArray 0), toks := tk, drawn := d }
  refine wpAny_bind (wpAny_holding (wpAny_call_entry slot_list_sort ⟨_, hoL, rfl⟩ entry_list_sort (list_sort_treeK strKind_oneLt hoL hS.keysOf (fun v₁ v₂ rest e => keyKind_strs (by rw [← e]; exact hS)) hvl fun st' a1 a2 => ⟨_, rfl, ?_⟩) (args_list_sort _)))
  refine wpAny_pure ⟨_, rfl, ?_⟩
  obtain ⟨ss', b1, b2, b3⟩ := sorted_out_str hS a1 a2
  have e := srtS_of b3 (b2.trans hp)
  subst e
  generalize (Array.map (fun x => x.snd) (arrOf st')) = out at b1 ⊢
  obtain ⟨ol⟩ := out
  have k1 := get?_update_seq hoL (fun _ => #[])
  have k2 := get?_update_seq (Heap.get?_push_of_some (seqObj "list" #[] 0) (Heap.get?_push_of_some (seqObj "tuple" vals.toArray 0) k1)) (fun _ => ol.toArray)
  refine h ol h1.objs.size _ tk d _ b1 le k2 fun b o e => ?_
  have lt := Heap.lt_size (hk b o e)
  have ne : h1.objs.size ≠ b := Nat.ne_of_gt lt
  show (sortedHeap _ _ _ _).get? b = some o
  unfold sortedHeap
  rw [Heap.get?_update_other _ _ ne]
  refine Heap.get?_push_of_some _ (Heap.get?_push_of_some _ ?_)
  rw [Heap.get?_update_other _ _ ne]
  exact Heap.get?_push_of_some _ (hk b o e)
end
end L2.PU

namespace L2.PU
open PySem PySem.Spec PyProof.Rows

/-- data without a heap -/
inductive D where
  | non | bl (b : Bool) | int (i : Int) | str (x : Str) | tup (ds : List D) | lst (ds : List D) | obj (C : Addr) (fs : List (Str × D))
  | dk (kvs : List (Key × D)) | dt (kvs : List (List Key × D)) | exc (C : Addr) | set (ss : List Str)
/-- an exception of the class at C stands there -/
noncomputable def excAt (a C : Addr) (h : Heap) : Prop := ∃ o, h.get? a = some o ∧ o.cls = .ref C

/-- a tuple that is tracked -/
noncomputable def TQ (K : PySem.W.Frag) (H : Hp) (a : Addr) (vs : List V) : Prop := H a = some (.tup vs)
theorem TQ.of {K : PySem.W.Frag} {H : Hp} {a : Addr} {vs : List V} (h : H a = some (.tup vs)) : TQ K H a vs := h
theorem TQ.sq {K : PySem.W.Frag} {H : Hp} {a : Addr} {vs : List V} (h : TQ K H a vs) : SqT K H a vs := SqT.of h
instance {K : PySem.W.Frag} {H : Hp} {a : Addr} {vs : List V} : Coe (TQ K H a vs) (SqT K H a vs) := ⟨TQ.sq⟩
mutual
/-- the value v of the abstract heap H bears the datum -/
inductive Is (K : PySem.W.Frag) (H : Hp) : D → V → Prop where
  | non : Is K H .non .non
  | bl (b : Bool) : Is K H (.bl b) (.bl b)
  | int (i : Int) : Is K H (.int i) (.int i)
  | str (x : Str) : Is K H (.str x) (.str x)
  | tup {a : Addr} {ds : List D} {vs : List V} (h : TQ K H a vs) (r : IsL K H ds vs) : Is K H (.tup ds) (.ref a)
  | lst {a : Addr} {ds : List D} {vs : List V} (h : SqL K H a vs) (r : IsL K H ds vs) : Is K H (.lst ds) (.ref a)
  | obj {a C dx : Addr} {fs : List (Str × D)} {vs : List (Str × V)} (h : H a = some (.ins C dx vs)) (r : IsF K H fs vs) : Is K H (.obj C fs) (.ref a)
  | dk {a : Addr} {kvs : List (Key × D)} {vs : List (Key × V)} (h : H a = some (.dK vs)) (r : IsK K H kvs vs) : Is K H (.dk kvs) (.ref a)
  | dt {a : Addr} {kvs : List (List Key × D)} {vs : List (List Key × V)} (h : H a = some (.dT vs)) (r : IsT K H kvs vs) : Is K H (.dt kvs) (.ref a)
  | exc {a C : Addr} (h : H a = some (.ext (excAt a C))) : Is K H (.exc C) (.ref a)
  | set {a : Addr} {ss : List Str} (h : H a = some (.set (fun k => ss.contains k) ss.length)) : Is K H (.set ss) (.ref a)
inductive IsK (K : PySem.W.Frag) (H : Hp) : List (Key × D) → List (Key × V) → Prop where
  | nil : IsK K H [] []
  | cons {x : Key} {d : D} {v : V} {ds : List (Key × D)} {vs : List (Key × V)} (h : Is K H d v) (r : IsK K H ds vs) : IsK K H ((x, d) :: ds) ((x, v) :: vs)
inductive IsT (K : PySem.W.Frag) (H : Hp) : List (List Key × D) → List (List Key × V) → Prop where
  | nil : IsT K H [] []
  | cons {x : List Key} {d : D} {v : V} {ds : List (List Key × D)} {vs : List (List Key × V)} (h : Is K H d v) (r : IsT K H ds vs) : IsT K H ((x, d) :: ds) ((x, v) :: vs)
inductive IsL (K : PySem.W.Frag) (H : Hp) : List D → List V → Prop where
  | nil : IsL K H [] []
  | cons {d : D} {v : V} {ds : List D} {vs : List V} (h : Is K H d v) (r : IsL K H ds vs) : IsL K H (d :: ds) (v :: vs)
inductive IsF (K : PySem.W.Frag) (H : Hp) : List (Str × D) → List (Str × V) → Prop where
  | nil : IsF K H [] []
  | cons {x : Str} {d : D} {v : V} {ds : List (Str × D)} {vs : List (Str × V)} (h : Is K H d v) (r : IsF K H ds vs) : IsF K H ((x, d) :: ds) ((x, v) :: vs)
end

section
variable {K : PySem.W.Frag} {H H' : Hp}
theorem SqT.mono {a : Addr} {xs : List V} (e : Same H H') (h : SqT K H a xs) : SqT K H' a xs := by
  rcases h with (h | ⟨o, h⟩) | h
  · exact .inl (.inl (e _ _ h))
  · exact .inl (.inr ⟨o, e _ _ h⟩)
  · exact .inr h
theorem Is.mono (e : Same H H') {d : D} {v : V} (h : Is K H d v) : Is K H' d v :=
  Is.rec (motive_1 := fun d v _ => Is K H' d v) (motive_2 := fun ds vs _ => IsK K H' ds vs) (motive_3 := fun ds vs _ => IsT K H' ds vs) (motive_4 := fun ds vs _ => IsL K H' ds vs) (motive_5 := fun ds vs _ => IsF K H' ds vs)
    .non .bl .int .str (fun h _ r => .tup (e _ _ h) r) (fun h _ r => .lst (e.seq h) r) (fun h _ r => .obj (e _ _ h) r) (fun h _ r => .dk (e _ _ h) r) (fun h _ r => .dt (e _ _ h) r) (fun h => .exc (e _ _ h)) (fun h => .set (e _ _ h))
    .nil (fun _ _ i r => .cons i r) .nil (fun _ _ i r => .cons i r) .nil (fun _ _ i r => .cons i r) .nil (fun _ _ i r => .cons i r) h
theorem IsK.mono (e : Same H H') : ∀ {ds : List (Key × D)} {vs : List (Key × V)}, IsK K H ds vs → IsK K H' ds vs := by
  intro ds
  induction ds with
  | nil => intro vs h; cases h; exact .nil
  | cons d ds ih => intro vs h; cases h with | cons i r => exact .cons (i.mono e) (ih r)
theorem IsT.mono (e : Same H H') : ∀ {ds : List (List Key × D)} {vs : List (List Key × V)}, IsT K H ds vs → IsT K H' ds vs := by
  intro ds
  induction ds with
  | nil => intro vs h; cases h; exact .nil
  | cons d ds ih => intro vs h; cases h with | cons i r => exact .cons (i.mono e) (ih r)
theorem IsL.mono (e : Same H H') : ∀ {ds : List (D)} {vs : List (V)}, IsL K H ds vs → IsL K H' ds vs := by
  intro ds
  induction ds with
  | nil => intro vs h; cases h; exact .nil
  | cons d ds ih => intro vs h; cases h with | cons i r => exact .cons (i.mono e) (ih r)
theorem IsF.mono (e : Same H H') : ∀ {ds : List (Str × D)} {vs : List (Str × V)}, IsF K H ds vs → IsF K H' ds vs := by
  intro ds
  induction ds with
  | nil => intro vs h; cases h; exact .nil
  | cons d ds ih => intro vs h; cases h with | cons i r => exact .cons (i.mono e) (ih r)
theorem IsL.length : ∀ {ds : List D} {vs : List V}, IsL K H ds vs → ds.length = vs.length := by
  intro ds
  induction ds with
  | nil => intro vs h; cases h; rfl
  | cons d ds ih => intro vs h; cases h with | cons _ r => exact congrArg (· + 1) (ih r)
theorem IsL.get : ∀ {ds : List D} {vs : List V} {i : Nat} {d : D}, IsL K H ds vs → ds[i]? = some d → ∃ v, vs[i]? = some v ∧ Is K H d v
  | _, _, _, _, .nil, e => by simp at e
  | _, _, 0, _, .cons h _, e => by simp at e; subst e; exact ⟨_, rfl, h⟩
  | _, _, i + 1, d, .cons _ r, e => by
    obtain ⟨v, h1, h2⟩ := IsL.get (i := i) (d := d) r (by simpa using e)
    exact ⟨v, by simpa using h1, h2⟩
theorem IsL.getV : ∀ {ds : List D} {vs : List V} {i : Nat} {v : V}, IsL K H ds vs → vs[i]? = some v → ∃ d, ds[i]? = some d ∧ Is K H d v
  | _, _, _, _, .nil, e => by simp at e
  | _, _, 0, _, .cons h _, e => by simp at e; subst e; exact ⟨_, rfl, h⟩
  | _, _, i + 1, v, .cons _ r, e => by
    obtain ⟨d, h1, h2⟩ := IsL.getV (i := i) (v := v) r (by simpa using e)
    exact ⟨d, by simpa using h1, h2⟩
theorem IsL.append : ∀ {ds es : List D} {vs ws : List V}, IsL K H ds vs → IsL K H es ws → IsL K H (ds ++ es) (vs ++ ws) := by
  intro ds
  induction ds with
  | nil => intro es vs ws h s; cases h; exact s
  | cons d ds ih => intro es vs ws h s; cases h with | cons i r => exact .cons i (ih r s)
theorem IsL.take : ∀ {ds : List D} {vs : List V} (n : Nat), IsL K H ds vs → IsL K H (ds.take n) (vs.take n)
  | _, _, 0, _ => .nil
  | _, _, _ + 1, .nil => .nil
  | _, _, n + 1, .cons h r => .cons h (IsL.take n r)
theorem IsL.drop : ∀ {ds : List D} {vs : List V} (n : Nat), IsL K H ds vs → IsL K H (ds.drop n) (vs.drop n)
  | _, _, 0, r => r
  | _, _, _ + 1, .nil => .nil
  | _, _, n + 1, .cons _ r => IsL.drop n r
theorem IsF.lookup : ∀ {fs : List (Str × D)} {vs : List (Str × V)} {x : Str} {d : D}, IsF K H fs vs → fs.lookup x = some d → ∃ v, vs.lookup x = some v ∧ Is K H d v
  | _, _, _, _, .nil, e => by simp at e
  | _, _, x, d, .cons (x := y) (d := d') (v := v') (ds := fs) (vs := vs) h r, e => by
    rw [List.lookup_cons] at e ⊢
    cases q : (x == y) with
    | true => rw [q] at e; simp at e; subst e; exact ⟨_, rfl, h⟩
    | false => rw [q] at e; exact IsF.lookup r e
theorem IsF.lookupNone : ∀ {fs : List (Str × D)} {vs : List (Str × V)} {x : Str}, IsF K H fs vs → fs.lookup x = none → vs.lookup x = none := by
  intro fs
  induction fs with
  | nil => intro vs x h e; cases h; rfl
  | cons f fs ih =>
    intro vs x h e
    cases h with
    | cons i r =>
      rename_i y d' v' vs
      rw [List.lookup_cons] at e ⊢
      cases q : (x == y) with
      | true => rw [q] at e; simp at e
      | false => rw [q] at e; exact ih r e
theorem IsF.length : ∀ {ds : List (Str × D)} {vs : List (Str × V)}, IsF K H ds vs → ds.length = vs.length := by
  intro ds
  induction ds with
  | nil => intro vs h; cases h; rfl
  | cons d ds ih => intro vs h; cases h with | cons _ r => exact congrArg (· + 1) (ih r)
theorem isL_ints : ∀ (ns : List Int), IsL K H (ns.map D.int) (ns.map V.int)
  | [] => .nil
  | n :: r => .cons (.int n) (isL_ints r)
end

/-- a dict: its keys ints and texts, or tuples of these -/
inductive DO where
  | k (kvs : List (Key × D)) | t (kvs : List (List Key × D))
noncomputable def DO.d : DO → D
  | .k kvs => .dk kvs
  | .t kvs => .dt kvs
noncomputable def kD : Key → D
  | .inl i => .int i
  | .inr x => .str x
inductive SV where
  | sh (d : D) | own (ds : List D) | oin (a C dx : Addr) (fs : List (Str × D)) | ow (o : DO) | tk (ks : List Key)
noncomputable abbrev Rho := List (Option SV)
noncomputable def SV.cur : SV → D
  | .sh d => d
  | .own ds => .lst ds
  | .oin _ C _ fs => .obj C fs
  | .ow o => o.d
  | .tk ks => .tup (ks.map kD)

open Classical in
noncomputable def Off (H : Hp) (O : Nat → Option Addr) : Hp := fun b => if ∃ i, O i = some b then none else H b
theorem Off.same (H : Hp) (O : Nat → Option Addr) : Same (Off H O) H := fun b o h => by
  unfold Off at h
  split at h
  · cases h
  · exact h
theorem Off.of {H : Hp} {O : Nat → Option Addr} {b : Addr} {o : HO} (h : H b = some o) (n : ∀ i, O i ≠ some b) : Off H O b = some o := by
  unfold Off
  rw [if_neg (fun ⟨i, e⟩ => n i e)]
  exact h
theorem Off.not {H : Hp} {O : Nat → Option Addr} {b : Addr} {o : HO} (h : Off H O b = some o) : ∀ i, O i ≠ some b := fun i e => by
  unfold Off at h
  rw [if_pos ⟨i, e⟩] at h
  cases h
theorem Off.mono {H H' : Hp} {O : Nat → Option Addr} (e : Same H H') : Same (Off H O) (Off H' O) := fun b o h => Off.of (e _ _ (Off.same H O b o h)) (Off.not h)
/-- fewer are hidden -/
theorem Off.less {H : Hp} {O O' : Nat → Option Addr} (e : ∀ i a, O' i = some a → ∃ j, O j = some a) : Same (Off H O) (Off H O') := fun b o h => Off.of (Off.same H O b o h) fun i q => by
  obtain ⟨j, z⟩ := e i b q
  exact Off.not h j z
/-- a hidden one is changed -/
theorem Off.upd {H : Hp} {O : Nat → Option Addr} {a : Addr} {o : HO} {i : Nat} (h : O i = some a) : Off (upd H a o) O = Off H O := by
  funext b
  unfold Off
  by_cases q : ∃ j, O j = some b
  · rw [if_pos q, if_pos q]
  · rw [if_neg q, if_neg q, upd_ne]
    intro z; subst z; exact q ⟨i, h⟩

/-- owned ones are lists and instances: data without these does not lean on them -/
noncomputable def mutO : HO → Bool
  | .lst _ => true
  | .ins _ _ _ => true
  | .dK _ => true
  | .dT _ => true
  | _ => false
noncomputable def OwnK (H : Hp) (O : Nat → Option Addr) : Prop := ∀ i a, O i = some a → ∃ w, H a = some w ∧ mutO w = true
/-- what a dict of one's own bears -/
noncomputable def IsO (K : PySem.W.Frag) (H : Hp) : DO → HO → Prop
  | .k kvs, .dK vs => IsK K H kvs vs
  | .t kvs, .dT vs => IsT K H kvs vs
  | _, _ => False
theorem IsO.mono {K : PySem.W.Frag} {H H' : Hp} (e : Same H H') {o : DO} {w : HO} (h : IsO K H o w) : IsO K H' o w := by
  cases o <;> cases w <;> first | exact False.elim h | skip
  · exact IsK.mono e h
  · exact IsT.mono e h
theorem IsO.mut {K : PySem.W.Frag} {H : Hp} {o : DO} {w : HO} (h : IsO K H o w) : mutO w = true := by
  cases o <;> cases w <;> first | exact False.elim h | rfl
theorem IsO.is {K : PySem.W.Frag} {H : Hp} {o : DO} {w : HO} {a : Addr} (ha : H a = some w) (h : IsO K H o w) : Is K H o.d (.ref a) := by
  cases o <;> cases w <;> first | exact False.elim h | skip
  · exact .dk ha h
  · exact .dt ha h
theorem is_kD {K : PySem.W.Frag} {H : Hp} (k : Key) : Is K H (kD k) (kV k) := by
  cases k
  · exact .int _
  · exact .str _
theorem isL_kD {K : PySem.W.Frag} {H : Hp} : ∀ (ks : List Key), IsL K H (ks.map kD) (ks.map kV)
  | [] => .nil
  | k :: ks => .cons (is_kD k) (isL_kD ks)
theorem OwnK.mono {H H' : Hp} {O : Nat → Option Addr} (e : Same H H') (h : OwnK H O) : OwnK H' O := fun i a q => by
  obtain ⟨w, h1, h2⟩ := h i a q
  exact ⟨w, e _ _ h1, h2⟩
noncomputable def Slot (K : PySem.W.Frag) (H : Hp) (O : Nat → Option Addr) (σ : St) (i : Nat) : SV → Prop
  | .sh d => ∃ v, σ[i]? = some (some v) ∧ Is K (Off H O) d v
  | .own ds => ∃ a vs, O i = some a ∧ σ[i]? = some (some (.ref a)) ∧ H a = some (.lst vs) ∧ IsL K (Off H O) ds vs
  | .oin a C dx fs => O i = some a ∧ σ[i]? = some (some (.ref a)) ∧ dx ≠ a ∧ (∃ vs, H a = some (.ins C dx vs) ∧ IsF K (Off H O) fs vs)
  | .ow o => ∃ a w, O i = some a ∧ σ[i]? = some (some (.ref a)) ∧ H a = some w ∧ IsO K (Off H O) o w
  | .tk ks => ∃ a, σ[i]? = some (some (.ref a)) ∧ Off H O a = some (.tup (ks.map kV))

/-- the slots' data, the entry's heap kept -/
noncomputable def Rel (K : PySem.W.Frag) (H₀ : Hp) (ρ : Rho) (σ : St) (H : Hp) : Prop :=
  ∃ O : Nat → Option Addr, (∀ i j a, O i = some a → O j = some a → i = j) ∧ OwnK H O ∧ Same H₀ (Off H O) ∧ ρ.length = σ.length ∧ ∀ i sv, ρ[i]? = some (some sv) → Slot K H O σ i sv

section
variable {K : PySem.W.Frag} {H₀ H H' : Hp} {ρ : Rho} {σ : St}
theorem Slot.mono {O : Nat → Option Addr} {i : Nat} {sv : SV} (e : Same H H') (h : Slot K H O σ i sv) : Slot K H' O σ i sv := by
  cases sv with
  | sh d => obtain ⟨v, h1, h2⟩ := h; exact ⟨v, h1, h2.mono (Off.mono e)⟩
  | own ds => obtain ⟨a, vs, h1, h2, h3, h4⟩ := h; exact ⟨a, vs, h1, h2, e _ _ h3, h4.mono (Off.mono e)⟩
  | oin a C dx fs => obtain ⟨h1, h2, h3, vs, h4, h5⟩ := h; exact ⟨h1, h2, h3, vs, e _ _ h4, h5.mono (Off.mono e)⟩
  | ow o => obtain ⟨a, w, h1, h2, h3, h4⟩ := h; exact ⟨a, w, h1, h2, e _ _ h3, h4.mono (Off.mono e)⟩
  | tk ks => obtain ⟨a, h1, h2⟩ := h; exact ⟨a, h1, Off.mono e _ _ h2⟩
theorem Rel.mono (e : Same H H') (r : Rel K H₀ ρ σ H) : Rel K H₀ ρ σ H' := by
  obtain ⟨O, h1, ho, h2, hl, h3⟩ := r
  exact ⟨O, h1, ho.mono e, h2.trans (Off.mono e), hl, fun i sv q => (h3 i sv q).mono e⟩
theorem Rel.get (r : Rel K H₀ ρ σ H) {i : Nat} {sv : SV} (q : ρ[i]? = some (some sv)) : ∃ v, σ[i]? = some (some v) ∧ Is K H sv.cur v := by
  obtain ⟨O, h1, ho, h2, hl, h3⟩ := r
  have z := h3 i sv q
  cases sv with
  | sh d => obtain ⟨v, e1, e2⟩ := z; exact ⟨v, e1, e2.mono (Off.same _ _)⟩
  | own ds => obtain ⟨a, vs, e1, e2, e3, e4⟩ := z; exact ⟨.ref a, e2, .lst (SqL.of e3) (e4.mono (Off.same _ _))⟩
  | oin a C dx fs => obtain ⟨e1, e2, e3, vs, e4, e5⟩ := z; exact ⟨.ref a, e2, .obj e4 (e5.mono (Off.same _ _))⟩
  | ow o => obtain ⟨a, w, e1, e2, e3, e4⟩ := z; exact ⟨.ref a, e2, (e4.mono (Off.same _ _)).is e3⟩
  | tk ks => obtain ⟨a, e1, e2⟩ := z; exact ⟨.ref a, e1, .tup (TQ.of (Off.same _ _ _ _ e2)) (isL_kD ks)⟩
theorem Rel.kept (r : Rel K H₀ ρ σ H) : Same H₀ H := by
  obtain ⟨O, h1, ho, h2, _⟩ := r
  exact h2.trans (Off.same _ _)
end

mutual
/-- no list, no instance within: what bears it never changes -/
noncomputable def D.imm : D → Bool
  | .non => true | .bl _ => true | .int _ => true | .str _ => true
  | .tup ds => immL ds
  | .lst _ => false
  | .obj _ _ => false
  | .dk _ => false
  | .dt _ => false
  | .exc _ => false
  | .set _ => false
noncomputable def immL : List D → Bool
  | [] => true
  | d :: ds => d.imm && immL ds
end
section
variable {K : PySem.W.Frag} {H H' : Hp}
theorem SqT.alike {a : Addr} {xs : List V} (ht : ∀ b xs, H b = some (.tup xs) → H' b = some (.tup xs)) (hf : ∀ b o u, H b = some (.frz o u) → H' b = some (.frz o u)) (h : SqT K H a xs) : SqT K H' a xs := by
  rcases h with (h | ⟨o, h⟩) | h
  · exact .inl (.inl (ht _ _ h))
  · exact .inl (.inr ⟨o, hf _ _ _ h⟩)
  · exact .inr h
theorem Is.alike (ht : ∀ b xs, H b = some (.tup xs) → H' b = some (.tup xs)) (hf : ∀ b o u, H b = some (.frz o u) → H' b = some (.frz o u)) {d : D} {v : V} (q : d.imm = true) (h : Is K H d v) : Is K H' d v :=
  Is.rec (motive_1 := fun d v _ => d.imm = true → Is K H' d v) (motive_2 := fun _ _ _ => True) (motive_3 := fun _ _ _ => True) (motive_4 := fun ds vs _ => immL ds = true → IsL K H' ds vs) (motive_5 := fun _ _ _ => True)
    (fun _ => .non) (fun b _ => .bl b) (fun i _ => .int i) (fun x _ => .str x) (fun h _ r q => .tup (ht _ _ h) (r q)) (fun _ _ _ q => Bool.noConfusion (show false = true from q)) (fun _ _ _ q => Bool.noConfusion (show false = true from q)) (fun _ _ _ q => Bool.noConfusion (show false = true from q)) (fun _ _ _ q => Bool.noConfusion (show false = true from q)) (fun _ q => Bool.noConfusion (show false = true from q)) (fun _ q => Bool.noConfusion (show false = true from q))
    trivial (fun _ _ _ _ => trivial) trivial (fun _ _ _ _ => trivial) (fun _ => .nil) (fun _ _ i r q => .cons (i (Bool.and_eq_true_iff.mp q).1) (r (Bool.and_eq_true_iff.mp q).2)) trivial (fun _ _ _ _ => trivial) h q
theorem IsL.alike (ht : ∀ b xs, H b = some (.tup xs) → H' b = some (.tup xs)) (hf : ∀ b o u, H b = some (.frz o u) → H' b = some (.frz o u)) : ∀ {ds : List D} {vs : List V}, immL ds = true → IsL K H ds vs → IsL K H' ds vs := by
  intro ds
  induction ds with
  | nil => intro vs q h; cases h; exact .nil
  | cons d ds ih =>
    intro vs q h
    rw [immL, Bool.and_eq_true] at q
    cases h with | cons i r => exact .cons (Is.alike ht hf q.1 i) (ih q.2 r)
theorem off_imm {O : Nat → Option Addr} (ho : OwnK H O) {d : D} {v : V} (q : d.imm = true) (h : Is K H d v) : Is K (Off H O) d v := by
  refine Is.alike (fun b xs e => Off.of e fun i z => ?_) (fun b o u e => Off.of e fun i z => ?_) q h
  · obtain ⟨u, w, m⟩ := ho i b z; rw [w] at e; cases e; cases m
  · obtain ⟨u, w, m⟩ := ho i b z; rw [w] at e; cases e; cases m
theorem offL_imm {O : Nat → Option Addr} (ho : OwnK H O) {ds : List D} {vs : List V} (q : immL ds = true) (h : IsL K H ds vs) : IsL K (Off H O) ds vs := by
  refine IsL.alike (fun b xs e => Off.of e fun i z => ?_) (fun b o u e => Off.of e fun i z => ?_) q h
  · obtain ⟨u, w, m⟩ := ho i b z; rw [w] at e; cases e; cases m
  · obtain ⟨u, w, m⟩ := ho i b z; rw [w] at e; cases e; cases m
end
end L2.PU

namespace L2.PU
open PySem PySem.Spec PyProof.Rows

/-- what a part comes to: nothing is known; an exception of the class at that address; a thing -/
noncomputable abbrev M (α : Type) := Option (Except Addr α)
noncomputable def ok {α : Type} (a : α) : M α := some (.ok a)
noncomputable def err {α : Type} (c : Addr) : M α := some (.error c)
noncomputable def bnd {α β : Type} (m : M α) (k : α → M β) : M β := match m with
  | none => none
  | some (.error c) => some (.error c)
  | some (.ok a) => k a
@[simp] theorem bnd_ok {α β : Type} (a : α) (k : α → M β) : bnd (ok a) k = k a := rfl
@[simp] theorem bnd_err {α β : Type} (c : Addr) (k : α → M β) : bnd (err c : M α) k = err c := rfl
@[simp] theorem bnd_none {α β : Type} (k : α → M β) : bnd (none : M α) k = none := rfl
theorem ok_inj {α : Type} {a b : α} (h : ok a = ok b) : a = b := by cases h; rfl
theorem bnd_eq_ok {α β : Type} {m : M α} {k : α → M β} {b : β} (h : bnd m k = ok b) : ∃ a, m = ok a ∧ k a = ok b := by
  unfold bnd at h
  split at h
  · cases h
  · cases h
  · exact ⟨_, rfl, h⟩

/-- an exception of the class at c, behind a call that began at s: its own cells stand apart from Bs, which holds all that stood at s (as it is now, but the frames) and all that is tracked -/
noncomputable def Fly (P : Program) (w : World) (outer : List Env) (s : Shared) (ea c : Addr) (H' : Hp) (s' : Shared) : Prop :=
  ∃ Bs a0, Heap.FlyingW Bs outer ea (.ref c) a0 s'.heap ∧ (∀ b o o', s.heap.get? b = some o' → b ∉ frs outer → s'.heap.get? b = some o → Bs.get? b = some o) ∧ HOk P w H' Bs
/-- the exception e, of the class at c, lies in the state: made here, or come from a call -/
noncomputable def Exc (X : Cx) (pins : List (Addr × Obj)) (σ : St) (H : Hp) (c : Addr) (e : Value) (s : Shared) : Prop := ∃ ea, e = .ref ea ∧
  ((∃ h args, Heap.MadeExcOf h s.heap ea (.ref c) args ∧ Inv X pins σ H { s with heap := h }) ∨
   (∃ s1 H1, Inv X pins σ H1 s1 ∧ s.os = s1.os ∧ AllBare s.gens ∧ Un (frs X.stack) [] H1 H s1.heap s.heap ∧ Fly X.prog X.w X.stack s1 ea c H s))
/-- an exception of that class may leave -/
noncomputable def Thr (X : Cx) (σ : St) (H : Hp) (c : Addr) : Prop := ∀ (pins : List (Addr × Obj)) (s : Shared) (H' : Hp) (e : Value), Same H H' → Exc X pins σ H' c e s → X.xe e s
theorem Thr.mono {X : Cx} {σ : St} {H H' : Hp} {c : Addr} (e : Same H H') (t : Thr X σ H c) : Thr X σ H' c := fun pins s H2 ev q x => t pins s H2 ev (e.trans q) x

noncomputable def Res {α : Type} (X : Cx) (σ : St) (H : Hp) (Q : α → Prop) (m : M α) : Prop := match m with
  | none => False
  | some (.error c) => Thr X σ H c
  | some (.ok a) => Q a
theorem Res.bind {α β : Type} {X : Cx} {σ : St} {H : Hp} {Q : β → Prop} {m : M α} {k : α → M β} (h : Res X σ H Q (bnd m k)) : Res X σ H (fun a => Res X σ H Q (k a)) m := by
  unfold bnd at h
  split at h
  · exact h
  · exact h
  · exact h
theorem Res.mono {α : Type} {X : Cx} {σ : St} {H H' : Hp} {Q Q' : α → Prop} {m : M α} (e : Same H H') (h : Res X σ H Q m) (i : ∀ a, Q a → Q' a) : Res X σ H' Q' m := by
  unfold Res at *
  split at h
  · exact h
  · exact Thr.mono e h
  · exact i _ h
theorem Res.imp {α : Type} {X : Cx} {σ : St} {H : Hp} {Q Q' : α → Prop} {m : M α} (h : Res X σ H Q m) (i : ∀ a, Q a → Q' a) : Res X σ H Q' m := h.mono (Same.refl H) i

/-- an expression's reading by data; a test's; an argument list's -/
noncomputable def tD (X : Cx) (B : Hp) (f : Rho → M D) : TE := fun σ H Q => ∃ ρ, Rel X.K B ρ σ H ∧ Res X σ H (fun d => ∀ v H', Same H H' → Is X.K H' d v → Q v H') (f ρ)
noncomputable def tDT (X : Cx) (B : Hp) (f : Rho → M Bool) : TT := fun σ H Q => ∃ ρ, Rel X.K B ρ σ H ∧ Res X σ H (fun b => ∀ H', Same H H' → Q b H') (f ρ)
noncomputable def tDA (X : Cx) (B : Hp) (f : Rho → M (List D)) : TA := fun σ H Q => ∃ ρ, Rel X.K B ρ σ H ∧ Res X σ H (fun ds => ∀ vs H', Same H H' → IsL X.K H' ds vs → Q vs H') (f ρ)
noncomputable abbrev PD (X : Cx) (B : Hp) (e : Expr) (f : Rho → M D) : Prop := PE X e (tD X B f)
noncomputable abbrev PDT (X : Cx) (B : Hp) (e : Expr) (f : Rho → M Bool) : Prop := PT X e (tDT X B f)
noncomputable abbrev PDW (X : Cx) (B : Hp) (e : Expr) (f : Rho → M Bool) : Prop := PW X e (tDT X B f)
noncomputable abbrev PDA (X : Cx) (B : Hp) (es : List Expr) (f : Rho → M (List D)) : Prop := PA X es (tDA X B f)

section
variable {X : Cx} {B : Hp} {e a b c : Expr} {es : List Expr} {pos : Pos}
theorem PE.of {t t' : TE} (h : PE X e t) (i : ∀ σ H Q, t' σ H Q → t σ H Q) : PE X e t' := fun pins s σ H Q I q => h pins s σ H Q I (i σ H Q q)
theorem PT.of {t t' : TT} (h : PT X e t) (i : ∀ σ H Q, t' σ H Q → t σ H Q) : PT X e t' := fun pins s σ H Q I q => h pins s σ H Q I (i σ H Q q)
theorem PW.of {t t' : TT} (h : PW X e t) (i : ∀ σ H Q, t' σ H Q → t σ H Q) : PW X e t' := fun wh pins s σ H Q I q => h wh pins s σ H Q I (i σ H Q q)
theorem PA.of {t t' : TA} (h : PA X es t) (i : ∀ σ H Q, t' σ H Q → t σ H Q) : PA X es t' := fun pos pins s σ H Q I q => h pos pins s σ H Q I (i σ H Q q)

/-! ### names, constants -/
noncomputable def look (i : Nat) : Rho → M D := fun ρ => match ρ[i]? with
  | some (some sv) => ok sv.cur
  | _ => none
theorem pd_var (i : Nat) {x : Str} {pos : Pos} (hN : X.N[i]? = some x := by rfl) (hv : Vis X.env.scope x := by first | exact Or.inl rfl | exact Or.inr (Or.inl rfl) | exact Or.inr (Or.inr rfl)) (hd : (x == ("__debug__" : Str)) = false := by decide)
    (hcd : (x == ("__classdict__" : Str)) = false := by decide) : PD X B (.Name x pos) (look i) := by
  refine PE.of (pe_var hN hv hd hcd) fun σ H Q h => ?_
  obtain ⟨ρ, r, h⟩ := h
  unfold look at h
  split at h
  · rename_i sv q
    obtain ⟨v, e1, e2⟩ := r.get q
    exact ⟨v, e1, h v H (Same.refl H) e2⟩
  · exact False.elim h
noncomputable def con (d : D) : Rho → M D := fun _ => ok d
theorem pd_int {i j pos} : PD X B (.Constant (.int i) j pos) (con (.int i)) := PE.of pe_int fun σ H Q ⟨ρ, r, h⟩ => h _ H (Same.refl H) (.int i)
theorem pd_bl {i j pos} : PD X B (.Constant (.bool i) j pos) (con (.bl i)) := PE.of pe_bl fun σ H Q ⟨ρ, r, h⟩ => h _ H (Same.refl H) (.bl i)
theorem pd_non {j pos} : PD X B (.Constant .none j pos) (con .non) := PE.of pe_non fun σ H Q ⟨ρ, r, h⟩ => h _ H (Same.refl H) .non
theorem pd_str {x j pos} : PD X B (.Constant (.str x) j pos) (con (.str x)) := PE.of pe_str fun σ H Q ⟨ρ, r, h⟩ => h _ H (Same.refl H) (.str x)

/-! ### two-place operations -/
noncomputable def b2 (g : D → D → M D) (fa fb : Rho → M D) : Rho → M D := fun ρ => bnd (fa ρ) fun x => bnd (fb ρ) fun y => g x y
noncomputable def R2ok (X : Cx) (r : R2) (g : D → D → M D) : Prop := ∀ (H : Hp) (x y : V) (dx dy d : D) (Q : VK), Is X.K H dx x → Is X.K H dy y → g dx dy = ok d → (∀ v H', Same H H' → Is X.K H' d v → Q v H') → r x y H Q
noncomputable def NoErr {α β : Type} (g : α → β → M D) : Prop := ∀ x y c, g x y ≠ err c
variable {fa fb fc : Rho → M D}
theorem b2_red {r : R2} {g : D → D → M D} (hg : R2ok X r g) (hn : NoErr g) {σ : St} {H : Hp} {Q : VK} (h : tD X B (b2 g fa fb) σ H Q) : tOp r (tD X B fa) (tD X B fb) σ H Q := by
  obtain ⟨ρ, r1, h⟩ := h
  refine ⟨ρ, r1, (Res.bind h).imp fun dx h1 v H1 e1 i1 => ⟨ρ, r1.mono e1, (Res.bind h1).mono e1 fun dy h2 u H2 e2 i2 => ?_⟩⟩
  cases q : g dx dy with
  | none => rw [q] at h2; exact False.elim h2
  | some z =>
    cases z with
    | error c => exact absurd q (hn dx dy c)
    | ok d =>
      rw [q] at h2
      exact hg H2 v u dx dy d Q (i1.mono e2) i2 q fun w H3 e3 i3 => h2 w H3 ((e1.trans e2).trans e3) i3
theorem pd_op {op : Operator} {r : R2} {g : D → D → M D} (ho : OpR X (binaryOp op) r) (hg : R2ok X r g) (hn : NoErr g) (ha : PD X B a fa) (hb : PD X B b fb) : PD X B (.BinOp a op b pos) (b2 g fa fb) :=
  PE.of (pe_op ho ha hb) fun _ _ _ h => b2_red hg hn h
theorem pd_cmp {op : CmpOp} {r : R2} {g : D → D → M D} (ho : OpR X (compareOp op) r) (hg : R2ok X r g) (hn : NoErr g) (ha : PD X B a fa) (hb : PD X B b fb) (hm : behindInMarks op b = false) : PD X B (.Compare a [op] [b] pos) (b2 g fa fb) :=
  PE.of (pe_cmpR ho ha hb hm) fun _ _ _ h => b2_red hg hn h
/-- a bool's own truth -/
noncomputable def tru : D → M Bool
  | .non => ok false
  | .bl b => ok b
  | .int i => ok (i != 0)
  | .tup ds => ok (!ds.isEmpty)
  | .lst ds => ok (!ds.isEmpty)
  | _ => none
noncomputable def blOf : D → M Bool
  | .bl b => ok b
  | _ => none
noncomputable def test (f : Rho → M D) : Rho → M Bool := fun ρ => bnd (f ρ) tru
noncomputable def testB (f : Rho → M D) : Rho → M Bool := fun ρ => bnd (f ρ) blOf
theorem pdt_cmp {op : CmpOp} {r : R2} {g : D → D → M D} (ho : OpR X (compareOp op) r) (hg : R2ok X r g) (hn : NoErr g) (ha : PD X B a fa) (hb : PD X B b fb) (hm : behindInMarks op b = false) : PDT X B (.Compare a [op] [b] pos) (testB (b2 g fa fb)) := by
  refine PT.of (pt_cmpR ho ha hb hm) fun σ H Q h => ?_
  obtain ⟨ρ, r1, h⟩ := h
  refine b2_red hg hn ⟨ρ, r1, (Res.bind h).imp fun d h1 v H1 e1 i1 => ?_⟩
  unfold blOf at h1
  split at h1
  · rename_i k
    cases i1
    exact ⟨k, rfl, h1 H1 e1⟩
  · exact False.elim h1
theorem isEmpty_isL {K : PySem.W.Frag} {H : Hp} {ds : List D} {vs : List V} (r : IsL K H ds vs) : vs.isEmpty = ds.isEmpty := by cases r <;> rfl
theorem tru_V {K : PySem.W.Frag} {H : Hp} {d : D} {v : V} {k : Bool} (i : Is K H d v) (h : tru d = ok k) : TruV K v H k := by
  cases i with
  | non => exact (ok_inj h).symm
  | bl b => exact (ok_inj h).symm
  | int i => exact (ok_inj h).symm
  | str x => exact absurd h (by simp [tru, ok])
  | tup h1 r => exact .inr (.inl ⟨_, h1, by rw [isEmpty_isL r]; exact (ok_inj h).symm⟩)
  | lst h1 r => exact .inl ⟨_, h1, by rw [isEmpty_isL r]; exact (ok_inj h).symm⟩
  | obj h1 r => exact absurd h (by simp [tru, ok])
  | dk h1 r => exact absurd h (by simp [tru, ok])
  | dt h1 r => exact absurd h (by simp [tru, ok])
  | exc h1 => exact absurd h (by simp [tru, ok])
  | set h1 => exact absurd h (by simp [tru, ok])
theorem tru_noerr (d : D) (c : Addr) : tru d ≠ err c := by cases d <;> simp [tru, ok, err]
/-- a value as a test (a name, a call, an index, a field) -/
theorem pdt_val (ha : PD X B a fa) (he : ∀ whole, isTrue a X.env whole = (do let v ← whole; standAt a.pos; holding [v] (truthy v)) := by intro _; rfl) : PDT X B a (test fa) := by
  refine PT.of (pt_truth ha he) fun σ H Q h => ?_
  obtain ⟨ρ, r1, h⟩ := h
  refine ⟨ρ, r1, (Res.bind h).imp fun d h1 v H1 e1 i1 => ?_⟩
  cases q : tru d with
  | none => rw [q] at h1; exact False.elim h1
  | some z =>
    cases z with
    | error c => exact absurd q (tru_noerr d c)
    | ok k => rw [q] at h1; exact ⟨k, tru_V i1 q, h1 H1 e1⟩
/-! ### and, or, not -/
variable {ta tb tc : Rho → M Bool} {rest : List Expr}
noncomputable def orB (f g : Rho → M Bool) : Rho → M Bool := fun ρ => bnd (f ρ) fun x => if x = true then ok true else g ρ
noncomputable def notB (f : Rho → M Bool) : Rho → M Bool := fun ρ => bnd (f ρ) fun x => ok (!x)
theorem pdw_or1 (ha : PDT X B a ta) : PDW X B (.BoolOp .Or [a] pos) ta := pw_or1 ha
theorem pdw_or (ha : PDT X B a ta) (hb : PDW X B (.BoolOp .Or (b :: rest) pos) tb) : PDW X B (.BoolOp .Or (a :: b :: rest) pos) (orB ta tb) := by
  refine PW.of (pw_or ha hb) fun σ H Q h => ?_
  obtain ⟨ρ, r1, h⟩ := h
  refine ⟨ρ, r1, (Res.bind h).imp fun x h1 H1 e1 => ?_⟩
  cases x with
  | false => exact ⟨ρ, r1.mono e1, Res.mono e1 h1 fun y q H2 e2 => q H2 (e1.trans e2)⟩
  | true => exact h1 H1 e1
theorem PDW.pdt {f : Rho → M Bool} (h : PDW X B e f) : PDT X B e f := h.pt
theorem pdt_not (ha : PDT X B a ta) : PDT X B (.UnaryOp .Not a pos) (notB ta) := by
  refine PT.of (pt_not ha) fun σ H Q h => ?_
  obtain ⟨ρ, r1, h⟩ := h
  exact ⟨ρ, r1, (Res.bind h).imp fun x h1 H1 e1 => h1 H1 e1⟩
/-- .. as values; each but the last is a bool -/
noncomputable def andV (f g : Rho → M D) : Rho → M D := fun ρ => bnd (f ρ) fun x => bnd (blOf x) fun k => if k = true then g ρ else ok (.bl false)
noncomputable def notV (f : Rho → M D) : Rho → M D := fun ρ => bnd (f ρ) fun x => bnd (blOf x) fun k => ok (.bl (!k))
theorem blOf_res {σ : St} {H : Hp} {Q : Bool → Prop} {d : D} (h : Res X σ H Q (blOf d)) : ∃ k, d = .bl k ∧ Q k := by
  unfold blOf at h
  split at h
  · exact ⟨_, rfl, h⟩
  · exact False.elim h
theorem pd_one {op} (h : PD X B a fa) : PD X B (.BoolOp op [a] pos) fa := pe_one h
theorem pd_and (ha : PD X B a fa) (hb : PD X B (.BoolOp .And (b :: rest) pos) fb) : PD X B (.BoolOp .And (a :: b :: rest) pos) (andV fa fb) := by
  refine PE.of (pe_and ha hb) fun σ H Q h => ?_
  obtain ⟨ρ, r1, h⟩ := h
  refine ⟨ρ, r1, (Res.bind h).imp fun d h1 v H1 e1 i1 => ?_⟩
  obtain ⟨k, rfl, h2⟩ := blOf_res (Res.bind h1)
  cases i1
  refine ⟨k, rfl, ?_⟩
  cases k with
  | true => exact ⟨ρ, r1.mono e1, Res.mono e1 h2 fun y q u H2 e2 i2 => q u H2 (e1.trans e2) i2⟩
  | false => exact h2 _ H1 e1 (.bl false)
theorem pd_not (ha : PD X B a fa) : PD X B (.UnaryOp .Not a pos) (notV fa) := by
  refine PE.of (pe_not ha) fun σ H Q h => ?_
  obtain ⟨ρ, r1, h⟩ := h
  refine ⟨ρ, r1, (Res.bind h).imp fun d h1 v H1 e1 i1 => ?_⟩
  obtain ⟨k, rfl, h2⟩ := blOf_res (Res.bind h1)
  cases i1
  exact ⟨k, rfl, h2 _ H1 e1 (.bl _)⟩
/-! ### argument lists, tuples, lists -/
noncomputable def nostar : Expr → Bool
  | .Starred .. => false
  | _ => true
theorem star_ok {e : Expr} {es : List Expr} {env : Env} (h : nostar e = true) : starEach (e :: es) env = (false, eval e env) :: starEach es env := by
  cases e <;> first | rfl | cases h
theorem star1 {e : Expr} {env : Env} (h : nostar e = true) : starEach [e] env = [(false, eval e env)] := star_ok h
theorem star2 {e f : Expr} {env : Env} (h : nostar e = true) (h' : nostar f = true) : starEach [e, f] env = [(false, eval e env), (false, eval f env)] := by rw [star_ok h, star1 h']
noncomputable def aNil : Rho → M (List D) := fun _ => ok []
noncomputable def aCons (f : Rho → M D) (g : Rho → M (List D)) : Rho → M (List D) := fun ρ => bnd (f ρ) fun x => bnd (g ρ) fun xs => ok (x :: xs)
variable {ga : Rho → M (List D)}
theorem pda_nil : PDA X B [] aNil := PA.of pa_nil fun σ H Q ⟨ρ, r, h⟩ => h [] H (Same.refl H) .nil
theorem pda_cons (ha : PD X B e fa) (hr : PDA X B es ga) (hs : starEach (e :: es) X.env = (false, eval e X.env) :: starEach es X.env := by exact star_ok rfl) : PDA X B (e :: es) (aCons fa ga) := by
  refine PA.of (pa_cons ha hr hs) fun σ H Q h => ?_
  obtain ⟨ρ, r1, h⟩ := h
  refine ⟨ρ, r1, (Res.bind h).imp fun d h1 v H1 e1 i1 => ⟨ρ, r1.mono e1, (Res.bind h1).mono e1 fun ds h2 vs H2 e2 i2 => ?_⟩⟩
  exact h2 (v :: vs) H2 (e1.trans e2) (.cons (i1.mono e2) i2)
theorem same_new {H : Hp} {p : Addr} (h : H p = none) (o : HO) : Same H (upd H p o) := fun b u q => by rw [upd_ne (ne_of_none q h)]; exact q
noncomputable def mkT (g : Rho → M (List D)) : Rho → M D := fun ρ => bnd (g ρ) fun ds => if ds.length ≤ 1000 then ok (.tup ds) else none
theorem le_line {n : Nat} (h : n ≤ 1000) : n ≤ sizeLine := Nat.le_of_lt (small1000 h)
theorem pd_tup {x1} (h : PDA X B es ga) : PD X B (.Tuple es x1 pos) (mkT ga) := by
  refine PE.of (pe_tup h) fun σ H Q h => ?_
  obtain ⟨ρ, r1, h⟩ := h
  refine ⟨ρ, r1, (Res.bind h).imp fun ds h1 vs H1 e1 i1 => ?_⟩
  by_cases hl : ds.length ≤ 1000
  · rw [if_pos hl] at h1
    exact ⟨by rw [← i1.length]; exact le_line hl, fun p hp => h1 _ _ (e1.trans (same_new hp _)) (.tup (TQ.of upd_same) (i1.mono (same_new hp _)))⟩
  · rw [if_neg hl] at h1; exact False.elim h1
end
end L2.PU

namespace L2.PU
open PySem PySem.Spec PyProof.Rows

noncomputable def mulB (i j : Int) : Bool := decide (Builtin.Int.intBits i ≤ 1048576) && decide (Builtin.Int.intBits j ≤ 1048576)
noncomputable def gMul : D → D → M D
  | .int i, .int j => if mulB i j = true then ok (.int (i * j)) else none
  | _, _ => none
noncomputable def gFdiv : D → D → M D
  | .int i, .int j => if 0 < j ∧ j < 1073741824 then ok (.int (i / j)) else none
  | _, _ => none
noncomputable def gMod : D → D → M D
  | .int i, .int j => if 0 < j then ok (.int (i % j)) else none
  | _, _ => none
noncomputable def gPow : D → D → M D
  | .int i, .int j => if 0 ≤ j ∧ j ≤ 1000 ∧ i.natAbs < 1000 then ok (.int (i ^ j.toNat)) else none
  | _, _ => none
section
variable {X : Cx} {B : Hp} {a b : Expr} {fa fb : Rho → M D} {pos : Pos}
theorem mulB_ok {i j : Int} (h : mulB i j = true) : IntMulOk i j := by
  unfold mulB at h
  rw [Bool.and_eq_true] at h
  exact IntMulOk.of_bits (of_decide_eq_true h.1) (of_decide_eq_true h.2)
theorem op_mulB : OpR X (binaryOp .Mult) (rI (fun i j => mulB i j = true) fun i j => .int (i * j)) := opI fun _ _ _ _ _ _ _ hc q => mul_int q (mulB_ok hc)
theorem r_int {C : Int → Int → Prop} {h : Int → Int → Int} {g : D → D → M D} (hg : ∀ dx dy d, g dx dy = ok d → ∃ i j, dx = .int i ∧ dy = .int j ∧ C i j ∧ d = .int (h i j)) : R2ok X (rI C fun i j => .int (h i j)) g := by
  intro H x y dx dy d Q ix iy e q
  obtain ⟨i, j, rfl, rfl, c, rfl⟩ := hg _ _ _ e
  cases ix; cases iy
  exact ⟨i, j, rfl, rfl, c, q _ H (Same.refl H) (.int _)⟩
theorem pd_fdiv (ha : PD X B a fa) (hb : PD X B b fb) : PD X B (.BinOp a .FloorDiv b pos) (b2 gFdiv fa fb) :=
  pd_op op_fdiv (r_int fun dx dy d e => by
    unfold gFdiv at e
    split at e <;> first | (cases e; done) | skip
    split at e
    · rename_i h; exact ⟨_, _, rfl, rfl, h, (ok_inj e).symm⟩
    · exact nomatch e) (by intro x y c h; unfold gFdiv at h; (repeat' split at h) <;> cases h) ha hb
theorem pd_mod (ha : PD X B a fa) (hb : PD X B b fb) : PD X B (.BinOp a .Mod b pos) (b2 gMod fa fb) :=
  pd_op op_mod (r_int fun dx dy d e => by
    unfold gMod at e
    split at e <;> first | (cases e; done) | skip
    split at e
    · rename_i h; exact ⟨_, _, rfl, rfl, h, (ok_inj e).symm⟩
    · exact nomatch e) (by intro x y c h; unfold gMod at h; (repeat' split at h) <;> cases h) ha hb
theorem pd_pow (ha : PD X B a fa) (hb : PD X B b fb) : PD X B (.BinOp a .Pow b pos) (b2 gPow fa fb) :=
  pd_op op_pow (r_int fun dx dy d e => by
    unfold gPow at e
    split at e <;> first | (cases e; done) | skip
    split at e
    · rename_i h; exact ⟨_, _, rfl, rfl, ⟨h.1, by omega, by have := h.2.2; omega⟩, (ok_inj e).symm⟩
    · exact nomatch e) (by intro x y c h; unfold gPow at h; (repeat' split at h) <;> cases h) ha hb

/-! ### comparisons -/
noncomputable def gLt : D → D → M D
  | .int i, .int j => ok (.bl (decide (i < j)))
  | _, _ => none
noncomputable def gGe : D → D → M D
  | .int i, .int j => ok (.bl (decide (j ≤ i)))
  | _, _ => none
/-- == of flat data -/
noncomputable def eqF : D → D → Option Bool
  | .non, .non => some true
  | .non, .int _ => some false
  | .int _, .non => some false
  | .non, .bl _ => some false
  | .bl _, .non => some false
  | .non, .str _ => some false
  | .str _, .non => some false
  | .int i, .int j => some (decide (i = j))
  | .bl i, .bl j => some (decide (i = j))
  | .str i, .str j => some (decide (i = j))
  | .int _, .str _ => some false
  | .str _, .int _ => some false
  | .bl _, .str _ => some false
  | .str _, .bl _ => some false
  | _, _ => none
noncomputable def gEq (x y : D) : M D := match eqF x y with
  | some b => ok (.bl b)
  | none => none
noncomputable def gNe (x y : D) : M D := match eqF x y with
  | some b => ok (.bl (!b))
  | none => none
noncomputable def isNon : D → Bool
  | .non => true
  | _ => false
noncomputable def gIs : D → D → M D
  | x, .non => ok (.bl (isNon x))
  | _, _ => none
theorem r_intB {h : Int → Int → Bool} {g : D → D → M D} (hg : ∀ dx dy d, g dx dy = ok d → ∃ i j, dx = .int i ∧ dy = .int j ∧ d = .bl (h i j)) : R2ok X (rI0 fun i j => .bl (h i j)) g := by
  intro H x y dx dy d Q ix iy e q
  obtain ⟨i, j, rfl, rfl, rfl⟩ := hg _ _ _ e
  cases ix; cases iy
  exact ⟨i, j, rfl, rfl, q _ H (Same.refl H) (.bl _)⟩
theorem r_lt : R2ok X (rI0 fun i j => .bl (decide (i < j))) gLt := r_intB fun dx dy d e => by
    unfold gLt at e
    split at e <;> first | (cases e; done) | exact ⟨_, _, rfl, rfl, (ok_inj e).symm⟩
theorem r_ge : R2ok X (rI0 fun i j => .bl (decide (j ≤ i))) gGe := r_intB fun dx dy d e => by
    unfold gGe at e
    split at e <;> first | (cases e; done) | exact ⟨_, _, rfl, rfl, (ok_inj e).symm⟩
theorem n_lt : NoErr gLt := by intro x y c h; unfold gLt at h; split at h <;> cases h
theorem n_ge : NoErr gGe := by intro x y c h; unfold gGe at h; split at h <;> cases h
theorem n_is : NoErr gIs := by intro x y c; cases y <;> (intro h; exact nomatch h)
theorem n_eq : NoErr gEq := by intro x y c h; unfold gEq at h; split at h <;> exact nomatch h
theorem n_ne : NoErr gNe := by intro x y c h; unfold gNe at h; split at h <;> exact nomatch h
theorem eqF_V {K : PySem.W.Frag} {H : Hp} {dx dy : D} {x y : V} {b : Bool} (ix : Is K H dx x) (iy : Is K H dy y) (e : eqF dx dy = some b) : scal x y = true ∧ decide (x = y) = b := by
  cases ix with
  | non => cases iy <;> first | (cases e; done) | (have e' := Option.some.inj e; subst e'; exact ⟨rfl, by simp⟩)
  | bl => cases iy <;> first | (cases e; done) | (have e' := Option.some.inj e; subst e'; exact ⟨rfl, by simp⟩)
  | int => cases iy <;> first | (cases e; done) | (have e' := Option.some.inj e; subst e'; exact ⟨rfl, by simp⟩)
  | str => cases iy <;> first | (cases e; done) | (have e' := Option.some.inj e; subst e'; exact ⟨rfl, by simp⟩)
  | _ => exact nomatch e
theorem r_eq : R2ok X rEq gEq := by
  intro H x y dx dy d Q ix iy e q
  unfold gEq at e
  split at e
  · rename_i b hb
    obtain ⟨h1, h2⟩ := eqF_V ix iy hb
    have e' := ok_inj e; subst e'
    exact ⟨h1, by rw [h2]; exact q _ H (Same.refl H) (.bl _)⟩
  · exact nomatch e
theorem r_ne : R2ok X rNe gNe := by
  intro H x y dx dy d Q ix iy e q
  unfold gNe at e
  split at e
  · rename_i b hb
    obtain ⟨h1, h2⟩ := eqF_V ix iy hb
    have e' := ok_inj e; subst e'
    exact ⟨h1, by rw [h2]; exact q _ H (Same.refl H) (.bl _)⟩
  · exact nomatch e
theorem isNon_V {K : PySem.W.Frag} {H : Hp} {dx : D} {x : V} (ix : Is K H dx x) : decide (x = V.non) = isNon dx := by
  cases ix <;> simp [isNon]
theorem r_is : R2ok X (fun x y H Q => y = .non ∧ Q (.bl (decide (x = .non))) H) gIs := by
  intro H x y dx dy d Q ix iy e q
  cases iy <;> first | (cases e; done) | skip
  have e' := ok_inj e; subst e'
  exact ⟨rfl, by rw [isNon_V ix]; exact q _ H (Same.refl H) (.bl _)⟩
theorem pd_ge (ha : PD X B a fa) (hb : PD X B b fb) : PD X B (.Compare a [.GtE] [b] pos) (b2 gGe fa fb) := pd_cmp op_ge r_ge n_ge ha hb (nomark _)
theorem pd_eq (ha : PD X B a fa) (hb : PD X B b fb) : PD X B (.Compare a [.Eq] [b] pos) (b2 gEq fa fb) := pd_cmp op_eq r_eq n_eq ha hb (nomark _)
theorem pd_is (ha : PD X B a fa) (hb : PD X B b fb) : PD X B (.Compare a [.Is] [b] pos) (b2 gIs fa fb) := pd_cmp op_isN r_is n_is ha hb (nomark _)
theorem pdt_lt (ha : PD X B a fa) (hb : PD X B b fb) : PDT X B (.Compare a [.Lt] [b] pos) (testB (b2 gLt fa fb)) := pdt_cmp op_lt r_lt n_lt ha hb (nomark _)
theorem pdt_eq (ha : PD X B a fa) (hb : PD X B b fb) : PDT X B (.Compare a [.Eq] [b] pos) (testB (b2 gEq fa fb)) := pdt_cmp op_eq r_eq n_eq ha hb (nomark _)
theorem pdt_ne (ha : PD X B a fa) (hb : PD X B b fb) : PDT X B (.Compare a [.NotEq] [b] pos) (testB (b2 gNe fa fb)) := pdt_cmp op_ne r_ne n_ne ha hb (nomark _)
theorem pdt_is (ha : PD X B a fa) (hb : PD X B b fb) : PDT X B (.Compare a [.Is] [b] pos) (testB (b2 gIs fa fb)) := pdt_cmp op_isN r_is n_is ha hb (nomark _)
/-! ### an item, a slice -/
noncomputable def gIx : D → D → M D
  | .lst ds, .int i => match atI ds i with | some d => ok d | none => none
  | .tup ds, .int i => match atI ds i with | some d => ok d | none => none
  | .str z, .int i => if z.length ≤ 1000 then (match atI z.cps.toList i with | some c => ok (.str ⟨#[c]⟩) | none => none) else none
  | _, _ => none
theorem n_ix : NoErr gIx := by intro x y c h; unfold gIx at h; (repeat' split at h) <;> cases h
theorem atI_isL {K : PySem.W.Frag} {H : Hp} {ds : List D} {vs : List V} {i : Int} {d : D} (r : IsL K H ds vs) (e : atI ds i = some d) : ∃ v, atI vs i = some v ∧ Is K H d v := by
  unfold atI at e ⊢
  rw [r.length] at e
  cases q : ixN vs.length i with
  | none => rw [q] at e; exact nomatch e
  | some j => rw [q] at e; exact r.get e
theorem r_ix : R2ok X (rIx X.K) gIx := by
  intro H x y dx dy d Q ix iy e q
  unfold gIx at e
  split at e
  · split at e
    · rename_i d' hd
      cases ix with
      | lst h r =>
        cases iy
        have e' := ok_inj e; subst e'
        obtain ⟨v, h1, h2⟩ := atI_isL r hd
        exact .inl ⟨_, _, _, v, rfl, rfl, h, h1, q _ H (Same.refl H) h2⟩
    · cases e
  · split at e
    · rename_i d' hd
      cases ix with
      | tup h r =>
        cases iy
        have e' := ok_inj e; subst e'
        obtain ⟨v, h1, h2⟩ := atI_isL r hd
        exact .inr (.inl ⟨_, _, _, v, rfl, rfl, h, h1, q _ H (Same.refl H) h2⟩)
    · cases e
  · split at e
    · rename_i hz
      split at e
      · rename_i c hc
        cases ix; cases iy
        have e' := ok_inj e; subst e'
        exact .inr (.inr ⟨_, _, c, rfl, rfl, Nat.le_trans hz (by decide), hc, q _ H (Same.refl H) (.str _)⟩)
      · cases e
    · cases e
  · cases e
theorem pd_ix (ha : PD X B a fa) (hb : PD X B b fb) (hs : PlainIx b) : PD X B (.Subscript a b pos) (b2 gIx fa fb) := PE.of (pe_ix ix_seq ha hb hs) fun _ _ _ h => b2_red r_ix n_ix h

/-! ### slices of lists (a part: left out, or an int) -/
noncomputable def oPart (f : Rho → M D) : Rho → M (Option Int) := fun ρ => bnd (f ρ) fun d => match d with | .int i => ok (some i) | _ => none
noncomputable def oNone : Rho → M (Option Int) := fun _ => ok none
noncomputable def tDO (X : Cx) (B : Hp) (f : Rho → M (Option Int)) : TO := fun σ H Q => ∃ ρ, Rel X.K B ρ σ H ∧ Res X σ H (fun o => ∀ H', Same H H' → Q o H') (f ρ)
theorem pdo_none : PO X none (tDO X B oNone) := fun pins s σ H Q I ⟨ρ, r, h⟩ => po_none pins s σ H Q I (h H (Same.refl H))
theorem pdo_some {e : Expr} (he : PD X B e fa) : PO X (some e) (tDO X B (oPart fa)) := fun pins s σ H Q I ⟨ρ, r, h⟩ => by
  refine po_some he pins s σ H Q I ⟨ρ, r, (Res.bind h).imp fun d h1 v H1 e1 i1 => ?_⟩
  cases i1 <;> first | exact False.elim h1 | exact ⟨_, rfl, h1 H1 e1⟩
noncomputable def cutD (xs : List D) (lo hi : Option Int) : List D := (xs.drop (HT.sIx xs.length 0 lo)).take (HT.sIx xs.length xs.length hi - HT.sIx xs.length 0 lo)
/-- a part of a text -/
noncomputable def strCut (z : Str) (lo hi : Option Int) : Str := ⟨((z.cps.toList.drop (HT.sIx z.length 0 lo)).take (HT.sIx z.length z.length hi - HT.sIx z.length 0 lo)).toArray⟩
theorem cut_whole {α : Type} (xs : List α) {i j : Nat} (h : i = 0) (h' : j = xs.length) : (xs.drop i).take (j - i) = xs := by
  subst h h'
  rw [List.drop_zero, Nat.sub_zero, List.take_length]
section
variable {prog : Program} {w : World} {A : Around} {E : Value → Shared → Prop} {s : Shared}
theorem getItem_tuple_whole {t sl : Addr} {items : Array Value} {vl vu : Value} {lo hi : Option Int} {Q : Value → Shared → Prop} (ht : IsTup s.heap t items) (hs : s.heap.IsSliceOf sl vl vu .none) (pl : IsPart vl lo) (pu : IsPart vu hi)
    (hw : HT.sIx items.size 0 lo = 0 ∧ HT.sIx items.size items.size hi = items.size) (h : Q (.ref t) s) : wpAny (model prog w) A (getItem (.ref t) (.ref sl)) Q E s := by
  obtain ⟨os, hos, hcs, hds⟩ := id hs
  have hTs : s.TypeIs (.ref sl) "slice" := ⟨os, hos, hcs⟩
  unfold getItem
  try with_reducible refine wpAny_holding ?_
  first | refine wpAny_bind (wpAny_pure ?_) | skip
  refine wpAny_bind (wpAny_sequenceKey ht.typeIs (by decide) ?_)
  refine wpAny_bind (wpAny_callSpecial?_slot (name := Str.ofString "__getitem__") ht.typeIs PyProof.Rows.slot_tuple_getitem
    (wpAny_call_entry PyProof.Rows.slot_tuple_getitem ht.typeIs entry_tuple_getitem ?_ (args_tuple_getitem _ _)))
  show wpAny _ _ (Builtin.Tuple.tupleItemsOf (.ref t) >>= _) _ _ s
  refine wpAny_bind (tupleItemsOf_ ht ?_)
  refine wpAny_bind (wpAny_typeOf hTs ?_)
  rw [if_pos (by decide)]
  refine wpAny_bind (HT.sliceApplied_gen hs pl pu ?_)
  show wpAny _ _ (if (((HT.sIx items.size 0 lo : Nat) : Int) == 0 && (1 : Int) == 1 && (HT.sIx items.size items.size hi - HT.sIx items.size 0 lo) == items.size) = true then _ else _) _ _ s
  rw [if_pos (by rw [hw.1, hw.2]; simp)]
  refine wpAny_bind (m := Builtin.Tuple.tupleIsExact _) (wpAny_bind (m := typeOf _) (wpAny_typeOf ht.typeIs (wpAny_pure ?_)))
  rw [if_pos (by decide)]
  exact wpAny_bind (wpAny_rule (wpAny_bind (wpAny_pure (wpAny_pure ⟨_, rfl, wpAny_pure h⟩))))
theorem strPicked_cut (z : Str) (l u : Option (Int × Tok)) : slicePicked z l u none = (List.range (HT.sIx z.length z.length (u.map (·.1)) - HT.sIx z.length 0 (l.map (·.1)))).map (HT.sIx z.length 0 (l.map (·.1)) + ·) := by
  have cl : ∀ (i : Int) (d : Nat), max 0 (min (if i < 0 then i + (z.length : Int) else i) (z.length : Int)) = ((HT.sIx z.length d (some i) : Nat) : Int) := by
    intro i d
    show _ = (((if i < 0 then (i + (z.length : Int)).toNat else min i.toNat z.length) : Nat) : Int)
    by_cases hv : i < 0
    · simp only [if_pos hv]; omega
    · simp only [if_neg hv]; omega
  have e : slicePicked z l u none = sliceRange ((HT.sIx z.length 0 (l.map (·.1)) : Nat) : Int) ((HT.sIx z.length z.length (u.map (·.1)) : Nat) : Int) 1 := by
    unfold slicePicked Builtin.Str.strSliceIndices
    simp only [Option.map_none, Option.getD_none, show (1 : Int) > 0 by decide, if_true]
    congr 1
    · cases l with
      | none => rfl
      | some i => exact cl i.1 0
    · cases u with
      | none => rfl
      | some i => exact cl i.1 z.length
  rw [e, sliceRange_one]
end
section
variable {X : Cx}
noncomputable def rSlW (K : PySem.W.Frag) : V → Option Int → Option Int → Hp → VK → Prop := fun x lo hi H Q => ∃ a xs, x = .ref a ∧ SqT K H a xs ∧ (HT.sIx xs.length 0 lo = 0 ∧ HT.sIx xs.length xs.length hi = xs.length) ∧ Q (.ref a) H
theorem sl_tupW : SlR X (rSlW X.K) := by
  intro pins s σ H x v vl vu lo hi sl Q I rx hs pl pu h
  obtain ⟨a, xs, rfl, hx, hw, q⟩ := h
  cases rx
  obtain ⟨its, r, ht, hz⟩ := I.tuple hx
  have hlen : its.toArray.size = xs.length := by rw [List.size_toArray]; exact r.length.symm
  exact ⟨"tuple", _, PyProof.Rows.slot_tuple_getitem.lookup, ht.typeIs, getItem_tuple_whole ht hs pl pu (by rw [hlen]; exact hw) ⟨.ref a, H, I, rfl, q⟩⟩
noncomputable def rSlS : V → Option Int → Option Int → Hp → VK → Prop := fun x lo hi H Q => ∃ z, x = .str z ∧ z.length ≤ sizeLine ∧ Q (.str (strCut z lo hi)) H
theorem part_of {v : Value} {o : Option Int} (p : IsPart v o) : ∃ l : Option (Int × Tok), v = partValue l ∧ l.map (·.1) = o := by
  cases p with
  | none => exact ⟨none, rfl, rfl⟩
  | int i t => exact ⟨some (i, t), rfl, rfl⟩
theorem sl_str : SlR X rSlS := by
  intro pins s σ H x v vl vu lo hi sl Q I rx hs pl pu h
  obtain ⟨z, rfl, hz, q⟩ := h
  obtain ⟨t, rfl⟩ := rx
  obtain ⟨l, rfl, rfl⟩ := part_of pl
  obtain ⟨u, rfl, rfl⟩ := part_of pu
  refine ⟨"str", _, slot_str_getitem.lookup, typeIs_str s z t, ?_⟩
  refine wpAny_getItem_str_slice (l := l) (u := u) (st := none) hs rfl ?_
  have hp := strPicked_cut z l u
  have hj : HT.sIx z.length z.length (u.map (·.1)) ≤ z.length := HT.sIx_le _ _ (Nat.le_refl _) _
  have hi0 : HT.sIx z.length 0 (l.map (·.1)) ≤ z.length := HT.sIx_le _ 0 (Nat.zero_le _) _
  have hc : z.cps.toList.length = z.length := by simp [Str.length]
  unfold sliceMade
  rw [hp]
  split
  · rename_i hh
    simp only [Option.map_none, Option.getD_none, List.length_map, List.length_range, Bool.and_eq_true, beq_iff_eq] at hh
    have e : strCut z (l.map (·.1)) (u.map (·.1)) = z := by
      unfold strCut
      rw [cut_whole _ (by omega) (by omega)]
    exact ⟨.str z, H, I, ⟨t, rfl⟩, by rw [e] at q; exact q⟩
  · rw [pick_run]
    refine ⟨?_, ⟨.str (strCut z (l.map (·.1)) (u.map (·.1))), H, I.tok _, ⟨_, rfl⟩, q⟩⟩
    show ((z.cps.toList.drop (HT.sIx z.length 0 (l.map (·.1)))).take _).toArray.size ≤ sizeLine
    rw [List.size_toArray, List.length_take, List.length_drop, hc]
    omega
end
noncomputable def gCut : D → Option Int → Option Int → M D
  | .lst ds, lo, hi => ok (.lst (cutD ds lo hi))
  | .tup ds, lo, hi => ok (.tup (cutD ds lo hi))
  | .str z, lo, hi => if z.length ≤ 1000 then ok (.str (strCut z lo hi)) else none
  | _, _, _ => none
noncomputable def cut3 (fa : Rho → M D) (fl fh : Rho → M (Option Int)) : Rho → M D := fun ρ => bnd (fa ρ) fun x => bnd (fl ρ) fun l => bnd (fh ρ) fun h => gCut x l h
theorem isL_cut {K : PySem.W.Frag} {H : Hp} {ds : List D} {vs : List V} (r : IsL K H ds vs) (lo hi : Option Int) : IsL K H (cutD ds lo hi) (cutV vs lo hi) := by
  unfold cutD cutV
  rw [r.length]
  exact (r.drop _).take _
theorem pd_slice {e : Expr} {lo hi : Option Expr} {fl fh : Rho → M (Option Int)} {p2 : Pos} (he : PD X B e fa) (hl : PO X lo (tDO X B fl)) (hu : PO X hi (tDO X B fh)) : PD X B (.Subscript e (.Slice lo hi none p2) pos) (cut3 fa fl fh) := by
  refine PE.of (pe_slice (SlR.or sl_list (SlR.or sl_tup (SlR.or sl_tupW sl_str))) he hl hu) fun σ H Q h => ?_
  obtain ⟨ρ, r1, h⟩ := h
  refine ⟨ρ, r1, (Res.bind h).imp fun d h1 v H1 e1 i1 => ⟨ρ, r1.mono e1, (Res.bind h1).mono e1 fun l h2 H2 e2 => ⟨ρ, (r1.mono e1).mono e2, (Res.bind h2).mono (e1.trans e2) fun u h3 H3 e3 => ?_⟩⟩⟩
  have i3 := (i1.mono e2).mono e3
  cases i3 with
  | lst hh r => exact .inl ⟨_, _, rfl, hh, fun p hp => h3 _ _ (((e1.trans e2).trans e3).trans (same_new hp _)) (.lst (SqL.of upd_same) ((isL_cut r l u).mono (same_new hp _)))⟩
  | tup hh r =>
    rename_i a' ds' vs'
    have hlen := r.length
    by_cases hn : HT.sIx vs'.length 0 l = 0 ∧ HT.sIx vs'.length vs'.length u = vs'.length
    · have e : cutD ds' l u = ds' := by
        unfold cutD
        rw [hlen]
        exact cut_whole _ hn.1 (by rw [hn.2, hlen])
      refine .inr (.inr (.inl ⟨_, _, rfl, hh, hn, ?_⟩))
      have h4 := h3 _ _ ((e1.trans e2).trans e3) (show Is X.K H3 (.tup (cutD ds' l u)) (.ref a') by rw [e]; exact .tup hh r)
      exact h4
    · exact .inr (.inl ⟨_, _, rfl, hh, hn, fun p hp => h3 _ _ (((e1.trans e2).trans e3).trans (same_new hp _)) (.tup (TQ.of upd_same) ((isL_cut r l u).mono (same_new hp _)))⟩)
  | str z =>
    dsimp only [gCut] at h3
    split at h3
    · rename_i hz
      exact .inr (.inr (.inr ⟨_, rfl, Nat.le_trans hz (by decide), h3 _ _ ((e1.trans e2).trans e3) (.str _)⟩))
    · exact False.elim h3
  | _ => exact False.elim h3
end
end L2.PU

namespace L2.PU
open PySem PySem.Spec PyProof.Rows

/-! ### the kinds of data, as isinstance sees them -/
noncomputable def tyN : D → Option String
  | .non => some "NoneType"
  | .bl _ => some "bool"
  | .int _ => some "int"
  | .str _ => some "str"
  | .tup _ => some "tuple"
  | .lst _ => some "list"
  | .obj _ _ => none
  | .dk _ => some "dict"
  | .dt _ => some "dict"
  | .exc _ => none
  | .set _ => none
noncomputable def isB (t T : String) : Bool := t == T || (t == "bool" && T == "int")
noncomputable def kTys : List String := ["tuple", "list", "bool", "str", "int", "dict"]
theorem kit_tab (K : PySem.W.Frag) {d : D} {t T : String} (ht : tyN d = some t) (hT : T ∈ kTys) : PySem.W.kitOne K (.type t) (.type T) = some (isB t T) := by
  unfold kTys at hT
  simp only [List.mem_cons, List.not_mem_nil, or_false] at hT
  cases d <;> (have e := ht; unfold tyN at e; first | (cases e; done) | skip) <;> (have e' := Option.some.inj e; subst e') <;> rcases hT with rfl | rfl | rfl | rfl | rfl | rfl <;> kernel_rfl
section
variable {X : Cx} {B : Hp} {pins : List (Addr × Obj)} {σ : St} {H : Hp} {s : Shared}
theorem kit_of {d : D} {x : V} {u : Value} {t : String} (I : Inv X pins σ H s) (i : Is X.K H d x) (r : RelV x u) (ht : tyN d = some t) :
    ∃ HH : Heap → Prop, PySem.W.KitX X.K u (.type t) HH ∧ HH s.heap ∧ u ≠ .builtin "__main__.__loader__#opaque" := by
  cases i with
  | non => cases r; cases ht; exact ⟨_, PySem.W.kitx_none, True.intro, fun z => nomatch z⟩
  | bl b => cases r; cases ht; exact ⟨_, PySem.W.kitx_bool, True.intro, fun z => nomatch z⟩
  | int b => obtain ⟨t, rfl⟩ := r; cases ht; exact ⟨_, PySem.W.kitx_int, True.intro, fun z => nomatch z⟩
  | str b => obtain ⟨t, rfl⟩ := r; cases ht; exact ⟨_, PySem.W.kitx_str, True.intro, fun z => nomatch z⟩
  | lst h rr =>
    cases r; cases ht
    obtain ⟨its, _, ⟨o, n, e, hc, _, _⟩, _⟩ := I.list h
    exact ⟨_, PySem.W.kitx_list, ⟨o, e, hc⟩, fun z => nomatch z⟩
  | tup h rr =>
    cases r; cases ht
    obtain ⟨its, _, ⟨o, e, hc, _, _⟩, _⟩ := I.tuple h.sq
    exact ⟨_, PySem.W.kitx_tuple, ⟨o, e, hc⟩, fun z => nomatch z⟩
  | obj h rr => cases ht
  | dk h rr =>
    cases r; cases ht
    obtain ⟨_, _, vs, _, o, es, ep, e1, e2, _⟩ := (show ObjOk X.prog X.w H s.heap _ (.dK _) from I.hok _ _ h)
    exact ⟨_, PySem.W.kitx_dict, ⟨o, e1, e2.1⟩, fun z => nomatch z⟩
  | dt h rr =>
    cases r; cases ht
    obtain ⟨_, _, vs, _, o, es, ep, e1, e2, _⟩ := (show ObjOk X.prog X.w H s.heap _ (.dT _) from I.hok _ _ h)
    exact ⟨_, PySem.W.kitx_dict, ⟨o, e1, e2.1⟩, fun z => nomatch z⟩
  | exc h => cases ht
  | set h => cases ht
noncomputable def kitL (t : String) : List String → Bool
  | [] => false
  | T :: r => if isB t T = true then true else kitL t r
theorem kitAny_tab (K : PySem.W.Frag) {d : D} {t : String} (ht : tyN d = some t) : ∀ {Ts : List String}, (∀ T ∈ Ts, T ∈ kTys) → PySem.W.kitAny K (.type t) (Ts.map Value.type) = some (kitL t Ts)
  | [], _ => rfl
  | T :: r, h => by
    show (match PySem.W.kitOne K (.type t) (.type T) with | some true => some true | some false => PySem.W.kitAny K (.type t) (r.map Value.type) | none => none) = _
    rw [kit_tab K ht (h T (by simp))]
    unfold kitL
    cases q : isB t T with
    | true => rfl
    | false => exact kitAny_tab K ht fun T' hT => h T' (by simp [hT])
end
section
variable {X : Cx} {B : Hp} {e : Expr} {fa : Rho → M D} {pos p p2 : Pos}
noncomputable def isi (T : String) (f : Rho → M D) : Rho → M D := fun ρ => bnd (f ρ) fun d => match tyN d with | some t => ok (.bl (isB t T)) | none => none
noncomputable def isi2 (Ts : List String) (f : Rho → M D) : Rho → M D := fun ρ => bnd (f ρ) fun d => match tyN d with | some t => ok (.bl (kitL t Ts)) | none => none
theorem pd_isi {x : Str} {T : String} (hg : Gl X "isinstance") (hm : X.mg "isinstance" = none) (hg2 : Gl X x) (hm2 : X.mg x = none) (hv : bootBuiltins x = some (.type T)) (hT : T ∈ kTys) (ha : PD X B e fa) (hn : x ≠ "__name__" := by decide) (hd : (x == ("__debug__" : Str)) = false := by decide)
    (he : starEach [e, .Name x p2] X.env = [(false, eval e X.env), (false, eval (.Name x p2) X.env)] := by exact star2 rfl rfl) (he2 : starEach [.Name x p2] X.env = [(false, eval (.Name x p2) X.env)] := by exact star1 rfl) : PD X B (.Call (.Name "isinstance" p) [e, .Name x p2] [] pos) (isi T fa) := by
  have hc : CallR X (.builtin "isinstance") (fun xs H Q => ∃ d y t, xs = [y, .ty T] ∧ Is X.K H d y ∧ tyN d = some t ∧ Q (.bl (isB t T)) H) := by
    intro pins s σ H xs us Q I r h
    obtain ⟨d, y, t, rfl, i, ht, q⟩ := h
    obtain ⟨u, w', rfl, r1, r2⟩ := vals2 r
    cases r2
    obtain ⟨HH, k1, k2, k3⟩ := kit_of I i r1 ht
    exact PySem.W.kia_one k1 I.kIn k2 (kit_tab X.K ht hT) k3 fun tk => ⟨.bl _, H, I.tok _, rfl, q⟩
  refine PE.of (pe_callB hc hg hm boot_isinstance (pa_cons ha (pa_cons (pe_bltn hg2 hm2 hv (v := V.ty T) rfl hn hd) pa_nil he2) (by rw [he, he2])) (he := by rw [he, he2]) (hpl := by rw [he2]; rfl)) fun σ H Q h => ?_
  obtain ⟨ρ, r1, h⟩ := h
  refine ⟨ρ, r1, (Res.bind h).imp fun d h1 v H1 e1 i1 => ?_⟩
  cases q : tyN d with
  | none => rw [q] at h1; exact False.elim h1
  | some t => rw [q] at h1; exact ⟨d, v, t, rfl, i1, q, h1 _ H1 e1 (.bl _)⟩
theorem pd_isi2 {x y : Str} {T U : String} {k : Nat} {p3 p4 : Pos} (hg : Gl X "isinstance") (hm : X.mg "isinstance" = none) (hg2 : Gl X x) (hm2 : X.mg x = none) (hv : bootBuiltins x = some (.type T)) (hT : T ∈ kTys) (hg3 : Gl X y) (hm3 : X.mg y = none) (hv3 : bootBuiltins y = some (.type U)) (hU : U ∈ kTys) (ha : PD X B e fa)
    (hn : x ≠ "__name__" := by decide) (hd : (x == ("__debug__" : Str)) = false := by decide) (hn2 : y ≠ "__name__" := by decide) (hd2 : (y == ("__debug__" : Str)) = false := by decide)
    (he : starEach [e, .Tuple [.Name x p2, .Name y p3] k p4] X.env = [(false, eval e X.env), (false, eval (.Tuple [.Name x p2, .Name y p3] k p4) X.env)] := by exact star2 rfl rfl) (he2 : starEach [.Tuple [.Name x p2, .Name y p3] k p4] X.env = [(false, eval (.Tuple [.Name x p2, .Name y p3] k p4) X.env)] := by exact star1 rfl)
    (he3 : starEach [.Name x p2, .Name y p3] X.env = [(false, eval (.Name x p2) X.env), (false, eval (.Name y p3) X.env)] := by exact star2 rfl rfl) (he4 : starEach [.Name y p3] X.env = [(false, eval (.Name y p3) X.env)] := by exact star1 rfl) :
    PD X B (.Call (.Name "isinstance" p) [e, .Tuple [.Name x p2, .Name y p3] k p4] [] pos) (isi2 [T, U] fa) := by
  have hc : CallR X (.builtin "isinstance") (fun xs H Q => ∃ d y a t, xs = [y, .ref a] ∧ Is X.K H d y ∧ H a = some (.tup [.ty T, .ty U]) ∧ tyN d = some t ∧ Q (.bl (kitL t [T, U])) H) := by
    intro pins s σ H xs us Q I r h
    obtain ⟨d, y, a, t, rfl, i, hh, ht, q⟩ := h
    obtain ⟨u, w', rfl, r1, r2⟩ := vals2 r
    cases r2
    obtain ⟨HH, k1, k2, k3⟩ := kit_of I i r1 ht
    obtain ⟨z, its, rv, ob, o1, o2, ⟨n, o3⟩, o4⟩ := (show ObjOk X.prog X.w H s.heap a (.tup [.ty T, .ty U]) from I.hok a _ hh)
    obtain ⟨w1, w2, rfl, q1, q2⟩ := vals2 rv
    cases q1; cases q2
    obtain ⟨c0, d0, dt, sl⟩ := ob
    simp only at o2 o3
    subst o2; subst o3
    exact PySem.W.kia_tup (its := [Value.type T, Value.type U]) k1 I.kIn k2 o1 (kitAny_tab X.K ht (Ts := [T, U]) (by intro z hz; rcases List.mem_cons.mp hz with rfl | hz; exact hT; rcases List.mem_singleton.mp hz with rfl; exact hU)) k3 fun tk => ⟨.bl _, H, I.tok _, rfl, q⟩
  refine PE.of (pe_callB hc hg hm boot_isinstance (pa_cons ha (pa_cons (pe_tup (pa_cons (pe_bltn hg2 hm2 hv (v := V.ty T) rfl hn hd) (pa_cons (pe_bltn hg3 hm3 hv3 (v := V.ty U) rfl hn2 hd2) pa_nil he4) (by rw [he3, he4]))) pa_nil he2) (by rw [he, he2])) (he := by rw [he, he2]) (hpl := by rw [he2]; rfl)) fun σ H Q h => ?_
  obtain ⟨ρ, r1, h⟩ := h
  refine ⟨ρ, r1, (Res.bind h).imp fun d h1 v H1 e1 i1 => ?_⟩
  refine ⟨by show 2 ≤ sizeLine; decide, fun a ha' => ?_⟩
  cases q : tyN d with
  | none => rw [q] at h1; exact False.elim h1
  | some t => rw [q] at h1; exact ⟨d, v, a, t, rfl, i1.mono (same_new ha' _), upd_same, q, h1 _ _ (e1.trans (same_new ha' _)) (.bl _)⟩

/-! ### len; min of two -/
noncomputable def lenD : D → M D
  | .tup ds => ok (.int ds.length)
  | .lst ds => ok (.int ds.length)
  | _ => none
noncomputable def f1 (g : D → M D) (f : Rho → M D) : Rho → M D := fun ρ => bnd (f ρ) g
theorem pd_len (hg : Gl X "len") (hm : X.mg "len" = none) (ha : PD X B e fa) (he : starEach [e] X.env = [(false, eval e X.env)] := by exact star1 rfl) : PD X B (.Call (.Name "len" p) [e] [] pos) (f1 lenD fa) := by
  refine PE.of (pe_callB call_len_seq hg hm PySem.boot_len (pa_cons ha pa_nil he) (he := by rw [he]; rfl) (hpl := by rfl)) fun σ H Q h => ?_
  obtain ⟨ρ, r1, h⟩ := h
  refine ⟨ρ, r1, (Res.bind h).imp fun d h1 v H1 e1 i1 => ?_⟩
  cases i1 with
  | lst hh r => exact ⟨_, _, rfl, .inl hh, by rw [← r.length]; exact h1 _ H1 e1 (.int _)⟩
  | tup hh r => exact ⟨_, _, rfl, .inr hh, by rw [← r.length]; exact h1 _ H1 e1 (.int _)⟩
  | _ => exact False.elim h1
end

/-! ### statements -/
inductive Out where
  | nx (ρ : Rho) | rt (d : D) | bk (ρ : Rho) | ct (ρ : Rho) | ex (c : Addr) (ρ : Rho)
noncomputable def Good (X : Cx) (B : Hp) (E : Ends) : Out → Prop
  | .nx ρ => ∀ σ H, Rel X.K B ρ σ H → E.nx σ H
  | .rt d => ∀ v H, Same B H → Is X.K H d v → E.rt v H
  | .bk ρ => ∀ σ H, Rel X.K B ρ σ H → E.bk σ H
  | .ct ρ => ∀ σ H, Rel X.K B ρ σ H → E.ct σ H
  | .ex c ρ => ∀ (pins : List (Addr × Obj)) (s : Shared) (σ : St) (H : Hp) (e : Value), Rel X.K B ρ σ H → Exc X pins σ H c e s → X.xe e s
noncomputable def GoodO (X : Cx) (B : Hp) (E : Ends) : Option Out → Prop
  | none => False
  | some o => Good X B E o
noncomputable def tDS (X : Cx) (B : Hp) (F : Rho → Option Out) : TS := fun E σ H => ∃ ρ, Rel X.K B ρ σ H ∧ GoodO X B E (F ρ)
noncomputable abbrev PDS (X : Cx) (B : Hp) (st : Stmt) (F : Rho → Option Out) : Prop := PS X st (tDS X B F)
noncomputable abbrev PDB (X : Cx) (B : Hp) (st : List Stmt) (F : Rho → Option Out) : Prop := PSs X st (tDS X B F)
/-- an expression's outcome within a statement -/
noncomputable def lft {α : Type} (m : M α) (ρ : Rho) (k : α → Option Out) : Option Out := match m with
  | none => none
  | some (.error c) => some (.ex c ρ)
  | some (.ok a) => k a
@[simp] theorem lft_ok {α : Type} (a : α) (ρ : Rho) (k : α → Option Out) : lft (ok a) ρ k = k a := rfl
@[simp] theorem lft_err {α : Type} (c : Addr) (ρ : Rho) (k : α → Option Out) : lft (err c : M α) ρ k = some (.ex c ρ) := rfl
theorem lft_red {α : Type} {X : Cx} {B : Hp} {E : Ends} {σ : St} {H : Hp} {ρ : Rho} {m : M α} {k : α → Option Out} (r : Rel X.K B ρ σ H) (h : GoodO X B E (lft m ρ k)) : Res X σ H (fun a => GoodO X B E (k a)) m := by
  unfold lft at h
  split at h
  · exact h
  · exact fun pins s H' e q x => h pins s σ H' e (r.mono q) x
  · exact h
section
variable {X : Cx} {B : Hp} {e c : Expr} {fa : Rho → M D} {tc : Rho → M Bool} {pos pos' : Pos} {st : Stmt} {sts rest : List Stmt} {F G : Rho → Option Out}
theorem PS.of {t t' : TS} (h : PS X st t) (i : ∀ E σ H, t' E σ H → t E σ H) : PS X st t' := fun pins s σ H E I q => h pins s σ H E I (i E σ H q)
theorem PSs.of {t t' : TS} (h : PSs X sts t) (i : ∀ E σ H, t' E σ H → t E σ H) : PSs X sts t' := fun pins s σ H E I q => h pins s σ H E I (i E σ H q)
noncomputable def sNil : Rho → Option Out := fun ρ => some (.nx ρ)
noncomputable def sSeq (F G : Rho → Option Out) : Rho → Option Out := fun ρ => match F ρ with
  | some (.nx ρ') => G ρ'
  | o => o
theorem pdb_nil : PDB X B [] sNil := PSs.of pss_nil fun E σ H ⟨ρ, r, h⟩ => h σ H r
theorem pdb_cons (h1 : PDS X B st F) (h2 : PDB X B rest G) : PDB X B (st :: rest) (sSeq F G) := by
  refine PSs.of (pss_cons h1 h2) fun E σ H h => ?_
  obtain ⟨ρ, r, h⟩ := h
  refine ⟨ρ, r, ?_⟩
  unfold sSeq at h
  cases q : F ρ with
  | none => rw [q] at h; exact h
  | some o =>
    rw [q] at h
    cases o with
    | nx ρ' => exact fun σ' H' r' => ⟨ρ', r', h⟩
    | rt d => exact h
    | bk ρ' => exact h
    | ct ρ' => exact h
    | ex c ρ' => exact h
noncomputable def sRet (f : Rho → M D) : Rho → Option Out := fun ρ => lft (f ρ) ρ fun d => some (.rt d)
theorem pds_ret (he : PD X B e fa) : PDS X B (.Return (some e) pos) (sRet fa) := by
  refine PS.of (ps_ret he) fun E σ H h => ?_
  obtain ⟨ρ, r, h⟩ := h
  exact ⟨ρ, r, (lft_red r h).imp fun d h1 v H1 e1 i1 => h1 v H1 (r.kept.trans e1) i1⟩
noncomputable def sIf (t : Rho → M Bool) (F G : Rho → Option Out) : Rho → Option Out := fun ρ => lft (t ρ) ρ fun k => if k = true then F ρ else G ρ
theorem pds_if {a b : List Stmt} (hc : PDT X B c tc) (ha : PDB X B a F) (hb : PDB X B b G) : PDS X B (.If c a b pos) (sIf tc F G) := by
  refine PS.of (ps_if hc ha hb) fun E σ H h => ?_
  obtain ⟨ρ, r, h⟩ := h
  refine ⟨ρ, r, (lft_red r h).imp fun k h1 H1 e1 => ?_⟩
  cases k with
  | true => exact ⟨ρ, r.mono e1, h1⟩
  | false => exact ⟨ρ, r.mono e1, h1⟩

/-! ### name = value -/
/-- a shared datum at slot i -/
noncomputable def SV.rel : SV → SV
  | .sh d => .sh d
  | .own ds => .sh (.lst ds)
  | .oin a C dx fs => .sh (.obj C fs)
  | .ow o => .sh o.d
  | .tk ks => .sh (.tup (ks.map kD))
noncomputable def free (ρ : Rho) : Rho := ρ.map fun o => o.map SV.rel
noncomputable def setV (i : Nat) (d : D) (ρ : Rho) : Rho := if d.imm = true then ρ.set i (some (.sh d)) else (free ρ).set i (some (.sh d))
theorem Rel.set_sh {K : PySem.W.Frag} {H₀ H : Hp} {ρ : Rho} {σ : St} {i : Nat} {d : D} {v : V} (O : Nat → Option Addr) (h1 : ∀ i j a, O i = some a → O j = some a → i = j) (ho : OwnK H O) (h2 : Same H₀ (Off H O)) (hl : ρ.length = σ.length) (h3 : ∀ j sv, ρ[j]? = some (some sv) → j ≠ i → Slot K H O σ j sv)
    (iv : Is K (Off H O) d v) : Rel K H₀ (ρ.set i (some (.sh d))) (σ.set i (some v)) H := by
  have hO : ∀ (j : Nat) (a : Addr), (if j = i then none else O j) = some a → O j = some a := fun j a q => by
    split at q
    · cases q
    · exact q
  have less : Same (Off H O) (Off H fun j => if j = i then none else O j) := Off.less fun j a q => ⟨j, hO j a q⟩
  refine ⟨fun j => if j = i then none else O j, fun j k a q1 q2 => h1 j k a (hO j a q1) (hO k a q2), fun j a q => ho j a (hO j a q), h2.trans less, by rw [List.length_set, List.length_set, hl], fun j sv q => ?_⟩
  by_cases e : j = i
  · subst e
    have hj : j < ρ.length := by
      have := (List.getElem?_eq_some_iff.mp q).1
      rwa [List.length_set] at this
    rw [List.getElem?_set_self hj] at q
    have q' := Option.some.inj (Option.some.inj q)
    subst q'
    exact ⟨v, List.getElem?_set_self (by rw [← hl]; exact hj), iv.mono less⟩
  · rw [List.getElem?_set_ne (Ne.symm e)] at q
    have z := h3 j sv q e
    cases sv with
    | sh d' => obtain ⟨v', e1, e2⟩ := z; exact ⟨v', by rw [List.getElem?_set_ne (Ne.symm e)]; exact e1, e2.mono less⟩
    | own ds => obtain ⟨a, vs, e1, e2, e3, e4⟩ := z; exact ⟨a, vs, by show (if j = i then none else O j) = some a; rw [if_neg e]; exact e1, by rw [List.getElem?_set_ne (Ne.symm e)]; exact e2, e3, e4.mono less⟩
    | oin a C dx fs => obtain ⟨e1, e2, e3, vs, e4, e5⟩ := z; exact ⟨by show (if j = i then none else O j) = some a; rw [if_neg e]; exact e1, by rw [List.getElem?_set_ne (Ne.symm e)]; exact e2, e3, vs, e4, e5.mono less⟩
    | ow o => obtain ⟨a, w, e1, e2, e3, e4⟩ := z; exact ⟨a, w, by show (if j = i then none else O j) = some a; rw [if_neg e]; exact e1, by rw [List.getElem?_set_ne (Ne.symm e)]; exact e2, e3, e4.mono less⟩
    | tk ks => obtain ⟨a, e1, e2⟩ := z; exact ⟨a, by rw [List.getElem?_set_ne (Ne.symm e)]; exact e1, less _ _ e2⟩
theorem Rel.freed {K : PySem.W.Frag} {H₀ H : Hp} {ρ : Rho} {σ : St} (r : Rel K H₀ ρ σ H) : Rel K H₀ (free ρ) σ H := by
  obtain ⟨O, h1, ho, h2, hl, h3⟩ := id r
  have e0 : Off H (fun _ => none) = H := by funext b; unfold Off; rw [if_neg (fun ⟨i, e⟩ => nomatch e)]
  refine ⟨fun _ => none, (by intro _ _ _ q; cases q), (by intro _ _ q; cases q), by rw [e0]; exact r.kept, by unfold free; rw [List.length_map, hl], fun i sv q => ?_⟩
  unfold free at q
  rw [List.getElem?_map] at q
  obtain ⟨o, e1, e2⟩ := Option.map_eq_some_iff.mp q
  cases o with
  | none => cases e2
  | some sv0 =>
    have e2' : sv0.rel = sv := Option.some.inj e2
    subst e2'
    obtain ⟨v, e3, e4⟩ := r.get e1
    have : sv0.rel = .sh sv0.cur := by cases sv0 <;> rfl
    rw [this]
    exact ⟨v, e3, by rw [e0]; exact e4⟩
theorem Rel.setV {K : PySem.W.Frag} {H₀ H : Hp} {ρ : Rho} {σ : St} {i : Nat} {d : D} {v : V} (r : Rel K H₀ ρ σ H) (iv : Is K H d v) : Rel K H₀ (setV i d ρ) (σ.set i (some v)) H := by
  unfold PU.setV
  by_cases q : d.imm = true
  · rw [if_pos q]
    obtain ⟨O, h1, ho, h2, hl, h3⟩ := r
    exact Rel.set_sh O h1 ho h2 hl (fun j sv e _ => h3 j sv e) (off_imm ho q iv)
  · rw [if_neg q]
    obtain ⟨O, h1, ho, h2, hl, h3⟩ := r.freed
    -- nothing is owned
    have e0 : Off H (fun _ => none) = H := by funext b; unfold Off; rw [if_neg (fun ⟨i, e⟩ => nomatch e)]
    have s0 : Same (Off H O) (Off H fun _ => none) := Off.less (by intro j a q; cases q)
    refine Rel.set_sh (fun _ => none) (by intro _ _ _ q; cases q) (by intro _ _ q; cases q) (h2.trans s0) hl (fun j sv e _ => ?_) (by rw [e0]; exact iv)
    unfold free at e
    rw [List.getElem?_map] at e
    obtain ⟨o, e1, e2⟩ := Option.map_eq_some_iff.mp e
    cases o with
    | none => cases e2
    | some sv0 =>
      have e2' : sv0.rel = sv := Option.some.inj e2
      subst e2'
      have z := h3 j sv0.rel (by unfold free; rw [List.getElem?_map, e1]; rfl)
      have : sv0.rel = .sh sv0.cur := by cases sv0 <;> rfl
      rw [this] at z ⊢
      obtain ⟨v', f1, f2⟩ := z
      exact ⟨v', f1, f2.mono s0⟩
noncomputable def sSet (i : Nat) (f : Rho → M D) : Rho → Option Out := fun ρ => lft (f ρ) ρ fun d => some (.nx (setV i d ρ))
theorem pds_set {i : Nat} {x : Str} (hN : X.N.Nodup) (hi : X.N[i]? = some x) (hx : Loc X.env.scope x) (he : PD X B e fa) (hs : swapsWith e (some (.Name x pos')) pos.line X.env = pure false := by rfl) (hf : X.fn x = true ∨ X.env.scope.names.lookup x = some .local := by first | exact .inl rfl | exact .inr rfl | assumption) :
    PDS X B (.Assign [.Name x pos'] e pos) (sSet i fa) := by
  refine PS.of (ps_set hN hi hx he hs hf) fun E σ H h => ?_
  obtain ⟨ρ, r, h⟩ := h
  exact ⟨ρ, r, (lft_red r h).imp fun d h1 v H1 e1 i1 => h1 _ H1 ((r.mono e1).setV i1)⟩
end
end L2.PU

namespace L2.PU
open PySem PySem.Spec PyProof.Rows

/-! ### what a def promises, by data -/
noncomputable def spR (K : PySem.W.Frag) (H : Hp) (Q : VK) (E : XK) : M D → Prop
  | none => False
  | some (.error c) => ∀ H', Same H H' → E (.ref c) none H'
  | some (.ok d) => ∀ v H', Same H H' → Is K H' d v → Q v H'
noncomputable def spD (K : PySem.W.Frag) (n : Nat) (F : List D → M D) : Sp := fun vs H Q E => ∃ ds, IsL K H ds vs ∧ vs.length = n ∧ spR K H Q E (F ds)
/-- how an exception lies behind a call -/
noncomputable def CXD (P : Program) (w : World) : CXT := fun outer H s E e s' => ∃ (c ea : Addr) (H' : Hp), e = .ref ea ∧ s'.os = s.os ∧ AllBare s'.gens ∧ Un (frs outer) [] H H' s.heap s'.heap ∧ Fly P w outer s ea c H' s' ∧ E (.ref c) none H'
noncomputable abbrev FnD (P : Program) (w : World) (K : PySem.W.Frag) (mg : Str → Option Value) (base : Heap) (k : Nat) (f : Addr) (fd : FuncData) (ps : List Str) (F : List D → M D) : Prop := FnOk P w K mg base (CXD P w) k f fd ps (spD K ps.length F)
/-- a def of the text by its name -/
noncomputable def Def (P : Program) (w : World) (K : PySem.W.Frag) (mg : Str → Option Value) (base : Heap) (k : Nat) (x : Str) (F : List D → M D) : Prop :=
  ∃ f fd ps, mg x = some (.ref f) ∧ PySem.W.keepIn K (.ref f) = true ∧ Binds K fd ps [] ∧ (∀ ds r, F ds = some r → ds.length = ps.length) ∧ FnD P w K mg base k f fd ps F
/-- a method by its class and name -/
noncomputable def Mth (P : Program) (w : World) (K : PySem.W.Frag) (mg : Str → Option Value) (base : Heap) (k : Nat) (C : Addr) (m : Str) (F : List D → M D) : Prop :=
  ∃ f fd ps, Cls K C ∧ Meth K C m f ∧ Binds K fd ps [] ∧ (∀ ds r, F ds = some r → ds.length = ps.length) ∧ FnD P w K mg base k f fd ps F
theorem Def.mono {P : Program} {w : World} {K : PySem.W.Frag} {mg : Str → Option Value} {base : Heap} {j k : Nat} {x : Str} {F : List D → M D} (h : Def P w K mg base j x F) (q : j ≤ k) : Def P w K mg base k x F := by
  obtain ⟨f, fd, ps, h1, h2, h3, hl, h4⟩ := h
  exact ⟨f, fd, ps, h1, h2, h3, hl, h4.mono q⟩
theorem Mth.mono {P : Program} {w : World} {K : PySem.W.Frag} {mg : Str → Option Value} {base : Heap} {j k : Nat} {C : Addr} {x : Str} {F : List D → M D} (h : Mth P w K mg base j C x F) (q : j ≤ k) : Mth P w K mg base k C x F := by
  obtain ⟨f, fd, ps, h1, h2, h3, hl, h4⟩ := h
  exact ⟨f, fd, ps, h1, h2, h3, hl, h4.mono q⟩

section
variable {X : Cx} {B : Hp} {k : Nat} {f : Addr} {fd : FuncData} {ps : List Str} {F : List D → M D} {pins : List (Addr × Obj)} {σ : St} {H : Hp} {s : Shared} {Q : VK} {us : List Value} {vs : List V} {ds : List D}
/-- the callee runs -/
theorem run_D (G : FnD X.prog X.w X.K X.mg X.base k f fd ps F) (hr : Room k X.A) (hb : Binds X.K fd ps []) (I : Inv X pins σ H s) (r : Vals vs us) (i : IsL X.K H ds vs)
    (h : Res X σ H (fun d => ∀ v H', Same H H' → Is X.K H' d v → Q v H') (F ds)) (hL : ∀ ds r, F ds = some r → ds.length = ps.length) : wpAny (model X.prog X.w) X.A (call (.ref f) us) (EP X pins σ Q) X.xe s := by
  have hn : ds.length = ps.length := by
    cases q : F ds with
    | none => rw [q] at h; exact False.elim h
    | some z => exact hL ds z q
  have hl : (us ++ []).length = ps.length := by rw [List.append_nil, ← r.length, ← i.length]; exact hn
  have hbb := hb s us I.kIn hl
  rw [List.append_nil] at hbb
  have hsp : spD X.K ps.length F vs H Q (fun cv _ H' => ∃ c, cv = .ref c ∧ Same H H' ∧ Thr X σ H c) := by
    refine ⟨ds, i, by rw [← i.length]; exact hn, ?_⟩
    cases q : F ds with
    | none => rw [q] at h; exact False.elim h
    | some z =>
      rw [q] at h
      cases z with
      | error c => exact fun H' e => ⟨c, rfl, e, h⟩
      | ok d => exact h
  refine wpAny_call (codeAny_mono (G.run X.A X.stack s H ⟨us, []⟩ us vs Q _ hr I.env0 hbb r hsp) fun r s' hq => ?_)
  cases r with
  | error e =>
    obtain ⟨c, ea, H', ee, os, bare, un, fl, c', ec, sm', th⟩ := hq
    cases ec
    exact th pins s' H' e sm' ⟨ea, ee, .inr ⟨s, H, I, os, bare, un, fl⟩⟩
  | ok fl =>
    cases fl with
    | ret u => exact I.after hq
    | next => exact False.elim hq
    | brk => exact False.elim hq
    | cont => exact False.elim hq

variable {x m : Str} {p pos apos : Pos} {e o : Expr} {es : List Expr} {ga : Rho → M (List D)} {fo : Rho → M D} {C : Addr}
noncomputable def app (F : List D → M D) (g : Rho → M (List D)) : Rho → M D := fun ρ => bnd (g ρ) F
theorem app_red {R : List V → Hp → Prop} (hR : ∀ ds vs H1, Same H H1 → IsL X.K H1 ds vs → Res X σ H1 (fun d => ∀ v H', Same H1 H' → Is X.K H' d v → Q v H') (F ds) → R vs H1) (h : tD X B (app F ga) σ H Q) : tDA X B ga σ H R := by
  obtain ⟨ρ, r, h⟩ := h
  exact ⟨ρ, r, (Res.bind h).imp fun ds h1 vs H1 e1 i1 => hR ds vs H1 e1 i1 (h1.mono e1 fun d q v H2 e2 i2 => q v H2 (e1.trans e2) i2)⟩
theorem pd_call (G : Def X.prog X.w X.K X.mg X.base k x F) (hr : Room k X.A) (hg : Gl X x) (ha : PDA X B (e :: es) ga) (hdb : (x == ("__debug__" : Str)) = false := by decide) (he : starEach (e :: es) X.env = (false, eval e X.env) :: starEach es X.env := by exact star_ok rfl)
    (hpl : (backTo pos (starEach es X.env)).any (·.1) = false := by rfl) : PD X B (.Call (.Name x p) (e :: es) [] pos) (app F ga) := by
  intro pins s σ H Q I h
  obtain ⟨f, fd, ps, h1, h2, h3, hl, h4⟩ := G
  refine wpAny_Call_Name_kw (ld_glob I hg h1 ?_ hdb)
  refine PySem.W.callWith_K (h₀ := X.base) I.ok.mod.kin h2 (thn (ha pos pins s σ H _ I (app_red (R := fun vs H1 => ∃ ds, IsL X.K H1 ds vs ∧ Res X σ H1 (fun d => ∀ v H', Same H1 H' → Is X.K H' d v → Q v H') (F ds)) (fun ds vs H1 e1 i1 h1 => ⟨ds, i1, h1⟩) h)) fun us s1 ⟨vs, H1, I1, r, ds, i1, q⟩ => ⟨I1.kIn, ?_⟩) he hpl
  exact run_D h4 hr h3 I1 r i1 q hl
/-- o.m(..): by the class of the object -/
noncomputable def appM (m : Str) (FM : Addr → Option (List D → M D)) (fo : Rho → M D) (g : Rho → M (List D)) : Rho → M D := fun ρ => bnd (fo ρ) fun x => match x with
  | .obj C fs => match FM C, fs.lookup m with
    | some F, none => bnd (g ρ) fun ds => F (x :: ds)
    | _, _ => none
  | _ => none
theorem pd_meth {pl : Sem Bool} {FM : Addr → Option (List D → M D)} (G : ∀ C F, FM C = some F → Mth X.prog X.w X.K X.mg X.base k C m F) (hr : Room k X.A) (he : PD X B o fo) (ha : PDA X B (e :: es) ga)
    (hst : starEach (e :: es) X.env = (false, eval e X.env) :: starEach es X.env := by exact star_ok rfl) (hpl : (backTo pos (starEach es X.env)).any (·.1) = false := by rfl)
    (ht : eval (.Call (.Attribute o m apos) (e :: es) [] pos) X.env = (do
      let ov ← eval o X.env
      standAt apos.atName
      let (f, first) ← holding [ov] (getMethod ov m pl)
      callWith pos f first (backTo pos (starEach (e :: es) X.env)) (backToKw pos (keywordEach [] X.env))) := by rfl) :
    PD X B (.Call (.Attribute o m apos) (e :: es) [] pos) (appM m FM fo ga) := by
  intro pins s σ H Q I h
  obtain ⟨ρ, r, h⟩ := h
  refine PySem.W.methodCall_KW (pl := pl) (thn (he pins s σ H (fun v H1 => ∃ a C dx fs vs F, v = .ref a ∧ H1 a = some (.ins C dx vs) ∧ IsF X.K H1 fs vs ∧ fs.lookup m = none ∧ FM C = some F ∧ Same H H1 ∧ Res X σ H (fun ds => Res X σ H (fun d => ∀ v H', Same H H' → Is X.K H' d v → Q v H') (F (.obj C fs :: ds))) (ga ρ)) I ⟨ρ, r, (Res.bind h).imp fun d h1 v H1 e1 i1 => ?_⟩) fun u s1 hP => ?_) ht
  · cases i1 with
    | obj hh rr =>
      dsimp only at h1
      split at h1
      · rename_i F hF hl; exact ⟨_, _, _, _, _, F, rfl, hh, rr, hl, hF, e1, Res.bind h1⟩
      · exact False.elim h1
    | _ => exact False.elim h1
  obtain ⟨x, H1, I1, rx, a, C, dx, fs, vs, F, ex, ea, ifs, l, hF, e1, q⟩ := hP
  subst ex
  obtain rfl : u = Value.ref a := rx
  obtain ⟨f, fd, ps, h1, h2, h3, hl, h4⟩ := G C F hF
  refine getmeth_ok I1 ea h1 h2 (ifs.lookupNone l) ?_
  have q' : tDA X B ga σ H1 (fun vs' H2 => ∃ ds, Same H1 H2 ∧ IsL X.K H2 ds vs' ∧ Res X σ H (fun d => ∀ v H', Same H H' → Is X.K H' d v → Q v H') (F (.obj C fs :: ds))) :=
    ⟨ρ, r.mono e1, Res.mono e1 q fun ds q1 vs' H2 e2 i2 => ⟨ds, e2, i2, q1⟩⟩
  refine PySem.W.callWith_K (first := [.ref a]) (h₀ := X.base) I.ok.mod.kin h2.kp (thn (ha pos pins s1 σ H1 _ I1 q') fun us s2 ⟨vs', H2, I2, r2, ds, e2, i2, q2⟩ => ⟨I2.kIn, ?_⟩) hst hpl
  exact run_D (us := .ref a :: us) (vs := .ref a :: vs') (ds := .obj C fs :: ds) h4 hr h3 I2 (.cons rfl r2) (.cons (.obj (e2 _ _ ea) (ifs.mono e2)) i2) (q2.mono (e1.trans e2) fun d z v H' e' i' => z v H' ((e1.trans e2).trans e') i') hl

/-! ### attributes; cs: the classes that are known -/
noncomputable def fld (cs : Addr → Bool) (f : Str) (fo : Rho → M D) : Rho → M D := fun ρ => bnd (fo ρ) fun x => match x with
  | .obj C fs => if cs C = true then (match fs.lookup f with | some d => ok d | none => none) else none
  | _ => none
theorem pd_fld {cs : Addr → Bool} {f : Str} (hC : ∀ C, cs C = true → Cls X.K C ∧ NoAttr X.K C f) (he : PD X B o fo) (hb : attributeBase o f X.env (eval o X.env) = eval o X.env := by rfl) : PD X B (.Attribute o f pos) (fld cs f fo) := by
  refine PE.of (pe_fld he hb) fun σ H Q h => ?_
  obtain ⟨ρ, r, h⟩ := h
  refine ⟨ρ, r, (Res.bind h).imp fun d h1 v H1 e1 i1 => ?_⟩
  cases i1 with
  | obj hh rr =>
    rename_i a C dx fs vs
    dsimp only at h1
    split at h1
    · rename_i hc
      split at h1
      · rename_i d hl
        obtain ⟨v, q1, q2⟩ := rr.lookup hl
        exact ⟨a, C, dx, vs, v, rfl, hh, (hC C hc).1, (hC C hc).2, q1, h1 v H1 e1 q2⟩
      · exact False.elim h1
    · exact False.elim h1
  | _ => exact False.elim h1

/-! ### C(..) -/
noncomputable def hid (H : Hp) (a : Addr) : Hp := fun b => if b = a then none else H b
noncomputable def spI (K : PySem.W.Frag) (C : Addr) (n : Nat) (F : List D → M (List (Str × D))) : Sp := fun vs H Q E => ∃ a dx ws ds, vs = .ref a :: ws ∧ H a = some (.ins C dx []) ∧ dx ≠ a ∧ IsL K (hid H a) ds ws ∧ vs.length = n ∧ (match F ds with
  | none => False
  | some (.error c) => ∀ H', Same (hid H a) H' → E (.ref c) none H'
  | some (.ok fs) => ∀ H' fvs, H' a = some (.ins C dx fvs) → IsF K H' fs fvs → Same (hid H a) H' → Q .non H')
/-- a class of the text by its name: what its __init__ makes of the arguments -/
noncomputable def Ctor (P : Program) (w : World) (K : PySem.W.Frag) (mg : Str → Option Value) (base : Heap) (k : Nat) (x : Str) (C : Addr) (F : List D → M (List (Str × D))) : Prop :=
  ∃ f fd ps, mg x = some (.ref C) ∧ Mk K C f ∧ Binds K fd ps [] ∧ (∀ ds r, F ds = some r → ds.length + 1 = ps.length) ∧ FnOk P w K mg base (CXD P w) k f fd ps (spI K C ps.length F)
theorem Ctor.mono {P : Program} {w : World} {K : PySem.W.Frag} {mg : Str → Option Value} {base : Heap} {j k : Nat} {x : Str} {C : Addr} {F : List D → M (List (Str × D))} (h : Ctor P w K mg base j x C F) (q : j ≤ k) : Ctor P w K mg base k x C F := by
  obtain ⟨f, fd, ps, h1, h2, h3, hl, h4⟩ := h
  exact ⟨f, fd, ps, h1, h2, h3, hl, h4.mono q⟩
noncomputable def mkO (C : Addr) (F : List D → M (List (Str × D))) (ds : List D) : M D := bnd (F ds) fun fs => ok (.obj C fs)
theorem run_mk {ps : List Str} {F : List D → M (List (Str × D))} (Mm : Mk X.K C f) (G : FnOk X.prog X.w X.K X.mg X.base (CXD X.prog X.w) k f fd ps (spI X.K C ps.length F)) (hr : Room (k + 1) X.A) (hb : Binds X.K fd ps []) (I : Inv X pins σ H s) (r : Vals vs us) (i : IsL X.K H ds vs)
    (h : Res X σ H (fun d => ∀ v H', Same H H' → Is X.K H' d v → Q v H') (mkO C F ds)) (hL : ∀ ds r, F ds = some r → ds.length + 1 = ps.length) : wpAny (model X.prog X.w) X.A (call (.ref C) us) (EP X pins σ Q) X.xe s := by
  have hF : ∃ z, F ds = some z := by
    cases q : F ds with
    | none => unfold mkO at h; rw [q] at h; exact False.elim h
    | some z => exact ⟨z, rfl⟩
  obtain ⟨z, hz⟩ := hF
  have hn := hL ds z hz
  have hsp : ∀ x dx, H x = none → H dx = none → dx ≠ x → spI X.K C ps.length F (.ref x :: vs) (upd (upd H dx (.own x)) x (.ins C dx [])) (fun v H2 => v = .non ∧ Q (.ref x) H2) (fun cv _ H' => ∃ c, cv = .ref c ∧ Same H H' ∧ Thr X σ H c) := by
    intro x dx hx hdx ne
    have sm : Same H (hid (upd (upd H dx (.own x)) x (.ins C dx [])) x) := fun b o q => by
      have hb : b ≠ x := ne_of_none q hx
      unfold hid
      rw [if_neg hb, upd_ne hb, upd_ne (ne_of_none q hdx)]
      exact q
    refine ⟨x, dx, vs, ds, rfl, upd_same, ne, i.mono sm, by rw [List.length_cons, ← i.length]; exact hn, ?_⟩
    unfold mkO at h
    rw [hz] at h ⊢
    cases z with
    | error c => exact fun H' e => ⟨c, rfl, sm.trans e, h⟩
    | ok fs => exact fun H' fvs e1 e2 e3 => ⟨rfl, h _ H' (sm.trans e3) (.obj e1 e2)⟩
  have hq := hsp (s.heap.objs.size + 1) s.heap.objs.size (I.hok.fresh (Nat.le_succ _)) (I.hok.fresh (Nat.le_refl _)) (Nat.ne_of_lt (Nat.lt_succ_self _))
  have I2 := Inv.made (C := C) I
  have r2 : Vals (V.ref (s.heap.objs.size + 1) :: vs) (Value.ref (s.heap.objs.size + 1) :: us) := .cons rfl r
  have hl : ((Value.ref (s.heap.objs.size + 1) :: us) ++ []).length = ps.length := by
    rw [List.append_nil, List.length_cons, ← r.length, ← i.length]; exact hn
  have hbb := hb { s with heap := (s.heap.push PySem.W.emptyDict).push (PySem.W.instObj C s.heap.objs.size) } (Value.ref (s.heap.objs.size + 1) :: us) I2.kIn hl
  rw [List.append_nil] at hbb
  refine wpAny_call (make_map (f := f) I.kIn Mm.makes Mm.init (beq_iff_eq.mp Mm.fn) (codeAny_mono (G.run _ X.stack _ _ ⟨Value.ref (s.heap.objs.size + 1) :: us, []⟩ (Value.ref (s.heap.objs.size + 1) :: us) _ _ _ (hr.make C us [])
    (I2.env0.make C us []) hbb r2 hq) fun r s' hq' => ?_))
  cases r with
  | error e =>
    obtain ⟨c, ea, H', ee, os, bare, un, fl, c', ec, sm', th⟩ := hq'
    cases ec
    exact th pins s' H' e sm' ⟨ea, ee, .inr ⟨_, _, I2, os, bare, un, fl⟩⟩
  | ok fl =>
    cases fl with
    | ret u =>
      obtain ⟨v, H', I3, rv, ev, q3⟩ := I2.after hq'
      subst ev
      exact ⟨rv, ⟨V.ref (s.heap.objs.size + 1), H', I3, rfl, q3⟩⟩
    | next => exact False.elim hq'
    | brk => exact False.elim hq'
    | cont => exact False.elim hq'
theorem pd_make0 {F : List D → M (List (Str × D))} (G : Ctor X.prog X.w X.K X.mg X.base k x C F) (hr : Room (k + 1) X.A) (hg : Gl X x) (hdb : (x == ("__debug__" : Str)) = false := by decide) : PD X B (.Call (.Name x p) [] [] pos) (fun _ => mkO C F []) := by
  intro pins s σ H Q I h
  obtain ⟨f, fd, ps, h1, h2, h3, hl, h4⟩ := G
  obtain ⟨ρ, r, h⟩ := h
  refine wpAny_Call_Name_kw (ld_glob I hg h1 ?_ hdb)
  exact PySem.W.callWith_K0 I.kIn h2.kp (run_mk (us := []) (vs := []) (ds := []) h2 h4 hr h3 I .nil .nil h hl)
end
end L2.PU

namespace L2.PU
open PySem PySem.Spec PyProof.Rows

/-! ### targets -/
noncomputable def tDG (X : Cx) (B : Hp) (G : D → Rho → Option Rho) : TG := fun v σ H Q => ∃ ρ d ρ', Rel X.K B ρ σ H ∧ Is X.K H d v ∧ G d ρ = some ρ' ∧ ∀ σ' H', Rel X.K B ρ' σ' H' → Q σ' H'
noncomputable abbrev PDG (X : Cx) (B : Hp) (tg : Expr) (G : D → Rho → Option Rho) : Prop := PG X tg (tDG X B G)
section
variable {X : Cx} {B : Hp} {tg : Expr} {pos : Pos} {x : Str}
noncomputable def gN (i : Nat) : D → Rho → Option Rho := fun d ρ => some (setV i d ρ)
theorem pdg_name {i : Nat} (hN : X.N.Nodup) (hi : X.N[i]? = some x) (hx : Loc X.env.scope x) (hf : X.fn x = true ∨ X.env.scope.names.lookup x = some .local := by first | exact .inl rfl | exact .inr rfl | assumption) : PDG X B (.Name x pos) (gN i) := by
  intro pins s σ H v u Q I r h
  obtain ⟨ρ, d, ρ', r1, i1, e, q⟩ := h
  cases e
  exact pg_name hN hi hx hf pins s σ H v u Q I r (q _ H (r1.setV i1))
/-- two names -/
noncomputable def gN2 (i j : Nat) : D → Rho → Option Rho := fun d ρ => match d with
  | .tup [a, b] => some (setV j b (setV i a ρ))
  | _ => none
theorem pdg_tup2 {i j : Nat} {y : Str} {p1 p2 : Pos} {k : Nat} (hc : X.calm = true) (hN : X.N.Nodup) (hi : X.N[i]? = some x) (hx : Loc X.env.scope x) (hj : X.N[j]? = some y) (hy : Loc X.env.scope y)
    (hf : X.fn x = true ∨ X.env.scope.names.lookup x = some .local := by first | exact .inl rfl | exact .inr rfl | assumption) (hf2 : X.fn y = true ∨ X.env.scope.names.lookup y = some .local := by first | exact .inl rfl | exact .inr rfl | assumption) :
    PDG X B (.Tuple [.Name x p1, .Name y p2] k pos) (gN2 i j) := by
  intro pins s σ H v u Q I r h
  obtain ⟨ρ, d, ρ', r1, i1, e, q⟩ := h
  unfold gN2 at e
  split at e
  · rename_i a b
    cases e
    cases i1 with
    | tup hh rr =>
      cases rr with
      | cons ia rr =>
        cases rr with
        | cons ib rr =>
          cases rr
          refine pg_tup (n := 2) hc (pgs_cons (pg_name hN hi hx hf) (pgs_cons (pg_name hN hj hy hf2) pgs_nil)) rfl rfl pins s σ H _ u Q I r ?_
          refine ⟨_, _, rfl, hh.sq, rfl, _, _, rfl, _, _, rfl, rfl, ?_⟩
          exact q _ H ((r1.setV ia).setV ib)
  · cases e
end

/-! ### loops -/
noncomputable def loop (G : D → Rho → Option Rho) (F : Rho → Option Out) : List D → Rho → Option Out
  | [], ρ => some (.nx ρ)
  | d :: ds, ρ => match G d ρ with
    | none => none
    | some ρ1 => match F ρ1 with
      | some (.nx ρ2) => loop G F ds ρ2
      | some (.ct ρ2) => loop G F ds ρ2
      | some (.bk ρ2) => some (.nx ρ2)
      | some (.rt d) => some (.rt d)
      | some (.ex c ρ2) => some (.ex c ρ2)
      | none => none
/-- the iterator yields these data as long as the heap keeps B -/
structure ItD (K : PySem.W.Frag) (J : It) (ds : List D) (B : Hp) : Prop where
  go : ∀ j H, Same B H → j < ds.length → J.go j H
  yld : ∀ j H x H', Same B H → J.yld j H x H' → j < ds.length → Same H H' ∧ ∃ d, ds[j]? = some d ∧ Is K H' d x
  stop : ∀ j H, Same B H → ds.length ≤ j → J.stop j H
theorem itd_list {K : PySem.W.Frag} {a : Addr} {ds : List D} {vs : List V} {B : Hp} (h : SqL K B a vs) (r : IsL K B ds vs) : ItD K (Itl K a) ds B where
  go := fun j H e q => ⟨vs, vs[j]'(by rw [← r.length]; exact q), e.seq h, by simp [show j < vs.length by rw [← r.length]; exact q]⟩
  yld := fun j H x H' e y q => by
    obtain ⟨y1, y2⟩ := y
    subst y1
    obtain ⟨d, h1, h2⟩ := r.getV (y2 vs (e.seq h))
    exact ⟨Same.refl _, d, h1, h2.mono e⟩
  stop := fun j H e q => ⟨vs, e.seq h, by rw [← r.length]; exact q⟩
theorem itd_tup {K : PySem.W.Frag} {a : Addr} {ds : List D} {vs : List V} {B : Hp} (h : SqT K B a vs) (r : IsL K B ds vs) : ItD K (Itt K a) ds B where
  go := fun j H e q => ⟨vs, vs[j]'(by rw [← r.length]; exact q), SqT.mono e h, by simp [show j < vs.length by rw [← r.length]; exact q]⟩
  yld := fun j H x H' e y q => by
    obtain ⟨y1, y2⟩ := y
    subst y1
    obtain ⟨d, h1, h2⟩ := r.getV (y2 vs (SqT.mono e h))
    exact ⟨Same.refl _, d, h1, h2.mono e⟩
  stop := fun j H e q => ⟨vs, SqT.mono e h, by rw [← r.length]; exact q⟩
noncomputable def rng (lo : Int) (n : Nat) : List D := (List.range n).map fun (j : Nat) => D.int (lo + (j : Int))
theorem itd_rng {K : PySem.W.Frag} (lo : Int) (n : Nat) (B : Hp) : ItD K (Itr lo n) (rng lo n) B where
  go := fun j H e q => by unfold rng at q; rw [List.length_map, List.length_range] at q; exact q
  yld := fun j H x H' e y q => by
    unfold rng at q; rw [List.length_map, List.length_range] at q
    obtain ⟨y1, y2⟩ := y
    subst y2
    subst y1
    refine ⟨Same.refl _, .int (lo + j), ?_, .int _⟩
    unfold rng
    rw [List.getElem?_map, List.getElem?_range q]; rfl
  stop := fun j H e q => by unfold rng at q; rw [List.length_map, List.length_range] at q; exact q
section
variable {X : Cx} {B : Hp} {tg iter : Expr} {pos : Pos} {G : D → Rho → Option Rho} {F : Rho → Option Out} {body : List Stmt}
theorem Rel.sub {K : PySem.W.Frag} {B B' : Hp} {ρ : Rho} {σ : St} {H : Hp} (e : Same B B') (r : Rel K B' ρ σ H) : Rel K B ρ σ H := by
  obtain ⟨O, h1, ho, h2, hl, h3⟩ := r
  exact ⟨O, h1, ho, e.trans h2, hl, h3⟩
theorem Good.sub {E : Ends} {B' : Hp} (e : Same B B') {o : Out} (h : Good X B E o) : Good X B' E o := by
  cases o with
  | nx ρ => exact fun σ H r => h σ H (r.sub e)
  | rt d => exact fun v H r i => h v H (e.trans r) i
  | bk ρ => exact fun σ H r => h σ H (r.sub e)
  | ct ρ => exact fun σ H r => h σ H (r.sub e)
  | ex c ρ => exact fun pins s σ H ev r x => h pins s σ H ev (r.sub e) x
/-- what the iterator must bring -/
noncomputable def IterOk (X : Cx) (B : Hp) (σ : St) (ds : List D) (ρ1 : Rho) (J : It) (H1 : Hp) : Prop := ∃ B', ItD X.K J ds B' ∧ Rel X.K B' ρ1 σ H1 ∧ Same B B'
theorem for_red {J : It} {H1 : Hp} {σ : St} {E : Ends} {ds : List D} {ρ1 : Rho} (hi : IterOk X B σ ds ρ1 J H1) (h : GoodO X B E (loop G F ds ρ1)) {g : TG} {tb : TS} (hg : ∀ B v σ H Q, tDG X B G v σ H Q → g v σ H Q) (hb : ∀ B E σ H, tDS X B F E σ H → tb E σ H) :
    ∃ W : Nat → Nat → St → Hp → Prop, (∃ m, W 0 m σ H1) ∧ ∀ i m σ H, W i m σ H →
      (J.stop i H ∧ E.nx σ H) ∨ (J.go i H ∧ ∃ N : St → Hp → Prop, (∀ σ' H', N σ' H' → ∃ m', m' < m ∧ W (i + 1) m' σ' H') ∧ ∀ x H', J.yld i H x H' → g x σ H' fun σ2 H2 => tb { E with nx := N, ct := N, bk := E.nx } σ2 H2) := by
  obtain ⟨B', hJ, r1, sB⟩ := hi
  refine ⟨fun j m σ H => m = ds.length - j ∧ j ≤ ds.length ∧ ∃ ρj, Rel X.K B' ρj σ H ∧ GoodO X B E (loop G F (ds.drop j) ρj), ⟨ds.length, by simp, Nat.zero_le _, ρ1, r1, by simpa using h⟩, ?_⟩
  rintro j m σ H ⟨rfl, hj, ρj, rj, gj⟩
  have sH : Same B' H := rj.kept
  by_cases hlt : j < ds.length
  · have hd : ds.drop j = ds[j] :: ds.drop (j + 1) := List.drop_eq_getElem_cons hlt
    rw [hd] at gj
    refine .inr ⟨hJ.go j H sH hlt, fun σ' H' => ∃ ρ', Rel X.K B' ρ' σ' H' ∧ GoodO X B E (loop G F (ds.drop (j + 1)) ρ'), fun σ' H' ⟨ρ', r', g'⟩ => ⟨ds.length - (j + 1), by omega, rfl, hlt, ρ', r', g'⟩, fun x H' y => ?_⟩
    obtain ⟨e1, d, e2, e3⟩ := hJ.yld j H x H' sH y hlt
    have ed : ds[j] = d := by rw [List.getElem?_eq_getElem hlt] at e2; exact Option.some.inj e2
    rw [ed] at gj
    unfold loop at gj
    cases q : G d ρj with
    | none => rw [q] at gj; exact False.elim gj
    | some ρa =>
      rw [q] at gj
      refine hg B' x σ H' _ ⟨ρj, d, ρa, rj.mono e1, e3, q, fun σ2 H2 r2 => hb B' _ σ2 H2 ⟨ρa, r2, ?_⟩⟩
      dsimp only at gj
      cases qf : F ρa with
      | none => rw [qf] at gj; exact False.elim gj
      | some o =>
        rw [qf] at gj
        cases o with
        | nx ρ2 => exact fun σ3 H3 r3 => ⟨ρ2, r3, gj⟩
        | ct ρ2 => exact fun σ3 H3 r3 => ⟨ρ2, r3, gj⟩
        | bk ρ2 => exact fun σ3 H3 r3 => gj σ3 H3 (r3.sub sB)
        | rt d => exact fun v H3 s3 i3 => gj v H3 (sB.trans s3) i3
        | ex c ρ2 => exact fun pins s σ3 H3 ev r3 x3 => gj pins s σ3 H3 ev (r3.sub sB) x3
  · have e : ds.drop j = [] := List.drop_eq_nil_of_le (by omega)
    rw [e] at gj
    exact .inl ⟨hJ.stop j H sH (by omega), gj σ H (rj.sub sB)⟩
/-- the data of a list or a tuple -/
noncomputable def itD : D → M (List D)
  | .lst ds => ok ds
  | .tup ds => ok ds
  | _ => none
noncomputable def iD (X : Cx) (tl : TE) : TI := fun σ H R => tl σ H fun x H1 => (∃ a, x = .ref a ∧ (∃ xs, SqL X.K H1 a xs) ∧ R (Itl X.K a) H1) ∨ (∃ a, x = .ref a ∧ (∃ xs, SqT X.K H1 a xs) ∧ R (Itt X.K a) H1)
theorem pi_D {l : Expr} {tl : TE} (hl : PE X l tl) : PI X tg l (iD X tl) := by
  intro pins s σ H R I h
  refine thn (hl pins s σ H _ I h) fun v s1 ⟨x, H1, I1, r1, q1⟩ => ?_
  rcases q1 with ⟨a, e, ⟨xs, hq⟩, q⟩ | ⟨a, e, ⟨xs, hq⟩, q⟩
  · subst e
    cases r1
    obtain ⟨its, rv, p, hz⟩ := I1.list hq
    refine wpAny_pyIter_list p.isList ?_
    refine ⟨s1.heap.objs.size, [s1.heap.objs.size], _, _, H1, rfl, I1.kept (t' := s1.toks) fun b o e => Heap.get?_push_of_some _ e, turn_list a _, ⟨_, Heap.get?_push_size _ rfl, rfl, rfl⟩, fun b hb => ?_, q⟩
    have e : b = s1.heap.objs.size := by simpa using hb
    subst e
    exact I1.fpOk (Nat.le_refl _) (I1.hok.fresh (Nat.le_refl _))
  · subst e
    cases r1
    obtain ⟨its, rv, p, hz⟩ := I1.tuple hq
    refine wpAny_pyIter_tuple (show s1.heap.IsTuple a its.toArray from p) ?_
    refine ⟨s1.heap.objs.size, [s1.heap.objs.size], _, _, H1, rfl, I1.kept (t' := s1.toks) fun b o e => Heap.get?_push_of_some _ e, turn_tuple a _, ⟨_, Heap.get?_push_size _ rfl, rfl, rfl⟩, fun b hb => ?_, q⟩
    have e : b = s1.heap.objs.size := by simpa using hb
    subst e
    exact I1.fpOk (Nat.le_refl _) (I1.hok.fresh (Nat.le_refl _))
theorem pds_forG {wi : TI} {S : Rho → Option Out} (hp : PassesOwn (model X.prog X.w) X.A X.env X.xe) (hc : X.calm = true) (hi : PI X tg iter wi) (hg : ∀ B, PDG X B tg G) (hb : ∀ B, PDB X B body F)
    (hr : ∀ E σ H R, tDS X B S E σ H → (∀ J H1 ds ρ1, IterOk X B σ ds ρ1 J H1 → GoodO X B E (loop G F ds ρ1) → R J H1) → wi σ H R) (hs : ∀ x, foldedSetIterable iter X.env x = pure x := by intro _; rfl) : PDS X B (.For tg iter body [] pos) S := by
  have hg' : PG X tg (fun v σ H Q => ∃ B, tDG X B G v σ H Q) := fun pins s σ H v u Q I r ⟨B, h⟩ => hg B pins s σ H v u Q I r h
  have hb' : PSs X body (fun E σ H => ∃ B, tDS X B F E σ H) := fun pins s σ H E I ⟨B, h⟩ => hb B pins s σ H E I h
  refine PS.of (ps_for hp hc hi hg' hb' hs) fun E σ H h => ?_
  exact hr E σ H _ h fun J H1 ds ρ1 i1 g1 => for_red (g := fun v σ H Q => ∃ B, tDG X B G v σ H Q) (tb := fun E σ H => ∃ B, tDS X B F E σ H) i1 g1 (fun B v σ H Q q => ⟨B, q⟩) fun B E σ H q => ⟨B, q⟩
/-- over a name's list or tuple -/
noncomputable def relAt (i : Nat) (ρ : Rho) : Rho := match ρ[i]? with
  | some (some (.own _)) => free ρ
  | some (some (.oin _ _ _ _)) => free ρ
  | some (some (.ow _)) => free ρ
  | some (some (.tk _)) => free ρ
  | _ => ρ
noncomputable def sForN (i : Nat) (G : D → Rho → Option Rho) (F : Rho → Option Out) : Rho → Option Out := fun ρ => match look i ρ with
  | some (.ok d) => (match itD d with
    | some (.ok ds) => loop G F ds (relAt i ρ)
    | _ => none)
  | _ => none
/-- the whole heap stays as the base -/
theorem Rel.base {K : PySem.W.Frag} {B : Hp} {ρ : Rho} {σ : St} {H : Hp} (r : Rel K B ρ σ H) : ∃ B', Rel K B' ρ σ H ∧ Same B B' ∧ Same B' H ∧ (∀ (i : Nat) (d : D), ρ[i]? = some (some (SV.sh d)) → ∃ v, σ[i]? = some (some v) ∧ Is K B' d v) ∧ (∀ d v, d.imm = true → Is K H d v → Is K B' d v) := by
  obtain ⟨O, h1, ho, h2, hl, h3⟩ := r
  exact ⟨Off H O, ⟨O, h1, ho, Same.refl _, hl, h3⟩, h2, Off.same _ _, fun i d q => h3 i _ q, fun d v q i => off_imm ho q i⟩
theorem Rel.baseAll {K : PySem.W.Frag} {B : Hp} {ρ : Rho} {σ : St} {H : Hp} (r : Rel K B ρ σ H) : Rel K H (free ρ) σ H := by
  have e0 : Off H (fun _ => none) = H := by funext b; unfold Off; rw [if_neg (fun ⟨i, e⟩ => nomatch e)]
  refine ⟨fun _ => none, (by intro _ _ _ q; cases q), (by intro _ _ q; cases q), by rw [e0]; exact Same.refl _, ?_, fun i sv q => ?_⟩
  · obtain ⟨O, _, _, _, hl, _⟩ := r.freed
    exact hl
  · unfold free at q
    rw [List.getElem?_map] at q
    obtain ⟨o, e1, e2⟩ := Option.map_eq_some_iff.mp q
    cases o with
    | none => cases e2
    | some sv0 =>
      have e2' : sv0.rel = sv := Option.some.inj e2
      subst e2'
      obtain ⟨v, e3, e4⟩ := r.get e1
      have : sv0.rel = .sh sv0.cur := by cases sv0 <;> rfl
      rw [this]
      exact ⟨v, e3, by rw [e0]; exact e4⟩
theorem iter_of {K : PySem.W.Frag} {H : Hp} {d : D} {v : V} {ds : List D} (i : Is K H d v) (h : itD d = ok ds) : ∃ a vs, v = .ref a ∧ IsL K H ds vs ∧ (SqL K H a vs ∨ SqT K H a vs) := by
  cases i with
  | lst hh r => have := ok_inj h; subst this; exact ⟨_, _, rfl, r, .inl hh⟩
  | tup hh r => have := ok_inj h; subst this; exact ⟨_, _, rfl, r, .inr hh⟩
  | _ => exact nomatch h
theorem pds_forN (i : Nat) {x : Str} {p : Pos} (hN : X.N[i]? = some x) (hv : Vis X.env.scope x) (hp : PassesOwn (model X.prog X.w) X.A X.env X.xe) (hc : X.calm = true) (hg : ∀ B, PDG X B tg G) (hb : ∀ B, PDB X B body F)
    (hd : (x == ("__debug__" : Str)) = false := by decide) (hcd : (x == ("__classdict__" : Str)) = false := by decide) (hs : ∀ y, foldedSetIterable (.Name x p) X.env y = pure y := by intro _; rfl) : PDS X B (.For tg (.Name x p) body [] pos) (sForN i G F) := by
  refine pds_forG hp hc (pi_D (pe_var hN hv hd hcd)) hg hb (fun E σ H R h k => ?_) hs
  obtain ⟨ρ, r, h⟩ := h
  unfold sForN look at h
  split at h
  · rename_i d0 hd0
    split at hd0
    · rename_i sv q
      have e := ok_inj hd0
      subst e
      split at h
      · rename_i ds hds
        obtain ⟨v, e1, e2⟩ := r.get q
        obtain ⟨a, vs, rfl, il, hq⟩ := iter_of e2 hds
        refine ⟨_, e1, ?_⟩
        have key : ∃ B' vs, Rel X.K B' (relAt i ρ) σ H ∧ Same B B' ∧ IsL X.K B' ds vs ∧ (SqL X.K B' a vs ∨ SqT X.K B' a vs) := by
          cases sv with
          | sh d =>
            obtain ⟨B', b1, b2, b3, b4, b5⟩ := r.base
            obtain ⟨v', f1, f2⟩ := b4 i d q
            rw [e1] at f1
            have := Option.some.inj (Option.some.inj f1); subst this
            obtain ⟨a', vs', ea, il', hq'⟩ := iter_of f2 hds
            cases ea
            have e : relAt i ρ = ρ := by unfold relAt; rw [q]
            exact ⟨B', vs', by rw [e]; exact b1, b2, il', hq'⟩
          | own ds' =>
            have e : relAt i ρ = free ρ := by unfold relAt; rw [q]
            exact ⟨H, vs, by rw [e]; exact r.baseAll, r.kept, il, hq⟩
          | oin a C dx fs =>
            have e : relAt i ρ = free ρ := by unfold relAt; rw [q]
            exact ⟨H, vs, by rw [e]; exact r.baseAll, r.kept, il, hq⟩
          | ow o =>
            have e : relAt i ρ = free ρ := by unfold relAt; rw [q]
            exact ⟨H, vs, by rw [e]; exact r.baseAll, r.kept, il, hq⟩
          | tk ks =>
            have e : relAt i ρ = free ρ := by unfold relAt; rw [q]
            exact ⟨H, vs, by rw [e]; exact r.baseAll, r.kept, il, hq⟩
        obtain ⟨B', vs', k1, k2, k3, k4⟩ := key
        rcases k4 with k4 | k4
        · exact .inl ⟨a, rfl, ⟨_, k1.kept.seq k4⟩, k _ H ds (relAt i ρ) ⟨B', itd_list k4 k3, k1, k2⟩ h⟩
        · exact .inr ⟨a, rfl, ⟨_, SqT.mono k1.kept k4⟩, k _ H ds (relAt i ρ) ⟨B', itd_tup k4 k3, k1, k2⟩ h⟩
      · exact False.elim h
    · exact nomatch hd0
  · exact False.elim h
/-- over any expression's list or tuple -/
noncomputable def sForE (f : Rho → M D) (G : D → Rho → Option Rho) (F : Rho → Option Out) : Rho → Option Out := fun ρ => lft (f ρ) ρ fun d => match itD d with
  | some (.ok ds) => loop G F ds (if d.imm = true then ρ else free ρ)
  | _ => none
theorem pds_forE {fa : Rho → M D} (hp : PassesOwn (model X.prog X.w) X.A X.env X.xe) (hc : X.calm = true) (he : PD X B iter fa) (hg : ∀ B, PDG X B tg G) (hb : ∀ B, PDB X B body F) (hs : ∀ y, foldedSetIterable iter X.env y = pure y := by intro _; rfl) : PDS X B (.For tg iter body [] pos) (sForE fa G F) := by
  refine pds_forG hp hc (pi_D he) hg hb (fun E σ H R h k => ?_) hs
  obtain ⟨ρ, r, h⟩ := h
  refine ⟨ρ, r, (lft_red r h).imp fun d h1 v H1 e1 i1 => ?_⟩
  split at h1
  · rename_i ds hds
    obtain ⟨a, vs, rfl, il, hq⟩ := iter_of i1 hds
    have r1 := r.mono e1
    have key : ∃ B' vs, Rel X.K B' (if d.imm = true then ρ else free ρ) σ H1 ∧ Same B B' ∧ IsL X.K B' ds vs ∧ (SqL X.K B' a vs ∨ SqT X.K B' a vs) := by
      by_cases q : d.imm = true
      · obtain ⟨B', b1, b2, b3, b4, b5⟩ := r1.base
        obtain ⟨a', vs', ea, il', hq'⟩ := iter_of (b5 d _ q i1) hds
        cases ea
        rw [if_pos q]
        exact ⟨B', vs', b1, b2, il', hq'⟩
      · rw [if_neg q]
        exact ⟨H1, vs, r1.baseAll, r1.kept, il, hq⟩
    obtain ⟨B', vs', k1, k2, k3, k4⟩ := key
    rcases k4 with k4 | k4
    · exact .inl ⟨a, rfl, ⟨_, k1.kept.seq k4⟩, k _ H1 ds _ ⟨B', itd_list k4 k3, k1, k2⟩ h1⟩
    · exact .inr ⟨a, rfl, ⟨_, SqT.mono k1.kept k4⟩, k _ H1 ds _ ⟨B', itd_tup k4 k3, k1, k2⟩ h1⟩
  · exact False.elim h1
/-- range(n), range(a, b) -/
noncomputable def sForR1 (f : Rho → M D) (G : D → Rho → Option Rho) (F : Rho → Option Out) : Rho → Option Out := fun ρ => lft (f ρ) ρ fun d => match d with
  | .int j => if j < 2 ^ 62 ∧ -(2 ^ 62) ≤ j then loop G F (rng 0 j.toNat) ρ else none
  | _ => none
theorem pds_forR1 {a : Expr} {fa : Rho → M D} {p p1 : Pos} (hgl : Gl X "range") (hm : X.mg "range" = none) (hp : PassesOwn (model X.prog X.w) X.A X.env X.xe) (hc : X.calm = true) (he : PD X B a fa) (hg : ∀ B, PDG X B tg G) (hb : ∀ B, PDB X B body F)
    (hst : starEach [a] X.env = [(false, eval a X.env)] := by exact star1 rfl) (hs : ∀ y, foldedSetIterable (.Call (.Name "range" p) [a] [] p1) X.env y = pure y := by intro _; rfl) : PDS X B (.For tg (.Call (.Name "range" p) [a] [] p1) body [] pos) (sForR1 fa G F) := by
  refine pds_forG hp hc (pi_range1 hgl hm (pa_cons he pa_nil hst) hst) hg hb (fun E σ H R h k => ?_) hs
  obtain ⟨ρ, r, h⟩ := h
  refine ⟨ρ, r, (lft_red r h).imp fun d h1 v H1 e1 i1 => ?_⟩
  cases i1 <;> first | exact False.elim h1 | skip
  rename_i j
  dsimp only at h1
  split at h1
  · rename_i hj
    obtain ⟨B', b1, b2, b3, b4, b5⟩ := (r.mono e1).base
    exact ⟨j, rfl, hj.2, hj.1, k _ H1 _ ρ ⟨B', itd_rng 0 j.toNat B', b1, b2⟩ h1⟩
  · exact False.elim h1
end
end L2.PU

namespace L2.PU
open PySem PySem.Spec PyProof.Rows

/-! ### self.f = value, while the instance is being made -/
noncomputable def putD (f : Str) (v : D) : List (Str × D) → List (Str × D)
  | [] => [(f, v)]
  | (g, x) :: r => if g = f then (g, v) :: r else (g, x) :: putD f v r
theorem isF_put {K : PySem.W.Frag} {H : Hp} {f : Str} {d : D} {v : V} (i : Is K H d v) : ∀ {fs : List (Str × D)} {vs : List (Str × V)}, IsF K H fs vs → IsF K H (putD f d fs) (putF f v vs)
  | _, _, .nil => .cons i .nil
  | _, _, .cons (x := g) h r => by
    unfold putD putF
    by_cases q : g = f
    · rw [if_pos q, if_pos q]; exact .cons i r
    · rw [if_neg q, if_neg q]; exact .cons h (isF_put i r)
section
variable {X : Cx} {B : Hp} {e : Expr} {fa : Rho → M D} {pos pos' p : Pos} {x f : Str}
theorem Rel.put {K : PySem.W.Frag} {B H : Hp} {ρ : Rho} {σ : St} {i : Nat} {a C dx : Addr} {fs : List (Str × D)} {d : D} {v : V} (O : Nat → Option Addr) (h1 : ∀ i j a, O i = some a → O j = some a → i = j) (ho : OwnK H O) (h2 : Same B (Off H O)) (hl : ρ.length = σ.length)
    (h3 : ∀ i sv, ρ[i]? = some (some sv) → Slot K H O σ i sv) (q : ρ[i]? = some (some (.oin a C dx fs))) (iv : Is K (Off H O) d v) {vs : List (Str × V)} (hv : H a = some (.ins C dx vs)) : Rel K B (ρ.set i (some (.oin a C dx (putD f d fs)))) σ (upd H a (.ins C dx (putF f v vs))) := by
  obtain ⟨z1, z2, z3, vs', z4, z5⟩ := h3 i _ q
  rw [hv] at z4
  cases z4
  have eo : Off (upd H a (.ins C dx (putF f v vs))) O = Off H O := Off.upd z1
  refine ⟨O, h1, fun j b qj => ?_, by rw [eo]; exact h2, by rw [List.length_set, hl], fun j sv qj => ?_⟩
  · by_cases e : b = a
    · subst e; exact ⟨_, upd_same, rfl⟩
    · obtain ⟨u, w, m⟩ := ho j b qj
      exact ⟨u, by rw [upd_ne e]; exact w, m⟩
  · by_cases e : j = i
    · subst e
      have hj : j < ρ.length := (List.getElem?_eq_some_iff.mp q).1
      rw [List.getElem?_set_self hj] at qj
      have q' := Option.some.inj (Option.some.inj qj)
      subst q'
      exact ⟨z1, z2, z3, _, upd_same, by rw [eo]; exact isF_put iv z5⟩
    · rw [List.getElem?_set_ne (Ne.symm e)] at qj
      have z := h3 j sv qj
      cases sv with
      | sh d' => obtain ⟨v', e1, e2⟩ := z; exact ⟨v', e1, by rw [eo]; exact e2⟩
      | own ds =>
        obtain ⟨b, ws, e1, e2, e3, e4⟩ := z
        have nb : b ≠ a := fun w => e (h1 j i a (by rw [← w]; exact e1) z1)
        exact ⟨b, ws, e1, e2, by rw [upd_ne nb]; exact e3, by rw [eo]; exact e4⟩
      | oin b C' dx' fs' =>
        obtain ⟨e1, e2, e3, ws, e4, e5⟩ := z
        have nb : b ≠ a := fun w => e (h1 j i a (by rw [← w]; exact e1) z1)
        exact ⟨e1, e2, e3, ws, by rw [upd_ne nb]; exact e4, by rw [eo]; exact e5⟩
      | ow o =>
        obtain ⟨b, u, e1, e2, e3, e4⟩ := z
        have nb : b ≠ a := fun w => e (h1 j i a (by rw [← w]; exact e1) z1)
        exact ⟨b, u, e1, e2, by rw [upd_ne nb]; exact e3, by rw [eo]; exact e4⟩
      | tk ks => obtain ⟨b, e1, e2⟩ := z; exact ⟨b, e1, by rw [eo]; exact e2⟩
noncomputable def putAt (cs : Addr → Bool) (i : Nat) (f : Str) (d : D) (ρ : Rho) : Option Out := match ρ[i]? with
  | some (some (.oin a C dx fs)) => if cs C = true ∧ fs.length < 1000 then some (.nx (ρ.set i (some (.oin a C dx (putD f d fs))))) else none
  | _ => none
noncomputable def sFldI (cs : Addr → Bool) (i : Nat) (f : Str) (fa : Rho → M D) : Rho → Option Out := fun ρ => lft (fa ρ) ρ fun d => if d.imm = true then putAt cs i f d ρ else none
theorem pds_fldI {cs : Addr → Bool} {i : Nat} (hC : ∀ C, cs C = true → Cls X.K C ∧ NoAttr X.K C f) (hN : X.N[i]? = some x) (hv : Vis X.env.scope x) (he : PD X B e fa) (hs : swapsWith e (some (.Attribute (.Name x p) f pos')) pos.line X.env = pure false := by rfl)
    (hd : (x == ("__debug__" : Str)) = false := by decide) (hcd : (x == ("__classdict__" : Str)) = false := by decide) : PDS X B (.Assign [.Attribute (.Name x p) f pos'] e pos) (sFldI cs i f fa) := by
  refine PS.of (ps_fld (pe_var hN hv hd hcd) he hs) fun E σ H h => ?_
  obtain ⟨ρ, r, h⟩ := h
  refine ⟨ρ, r, (lft_red r h).imp fun d h1 v H1 e1 i1 => ?_⟩
  split at h1
  · rename_i hm
    unfold putAt at h1
    split at h1
    · rename_i a C dx fs q
      split at h1
      · rename_i hc
        obtain ⟨O, g1, go, g2, gl, g3⟩ := r.mono e1
        obtain ⟨z1, z2, z3, vs, z4, z5⟩ := g3 i _ q
        exact ⟨_, z2, a, C, dx, vs, rfl, z4, (hC C hc.1).1, (hC C hc.1).2, by rw [← z5.length]; exact hc.2, h1 σ _ (Rel.put O g1 go g2 gl g3 q (off_imm go hm i1) z4)⟩
      · exact False.elim h1
    · exact False.elim h1
  · exact False.elim h1
end

/-! ### a def by its body (no exception leaves it) -/
noncomputable def rho0 (N : List Str) (ds : List D) : Rho := ds.map (fun d => some (.sh d)) ++ List.replicate (N.length - ds.length) none
noncomputable def fnRes : Option Out → M D
  | some (.rt d) => ok d
  | some (.nx _) => ok .non
  | some (.ex c _) => err c
  | _ => none
theorem get_append_map {α β : Type} {f : α → β} : ∀ {l : List α} {r : List β} {i : Nat} {b : β}, (l.map f ++ r)[i]? = some b → (∃ a, l[i]? = some a ∧ b = f a) ∨ (l.length ≤ i ∧ r[i - l.length]? = some b)
  | l, r, i, b, h => by
    by_cases q : i < l.length
    · rw [List.getElem?_append_left (by simpa using q), List.getElem?_map] at h
      obtain ⟨a, e1, e2⟩ := Option.map_eq_some_iff.mp h
      exact .inl ⟨a, e1, e2.symm⟩
    · rw [List.getElem?_append_right (by simpa using q), List.length_map] at h
      exact .inr ⟨by omega, h⟩
theorem start_get {N : List Str} {vs : List V} {i : Nat} {v : V} (h : vs[i]? = some v) : (start N vs)[i]? = some (some v) := by
  unfold start
  have q : i < vs.length := (List.getElem?_eq_some_iff.mp h).1
  rw [List.getElem?_append_left (by simpa using q), List.getElem?_map, h]; rfl
theorem start_length {N : List Str} {vs : List V} (h : vs.length ≤ N.length) : (start N vs).length = N.length := by
  unfold start; rw [List.length_append, List.length_map, List.length_replicate]; omega
theorem rho0_length {N : List Str} {ds : List D} (h : ds.length ≤ N.length) : (rho0 N ds).length = N.length := by
  unfold rho0; rw [List.length_append, List.length_map, List.length_replicate]; omega
theorem rel_start {K : PySem.W.Frag} {H : Hp} {N : List Str} {ds : List D} {vs : List V} (i : IsL K H ds vs) (hl : ds.length ≤ N.length) : Rel K H (rho0 N ds) (start N vs) H := by
  have e0 : Off H (fun _ => none) = H := by funext b; unfold Off; rw [if_neg (fun ⟨i, e⟩ => nomatch e)]
  refine ⟨fun _ => none, (by intro _ _ _ q; cases q), (by intro _ _ q; cases q), by rw [e0]; exact Same.refl _, by rw [rho0_length hl, start_length (by rw [← i.length]; exact hl)], fun j sv q => ?_⟩
  unfold rho0 at q
  rcases get_append_map q with ⟨d, e1, e2⟩ | ⟨_, e2⟩
  · cases e2
    obtain ⟨v, h1, h2⟩ := i.get e1
    exact ⟨v, start_get h1, by rw [e0]; exact h2⟩
  · rw [List.getElem?_replicate] at e2
    split at e2 <;> cases e2
section
variable {P : Program} {w : World} {K : PySem.W.Frag} {mg : Str → Option Value} {base : Heap}
noncomputable abbrev cxN (P : Program) (w : World) (K : PySem.W.Frag) (mg : Str → Option Value) (base : Heap) (N : List Str) (qual : Str) (scope : Scope) (f : Addr) (cd : Value) (A : Around) (outer : List Env) (s : Shared) (H : Hp) (E : XK) : Cx :=
  (cxOf (CXD P w) P w K mg base N qual scope f cd A outer s H E).nox
theorem fn_D {x qual : Str} {st : Stmt} {f : Addr} {fd : FuncData} {N ps : List Str} {k : Nat} {F : List D → M D} (Fu : Fun K x qual st f fd) (S : FnScope N ps (defScope st)) (hL : ∀ ds r, F ds = some r → ds.length = ps.length)
    (hbody : ∀ (cdv : Value) (A : Around) (outer : List Env) (s : Shared) (H : Hp) (E : XK), Room k (A.deeper (envOfC qual (defScope st) s.heap.objs.size f cdv)) →
      ∃ F', (∀ B, PDB (cxN P w K mg base N qual (defScope st) f cdv A outer s H E) B (defBody st) F') ∧ ∀ ds r, F ds = some r → ∃ d, r = .ok d ∧ fnRes (F' (rho0 N ds)) = ok d) : FnD P w K mg base (k + 1) f fd ps F := by
  obtain ⟨oc, od, kV, doc, pm, an, cdv, ct, osl, rfl, lk, hcd⟩ := Fu.ex
  refine fn_of lk hcd S (fun vs H Q E ⟨ds, i, hl, _⟩ => hl) fun A outer s H vs Q E hr hsp => ?_
  obtain ⟨F', hF, hq⟩ := hbody cdv A outer s H E hr
  refine ⟨_, (hF H).nox, ?_⟩
  obtain ⟨ds, i, hl, h⟩ := hsp
  have hn : ps.length ≤ N.length := by have := congrArg List.length S.pre; rw [List.length_take] at this; omega
  cases q : F ds with
  | none => rw [q] at h; exact False.elim h
  | some r =>
    rw [q] at h
    obtain ⟨d, rfl, e⟩ := hq ds r q
    refine ⟨rho0 N ds, rel_start i (by rw [i.length, hl]; exact hn), ?_⟩
    cases qf : F' (rho0 N ds) with
    | none => rw [qf] at e; cases e
    | some o =>
      rw [qf] at e
      cases o with
      | rt d' => have := ok_inj e; subst this; exact fun v H' s' i' => h v H' s' i'
      | nx ρ => have := ok_inj e; subst this; exact fun σ' H' r' => h _ H' r'.kept .non
      | bk ρ => cases e
      | ct ρ => cases e
      | ex c ρ => cases e
/-- __init__: the first slot is the instance -/
noncomputable def rhoI (N : List Str) (a C dx : Addr) (ds : List D) : Rho := some (.oin a C dx []) :: (ds.map (fun d => some (.sh d)) ++ List.replicate (N.length - (ds.length + 1)) none)
theorem rel_startI {H : Hp} {N : List Str} {a C dx : Addr} {ds : List D} {vs : List V} (ha : H a = some (.ins C dx [])) (hd : dx ≠ a) (i : IsL K (hid H a) ds vs) (hl : ds.length + 1 ≤ N.length) : Rel K (hid H a) (rhoI N a C dx ds) (start N (.ref a :: vs)) H := by
  have e0 : Off H (fun j => if j = 0 then some a else none) = hid H a := by
    funext b; unfold Off hid
    by_cases q : b = a
    · rw [if_pos q, if_pos ⟨0, by simp [q]⟩]
    · rw [if_neg q, if_neg]
      rintro ⟨j, e⟩
      dsimp only at e
      split at e
      · cases e; exact q rfl
      · cases e
  refine ⟨fun j => if j = 0 then some a else none, fun j k b q1 q2 => ?_, fun j b q => ?_, by rw [e0]; exact Same.refl _, ?_, fun j sv q => ?_⟩
  · by_cases z1 : j = 0
    · by_cases z2 : k = 0
      · omega
      · simp [z2] at q2
    · simp [z1] at q1
  · by_cases z1 : j = 0
    · simp [z1] at q; subst q; exact ⟨_, ha, rfl⟩
    · simp [z1] at q
  · rw [start_length (by rw [List.length_cons, ← i.length]; exact hl)]
    unfold rhoI
    rw [List.length_cons, List.length_append, List.length_map, List.length_replicate]
    omega
  · cases j with
    | zero =>
      unfold rhoI at q
      cases q
      exact ⟨rfl, start_get rfl, hd, [], ha, .nil⟩
    | succ j =>
      unfold rhoI at q
      rw [List.getElem?_cons_succ] at q
      rcases get_append_map q with ⟨d, e1, e2⟩ | ⟨_, e2⟩
      · cases e2
        obtain ⟨v, h1, h2⟩ := i.get e1
        exact ⟨v, start_get (by rw [List.getElem?_cons_succ]; exact h1), by rw [e0]; exact h2⟩
      · rw [List.getElem?_replicate] at e2
        split at e2 <;> cases e2
noncomputable def iniRes (a C dx : Addr) : Option Out → M (List (Str × D))
  | some (.nx (some (.oin a' C' dx' fs) :: _)) => if a' = a ∧ C' = C ∧ dx' = dx then ok fs else none
  | _ => none
theorem init_D {x qual : Str} {st : Stmt} {f C : Addr} {fd : FuncData} {N ps : List Str} {k : Nat} {F : List D → M (List (Str × D))} (Fu : Fun K x qual st f fd) (S : FnScope N ps (defScope st)) (hL : ∀ ds r, F ds = some r → ds.length + 1 = ps.length)
    (hbody : ∀ (cdv : Value) (A : Around) (outer : List Env) (s : Shared) (H : Hp) (E : XK), Room k (A.deeper (envOfC qual (defScope st) s.heap.objs.size f cdv)) →
      ∃ F', (∀ B, PDB (cxN P w K mg base N qual (defScope st) f cdv A outer s H E) B (defBody st) F') ∧ ∀ ds r a dx, F ds = some r → ∃ fs, r = .ok fs ∧ iniRes a C dx (F' (rhoI N a C dx ds)) = ok fs) : FnOk P w K mg base (CXD P w) (k + 1) f fd ps (spI K C ps.length F) := by
  obtain ⟨oc, od, kV, doc, pm, an, cdv, ct, osl, rfl, lk, hcd⟩ := Fu.ex
  refine fn_of lk hcd S (fun vs H Q E hz => by obtain ⟨a, dx, ws, ds, _, _, _, _, hl, _⟩ := hz; exact hl) fun A outer s H vs Q E hr hsp => ?_
  obtain ⟨F', hF, hq⟩ := hbody cdv A outer s H E hr
  obtain ⟨a, dx, ws, ds, rfl, ha, hd, i, hl, h⟩ := hsp
  refine ⟨_, (hF (hid H a)).nox, ?_⟩
  have hn : ps.length ≤ N.length := by have := congrArg List.length S.pre; rw [List.length_take] at this; omega
  cases q : F ds with
  | none => rw [q] at h; exact False.elim h
  | some r =>
    rw [q] at h
    obtain ⟨fs, rfl, e⟩ := hq ds r a dx q
    refine ⟨rhoI N a C dx ds, rel_startI ha hd i (by rw [i.length]; rw [List.length_cons] at hl; omega), ?_⟩
    unfold iniRes at e
    split at e
    · rename_i a' C' dx' fs' rest qf
      split at e
      · rename_i hh
        obtain ⟨rfl, rfl, rfl⟩ := hh
        have := ok_inj e; subst this
        rw [qf]
        intro σ' H' r'
        obtain ⟨O, g1, go, g2, gl, g3⟩ := r'
        obtain ⟨z1, z2, z3, vs', z4, z5⟩ := g3 0 _ rfl
        exact h H' vs' z4 (z5.mono (Off.same _ _)) (g2.trans (Off.same _ _))
      · cases e
    · cases e
end
end L2.PU

namespace L2.PU
open PySem PySem.Spec PyProof.Rows

/-! ### running a denotation -/
theorem sSeq_nx {F G : Rho → Option Out} {ρ ρ' : Rho} (h : F ρ = some (.nx ρ')) : sSeq F G ρ = G ρ' := by unfold sSeq; rw [h]
theorem sSeq_rt {F G : Rho → Option Out} {ρ : Rho} {d : D} (h : F ρ = some (.rt d)) : sSeq F G ρ = some (.rt d) := by unfold sSeq; rw [h]
theorem sIf_t {t : Rho → M Bool} {F G : Rho → Option Out} {ρ : Rho} (h : t ρ = ok true) : sIf t F G ρ = F ρ := by unfold sIf; rw [h]; rfl
theorem sIf_f {t : Rho → M Bool} {F G : Rho → Option Out} {ρ : Rho} (h : t ρ = ok false) : sIf t F G ρ = G ρ := by unfold sIf; rw [h]; rfl
theorem sRet_ok {f : Rho → M D} {ρ : Rho} {d : D} (h : f ρ = ok d) : sRet f ρ = some (.rt d) := by unfold sRet; rw [h]; rfl
theorem sSet_ok {i : Nat} {f : Rho → M D} {ρ : Rho} {d : D} (h : f ρ = ok d) : sSet i f ρ = some (.nx (setV i d ρ)) := by unfold sSet; rw [h]; rfl
theorem setV_imm {i : Nat} {d : D} {ρ : Rho} (h : d.imm = true) : setV i d ρ = ρ.set i (some (.sh d)) := by unfold setV; rw [if_pos h]
theorem sForR1_ok {f : Rho → M D} {G : D → Rho → Option Rho} {F : Rho → Option Out} {ρ : Rho} {j : Int} (h : f ρ = ok (.int j)) (h1 : j < 2 ^ 62) (h2 : -(2 ^ 62) ≤ j) : sForR1 f G F ρ = loop G F (rng 0 j.toNat) ρ := by
  unfold sForR1
  rw [h, lft_ok]
  dsimp only
  rw [if_pos ⟨h1, h2⟩]
theorem sForE_ok {f : Rho → M D} {G : D → Rho → Option Rho} {F : Rho → Option Out} {ρ : Rho} {d : D} {ds : List D} (h : f ρ = ok d) (h1 : itD d = ok ds) : sForE f G F ρ = loop G F ds (if d.imm = true then ρ else free ρ) := by
  unfold sForE
  rw [h, lft_ok, h1]
  rfl
theorem loop_inv {G : D → Rho → Option Rho} {F : Rho → Option Out} (P : List D → Rho → Prop) : ∀ (ds pre : List D) (ρ : Rho), P pre ρ →
    (∀ p d q ρ, pre ++ ds = p ++ d :: q → P p ρ → ∃ ρ1 ρ2, G d ρ = some ρ1 ∧ (F ρ1 = some (.nx ρ2) ∨ F ρ1 = some (.ct ρ2)) ∧ P (p ++ [d]) ρ2) → ∃ ρ', loop G F ds ρ = some (.nx ρ') ∧ P (pre ++ ds) ρ'
  | [], pre, ρ, h, _ => ⟨ρ, rfl, by rw [List.append_nil]; exact h⟩
  | d :: ds, pre, ρ, h, st => by
    obtain ⟨ρ1, ρ2, h1, h2, h3⟩ := st pre d ds ρ rfl h
    obtain ⟨ρ', h4, h5⟩ := loop_inv P ds (pre ++ [d]) ρ2 h3 (fun p d' q ρ e hp => st p d' q ρ (by rw [← e, List.append_assoc]; rfl) hp)
    refine ⟨ρ', ?_, by rw [List.append_assoc] at h5; exact h5⟩
    unfold loop
    rw [h1]
    dsimp only
    rcases h2 with h2 | h2 <;> rw [h2] <;> exact h4
theorem loop_inv0 {G : D → Rho → Option Rho} {F : Rho → Option Out} (P : List D → Rho → Prop) (ds : List D) (ρ : Rho) (h : P [] ρ)
    (st : ∀ p d q ρ, ds = p ++ d :: q → P p ρ → ∃ ρ1 ρ2, G d ρ = some ρ1 ∧ (F ρ1 = some (.nx ρ2) ∨ F ρ1 = some (.ct ρ2)) ∧ P (p ++ [d]) ρ2) : ∃ ρ', loop G F ds ρ = some (.nx ρ') ∧ P ds ρ' := by
  have := loop_inv P ds [] ρ h (fun p d q ρ e => st p d q ρ (by simpa using e))
  simpa using this

/-! ### depth, plainness -/
mutual
noncomputable def D.dep : D → Nat
  | .tup ds => depL ds + 1
  | .lst ds => depL ds + 1
  | _ => 0
noncomputable def depL : List D → Nat
  | [] => 0
  | d :: ds => max d.dep (depL ds)
end
mutual
noncomputable def D.pl : D → Bool
  | .tup ds => decide (ds.length ≤ 100000) && plL ds
  | .lst ds => decide (ds.length ≤ 100000) && plL ds
  | .obj _ _ => false
  | .dk _ => false
  | .dt _ => false
  | .exc _ => false
  | .set _ => false
  | _ => true
noncomputable def plL : List D → Bool
  | [] => true
  | d :: ds => d.pl && plL ds
end
theorem dep_at : ∀ {ds : List D} {i : Nat} {d : D}, ds[i]? = some d → d.dep ≤ depL ds
  | [], _, _, h => by simp at h
  | x :: ds, 0, d, h => by simp at h; subst h; unfold depL; omega
  | x :: ds, i + 1, d, h => by have := dep_at (ds := ds) (i := i) (d := d) (by simpa using h); unfold depL; omega
theorem pl_at : ∀ {ds : List D} {i : Nat} {d : D}, plL ds = true → ds[i]? = some d → d.pl = true
  | [], _, _, _, h => by simp at h
  | x :: ds, 0, d, q, h => by simp at h; subst h; unfold plL at q; rw [Bool.and_eq_true] at q; exact q.1
  | x :: ds, i + 1, d, q, h => by unfold plL at q; rw [Bool.and_eq_true] at q; exact pl_at (ds := ds) (i := i) q.2 (by simpa using h)

/-! ### the laws' own comparison: of a thing with itself -/
noncomputable def denSame (F : List D → M D) : Rho → Option Out :=
    (sSeq (sIf (orB (testB (b2 gNe (isi "tuple" (look 1)) (isi "tuple" (look 0)))) (testB (b2 gNe (isi "list" (look 1)) (isi "list" (look 0))))) (sSeq (sRet (con (.bl false)))
    sNil) sNil)
    (sSeq (sIf (test (isi2 ["tuple", "list"] (look 1))) (sSeq (sIf (testB (b2 gNe (f1 lenD (look 0)) (f1 lenD (look 1)))) (sSeq (sRet (con (.bl false)))
    sNil) sNil)
    (sSeq (sForR1 (f1 lenD (look 1)) (gN 2) (sSeq (sIf (notB (test (app F (aCons (b2 gIx (look 0) (look 2)) (aCons (b2 gIx (look 1) (look 2)) aNil))))) (sSeq (sRet (con (.bl false)))
    sNil) sNil)
    sNil))
    (sSeq (sRet (con (.bl true)))
    sNil))) sNil)
    (sSeq (sIf (testB (b2 gIs (look 1) (con .non))) (sSeq (sRet (b2 gIs (look 0) (con .non)))
    sNil) sNil)
    (sSeq (sIf (orB (testB (b2 gNe (isi "bool" (look 1)) (isi "bool" (look 0)))) (testB (b2 gNe (isi "str" (look 1)) (isi "str" (look 0))))) (sSeq (sRet (con (.bl false)))
    sNil) sNil)
    (sSeq (sRet (andV (b2 gEq (isi "int" (look 1)) (isi "int" (look 0))) (b2 gEq (look 0) (look 1))))
    sNil)))))
open Classical in
noncomputable def fSame (k : Nat) : List D → M D
  | [x, y] => if x = y ∧ x.pl = true ∧ x.dep < k then ok (.bl true) else none
  | _ => none
theorem fSame_len (k : Nat) : ∀ ds r, fSame k ds = some r → ds.length = 2 := by
  intro ds r h
  unfold fSame at h
  split at h
  · rfl
  · cases h
open Classical in
theorem fSame_self {k : Nat} {x : D} (h1 : x.pl = true) (h2 : x.dep < k) : fSame k [x, x] = ok (.bl true) := by
  show (if x = x ∧ x.pl = true ∧ x.dep < k then ok (D.bl true) else none) = _
  rw [if_pos ⟨rfl, h1, h2⟩]
theorem fSame_zero (ds : List D) : fSame 0 ds = none := by
  unfold fSame
  split
  · rw [if_neg]; rintro ⟨_, _, h⟩; omega
  · rfl
/-- the loop over the places of a sequence -/
theorem same_loop {k : Nat} {x : D} {xs : List D} (hx : x = .tup xs ∨ x = .lst xs) (hp : plL xs = true) (hd : depL xs < k) (o : Option SV) :
    ∃ o', loop (gN 2) (sSeq (sIf (notB (test (app (fSame k) (aCons (b2 gIx (look 0) (look 2)) (aCons (b2 gIx (look 1) (look 2)) aNil))))) (sSeq (sRet (con (.bl false))) sNil) sNil) sNil) (rng 0 xs.length) [some (.sh x), some (.sh x), o] = some (.nx [some (.sh x), some (.sh x), o']) := by
  obtain ⟨ρ', h1, o', h2⟩ := loop_inv0 (G := gN 2) (F := sSeq (sIf (notB (test (app (fSame k) (aCons (b2 gIx (look 0) (look 2)) (aCons (b2 gIx (look 1) (look 2)) aNil))))) (sSeq (sRet (con (.bl false))) sNil) sNil) sNil)
    (fun _ ρ => ∃ o', ρ = [some (.sh x), some (.sh x), o']) (rng 0 xs.length) [some (.sh x), some (.sh x), o] ⟨o, rfl⟩ (fun p d q ρ e ⟨o1, eρ⟩ => by
      subst eρ
      have hm : d ∈ rng 0 xs.length := by rw [e]; simp
      unfold rng at hm
      obtain ⟨j, hj, rfl⟩ := List.mem_map.mp hm
      rw [List.mem_range] at hj
      have hz : xs[j]? = some xs[j] := List.getElem?_eq_getElem hj
      have ha : atI xs (0 + (j : Int)) = some xs[j] := by rw [Int.zero_add]; exact atI_nat hz
      have g1 : gIx x (.int (0 + (j : Int))) = ok xs[j] := by
        rcases hx with rfl | rfl
        · show (match atI xs (0 + (j : Int)) with | some d => ok d | none => none) = _; rw [ha]
        · show (match atI xs (0 + (j : Int)) with | some d => ok d | none => none) = _; rw [ha]
      have f1 : fSame k [xs[j], xs[j]] = ok (.bl true) := fSame_self (pl_at hp hz) (Nat.lt_of_le_of_lt (dep_at hz) hd)
      refine ⟨[some (.sh x), some (.sh x), some (.sh (.int (0 + (j : Int))))], [some (.sh x), some (.sh x), some (.sh (.int (0 + (j : Int))))], rfl, .inl ?_, _, rfl⟩
      have e1 : app (fSame k) (aCons (b2 gIx (look 0) (look 2)) (aCons (b2 gIx (look 1) (look 2)) aNil)) [some (.sh x), some (.sh x), some (.sh (.int (0 + (j : Int))))] = ok (.bl true) := by
        show bnd (bnd (gIx x (.int (0 + (j : Int)))) fun a => bnd (bnd (bnd (ok x) fun x' => bnd (ok (.int (0 + (j : Int)))) fun y => gIx x' y) fun b => bnd (ok []) fun r => ok (b :: r)) fun r => ok (a :: r)) (fSame k) = _
        rw [g1]
        show bnd (bnd (bnd (gIx x (.int (0 + (j : Int)))) fun b => ok [b]) fun r => ok (xs[j] :: r)) (fSame k) = _
        rw [g1]
        exact f1
      show sSeq (sIf (notB (test _)) _ _) _ _ = _
      unfold sSeq sIf notB test
      rw [e1]
      rfl)
  exact ⟨o', by rw [h1, h2]⟩
theorem same_seq {k : Nat} {x : D} {xs : List D} (hx : x = .tup xs ∨ x = .lst xs) (hl : xs.length ≤ 100000) (hp : plL xs = true) (hd : depL xs < k) : fnRes (denSame (fSame k) [some (.sh x), some (.sh x), none]) = ok (.bl true) := by
  obtain ⟨o', h⟩ := same_loop hx hp hd none
  have hj : ((xs.length : Nat) : Int) < 2 ^ 62 ∧ -(2 ^ 62) ≤ ((xs.length : Nat) : Int) := by omega
  have e : sForR1 (f1 lenD (look 1)) (gN 2) (sSeq (sIf (notB (test (app (fSame k) (aCons (b2 gIx (look 0) (look 2)) (aCons (b2 gIx (look 1) (look 2)) aNil))))) (sSeq (sRet (con (.bl false))) sNil) sNil) sNil) [some (.sh x), some (.sh x), none] = some (.nx [some (.sh x), some (.sh x), o']) := by
    have e1 : f1 lenD (look 1) [some (.sh x), some (.sh x), none] = ok (.int xs.length) := by rcases hx with rfl | rfl <;> rfl
    rw [sForR1_ok e1 hj.1 hj.2, Int.toNat_natCast]
    exact h
  have d1 : sIf (orB (testB (b2 gNe (isi "tuple" (look 1)) (isi "tuple" (look 0)))) (testB (b2 gNe (isi "list" (look 1)) (isi "list" (look 0))))) (sSeq (sRet (con (.bl false))) sNil) sNil [some (.sh x), some (.sh x), none] = some (.nx [some (.sh x), some (.sh x), none]) := by
    rcases hx with rfl | rfl <;> rfl
  have d3 : sIf (testB (b2 gNe (f1 lenD (look 0)) (f1 lenD (look 1)))) (sSeq (sRet (con (.bl false))) sNil) sNil [some (.sh x), some (.sh x), none] = some (.nx [some (.sh x), some (.sh x), none]) := by
    rcases hx with rfl | rfl <;> simp [sIf, testB, b2, f1, lenD, look, gNe, eqF, bnd, ok, lft, blOf, SV.cur, sNil]
  have d4 : test (isi2 ["tuple", "list"] (look 1)) [some (.sh x), some (.sh x), none] = ok true := by rcases hx with rfl | rfl <;> rfl
  unfold denSame
  rw [sSeq_nx d1]
  have d5 : ∀ G, sSeq (sIf (test (isi2 ["tuple", "list"] (look 1))) (sSeq (sIf (testB (b2 gNe (f1 lenD (look 0)) (f1 lenD (look 1)))) (sSeq (sRet (con (.bl false))) sNil) sNil) (sSeq (sForR1 (f1 lenD (look 1)) (gN 2) (sSeq (sIf (notB (test (app (fSame k) (aCons (b2 gIx (look 0) (look 2)) (aCons (b2 gIx (look 1) (look 2)) aNil))))) (sSeq (sRet (con (.bl false))) sNil) sNil) sNil)) (sSeq (sRet (con (.bl true))) sNil))) sNil) G [some (.sh x), some (.sh x), none] = some (.rt (.bl true)) := by
    intro G
    apply sSeq_rt
    rw [sIf_t d4, sSeq_nx d3, sSeq_nx e]
    rfl
  rw [d5]
  rfl
theorem same_den {k : Nat} (N : List Str) (hN : N.length = 3) : ∀ ds r, fSame (k + 1) ds = some r → ∃ d, r = .ok d ∧ fnRes (denSame (fSame k) (rho0 N ds)) = ok d := by
  intro ds r h
  unfold fSame at h
  split at h
  · rename_i x y
    split at h
    · rename_i hh
      obtain ⟨rfl, hp, hd⟩ := hh
      have e := Option.some.inj h
      subst e
      refine ⟨.bl true, rfl, ?_⟩
      have e0 : rho0 N [x, x] = [some (.sh x), some (.sh x), none] := by unfold rho0; rw [hN]; rfl
      rw [e0]
      cases x with
      | non => rfl
      | bl b => cases b <;> rfl
      | int i =>
        simp [denSame, sSeq, sIf, sRet, testB, b2, gNe, gIs, gEq, eqF, isi, isi2, look, lft, bnd, orB, andV, blOf, test, tru, tyN, isB, kitL, fnRes, SV.cur, ok, con, isNon, sNil]
      | str i =>
        simp [denSame, sSeq, sIf, sRet, testB, b2, gNe, gIs, gEq, eqF, isi, isi2, look, lft, bnd, orB, andV, blOf, test, tru, tyN, isB, kitL, fnRes, SV.cur, ok, con, isNon, sNil]
      | obj C fs => simp [D.pl] at hp
      | dk kvs => simp [D.pl] at hp
      | dt kvs => simp [D.pl] at hp
      | exc C => simp [D.pl] at hp
      | set ss => simp [D.pl] at hp
      | tup xs =>
        simp only [D.pl, Bool.and_eq_true, decide_eq_true_eq] at hp
        exact same_seq (.inl rfl) hp.1 hp.2 (by simp only [D.dep] at hd; omega)
      | lst xs =>
        simp only [D.pl, Bool.and_eq_true, decide_eq_true_eq] at hp
        exact same_seq (.inr rfl) hp.1 hp.2 (by simp only [D.dep] at hd; omega)
    · cases h
  · cases h
end L2.PU
namespace L2.PU
open PySem PySem.Spec PyProof.Rows
open Classical in
/-- a def that gives True wherever S holds (elsewhere nothing is said) -/
noncomputable def tt (S : List D → Prop) : List D → M D := fun ds => if S ds then ok (.bl true) else none
theorem tt_ok {S : List D → Prop} {ds : List D} (h : S ds) : tt S ds = ok (.bl true) := by unfold tt; rw [if_pos h]
theorem tt_inv {S : List D → Prop} {ds : List D} {r : Except Addr D} (h : tt S ds = some r) : S ds ∧ r = .ok (.bl true) := by
  unfold tt at h
  split at h
  · rename_i q; exact ⟨q, (Option.some.inj h).symm⟩
  · cases h
theorem intBits_le {a : Int} {k : Nat} (h : a.natAbs < 2 ^ k) : Builtin.Int.intBits a ≤ k := by
  unfold Builtin.Int.intBits
  split
  · exact Nat.zero_le _
  · rename_i q
    have hz : a.natAbs ≠ 0 := by intro z; apply q; simp_all
    have := (Nat.log2_lt hz).mpr h
    omega
theorem mulB_of {i j : Int} (hi : i.natAbs < 2 ^ 1048576) (hj : j.natAbs < 2 ^ 1048576) : mulB i j = true := by
  unfold mulB
  rw [Bool.and_eq_true]
  exact ⟨decide_eq_true (intBits_le hi), decide_eq_true (intBits_le hj)⟩
theorem pow_line {n m k : Nat} (h : n < 2 ^ m) (q : m ≤ k) : n < 2 ^ k := Nat.lt_of_lt_of_le h (Nat.pow_le_pow_right (by decide) q)
/-- _law_at(script, k) -/
noncomputable def fAt : List D → M D
  | [.lst xs, .int k] => if 0 ≤ k then (if k < xs.length then (match xs[k.toNat]? with | some d => ok d | none => none) else ok (.int 0)) else none
  | _ => none
theorem fAt_len : ∀ ds r, fAt ds = some r → ds.length = 2 := by
  intro ds r h
  unfold fAt at h
  split at h
  · rfl
  · cases h
noncomputable def atZ (ns : List Int) (k : Nat) : Int := ns.getD k 0
theorem fAt_ints (ns : List Int) (k : Nat) : fAt [.lst (ns.map D.int), .int k] = ok (.int (atZ ns k)) := by
  show (if 0 ≤ (k : Int) then (if (k : Int) < (ns.map D.int).length then (match (ns.map D.int)[((k : Int)).toNat]? with | some d => ok d | none => none) else ok (.int 0)) else none) = _
  rw [if_pos (by omega), Int.toNat_natCast, List.length_map]
  unfold atZ
  by_cases h : k < ns.length
  · rw [if_pos (by omega), List.getElem?_map, List.getElem?_eq_getElem h]
    simp [List.getD_eq_getElem?_getD, List.getElem?_eq_getElem h]
  · rw [if_neg (by omega)]
    simp [List.getD_eq_getElem?_getD, List.getElem?_eq_none (Nat.le_of_not_lt h)]
noncomputable def denAt : Rho → Option Out :=
    (sSeq (sIf (testB (b2 gLt (look 1) (f1 lenD (look 0)))) (sSeq (sRet (b2 gIx (look 0) (look 1)))
    sNil) sNil)
    (sSeq (sRet (con (.int 0)))
    sNil))
theorem at_den (N : List Str) (hN : N.length = 2) : ∀ ds r, fAt ds = some r → ∃ d, r = .ok d ∧ fnRes (denAt (rho0 N ds)) = ok d := by
  intro ds r h
  unfold fAt at h
  split at h
  · rename_i xs k
    have e0 : rho0 N [.lst xs, .int k] = [some (.sh (.lst xs)), some (.sh (.int k))] := by unfold rho0; rw [hN]; rfl
    rw [e0]
    split at h
    · rename_i h0
      split at h
      · rename_i hk
        split at h
        · rename_i d hd
          cases h
          refine ⟨d, rfl, ?_⟩
          have t1 : testB (b2 gLt (look 1) (f1 lenD (look 0))) [some (.sh (.lst xs)), some (.sh (.int k))] = ok true := by
            show ok (decide (k < (xs.length : Int))) = ok true
            rw [decide_eq_true hk]
          have t2 : b2 gIx (look 0) (look 1) [some (.sh (.lst xs)), some (.sh (.int k))] = ok d := by
            show (match atI xs k with | some d => ok d | none => none) = ok d
            have e : k = ((k.toNat : Nat) : Int) := by omega
            have : atI xs k = some d := by rw [e]; exact atI_nat hd
            rw [this]
          unfold denAt
          rw [sSeq_rt (d := d)]
          · rfl
          · rw [sIf_t t1, sSeq_rt (sRet_ok t2)]
        · cases h
      · rename_i hk
        cases h
        refine ⟨_, rfl, ?_⟩
        have t1 : testB (b2 gLt (look 1) (f1 lenD (look 0))) [some (.sh (.lst xs)), some (.sh (.int k))] = ok false := by
          show ok (decide (k < (xs.length : Int))) = ok false
          rw [decide_eq_false hk]
        unfold denAt
        rw [sSeq_nx (ρ' := [some (.sh (.lst xs)), some (.sh (.int k))])]
        · rfl
        · rw [sIf_f t1]; rfl
    · cases h
  · cases h
end L2.PU
namespace L2.PU
open PySem PySem.Spec PyProof.Rows
theorem appM_ok {m : Str} {FM : Addr → Option (List D → M D)} {fo : Rho → M D} {g : Rho → M (List D)} {ρ : Rho} {C : Addr} {fs : List (Str × D)} {F : List D → M D} {ds : List D} (h1 : fo ρ = ok (.obj C fs)) (h2 : FM C = some F) (h3 : fs.lookup m = none) (h4 : g ρ = ok ds) :
    appM m FM fo g ρ = F (.obj C fs :: ds) := by
  unfold appM
  rw [h1, bnd_ok]
  dsimp only
  rw [h2, h3]
  dsimp only
  rw [h4, bnd_ok]
theorem fld_ok {cs : Addr → Bool} {f : Str} {fo : Rho → M D} {ρ : Rho} {C : Addr} {fs : List (Str × D)} {d : D} (h1 : fo ρ = ok (.obj C fs)) (h2 : cs C = true) (h3 : fs.lookup f = some d) : fld cs f fo ρ = ok d := by
  unfold fld
  rw [h1, bnd_ok]
  dsimp only
  rw [if_pos h2, h3]
theorem app_ok {F : List D → M D} {g : Rho → M (List D)} {ρ : Rho} {ds : List D} (h : g ρ = ok ds) : app F g ρ = F ds := by
  unfold app; rw [h, bnd_ok]
theorem aCons_ok {f : Rho → M D} {g : Rho → M (List D)} {ρ : Rho} {d : D} {ds : List D} (h1 : f ρ = ok d) (h2 : g ρ = ok ds) : aCons f g ρ = ok (d :: ds) := by
  unfold aCons; rw [h1, bnd_ok, h2, bnd_ok]
theorem aNil_ok {ρ : Rho} : aNil ρ = ok [] := rfl
theorem mkT_ok {g : Rho → M (List D)} {ρ : Rho} {ds : List D} (h : g ρ = ok ds) (hl : ds.length ≤ 1000 := by simp) : mkT g ρ = ok (.tup ds) := by
  unfold mkT; rw [h, bnd_ok, if_pos hl]
theorem b2_ok {g : D → D → M D} {fa fb : Rho → M D} {ρ : Rho} {x y : D} {r : M D} (h1 : fa ρ = ok x) (h2 : fb ρ = ok y) (h3 : g x y = r) : b2 g fa fb ρ = r := by
  unfold b2; rw [h1, bnd_ok, h2, bnd_ok, h3]
theorem test_ok {f : Rho → M D} {ρ : Rho} {d : D} {b : Bool} (h : f ρ = ok d) (q : tru d = ok b) : test f ρ = ok b := by unfold test; rw [h, bnd_ok, q]
theorem testB_ok {f : Rho → M D} {ρ : Rho} {b : Bool} (h : f ρ = ok (.bl b)) : testB f ρ = ok b := by unfold testB; rw [h, bnd_ok]; rfl
theorem notB_ok {f : Rho → M Bool} {ρ : Rho} {b : Bool} (h : f ρ = ok b) : notB f ρ = ok (!b) := by unfold notB; rw [h, bnd_ok]
/-- if not f(..): return False, where f gives True -/
theorem pass_not {f : Rho → M D} {F : Rho → Option Out} {ρ : Rho} (h : f ρ = ok (.bl true)) : sIf (notB (test f)) F sNil ρ = some (.nx ρ) := by
  rw [sIf_f (notB_ok (test_ok h rfl))]; rfl
end L2.PU
namespace L2.PU
open PySem PySem.Spec PyProof.Rows
/-- nothing is said: nothing is to be shown -/
theorem fn_none {P : Program} {w : World} {K : PySem.W.Frag} {mg : Str → Option Value} {base : Heap} {k : Nat} {f : Addr} {fd : FuncData} {ps : List Str} {F : List D → M D} (h : ∀ ds, F ds = none) : FnD P w K mg base k f fd ps F := by
  have no : ∀ vs H Q E, ¬ spD K ps.length F vs H Q E := fun vs H Q E ⟨ds, _, _, q⟩ => by rw [h ds] at q; exact q
  exact ⟨fun vs H Q E q => absurd q (no vs H Q E), fun A outer s H args us vs Q E _ _ _ _ q => absurd q (no vs H Q E)⟩
end L2.PU

namespace L2.PU
open PySem PySem.Spec PyProof.Rows
end L2.PU

namespace L2.PU
open PySem PySem.Spec PyProof.Rows

/-! ### [elt for target in iter if test] -/
/-- the context of the comprehension's block -/
noncomputable abbrev cxC (X : Cx) (scope : Scope) (cl : List (Str × Addr)) (N : List Str) (C : Addr) (s₀ : Shared) (H₀ : Hp) (ex : List Addr) : Cx :=
  { X with env := compEnvC scope cl C X.env, N := N, s₀ := s₀, H₀ := H₀, outer := X.stack, ex := ex, fn := fun _ => false, pn := [], xe := fun _ _ => False }
noncomputable def lkAll (cl : List (Str × Addr)) (env : Env) : Bool := cl.all fun p => (env.cells.lookup p.1 == some p.2) && (env.kindOf p.1 == some .cell || env.kindOf p.1 == some .free)
noncomputable def nmAll (N N' : List Str) (sc : Scope) : Bool := (List.range N.length).all fun i => match N'[i]? with
  | some x => ((N[i]? == some x) && (sc.names.lookup x == some .cell || sc.names.lookup x == some .free)) || (sc.names.lookup x == none)
  | none => false
noncomputable def frAll (cl : List (Str × Addr)) (sc : Scope) : Bool := sc.names.all fun p => (p.2 != .cell && p.2 != .free) || (cl.lookup p.1).isSome

theorem lookup_mem {α β : Type} [BEq α] [LawfulBEq α] : ∀ {l : List (α × β)} {x : α} {b : β}, l.lookup x = some b → (x, b) ∈ l
  | [], _, _, h => by simp at h
  | (y, c) :: l, x, b, h => by
    rw [List.lookup_cons] at h
    cases q : x == y with
    | true => rw [q] at h; simp at h; subst h; have := LawfulBEq.eq_of_beq q; subst this; exact List.mem_cons_self
    | false => rw [q] at h; exact List.mem_cons_of_mem _ (lookup_mem h)
theorem codeAny_compLoopG {prog : Program} {w : World} {A : Around} {R : Result → Shared → Prop} {s : Shared} {elt target iter : Expr} {ifs : List Expr} {scope : Scope} {pos : Pos} {it acc : Value} {env : Env} (I : Nat → Shared → Prop)
    (turn : ∀ n s, I n s → wpAny (model prog w) A (pyNext it) (fun r s₁ => match r with
      | none => R (.ok .next) s₁
      | some v => wpAny (model prog w) A (letOwnedTupleGo target it v) (fun _ s₁' => wpAny (model prog w) A (assign target env v) (fun _ s₂ =>
          wpAny (model prog w) A (forIn ifs true fun c r => if r = true then do let ok ← isTrue c env (eval c env); pure (ForInStep.yield ok) else pure (ForInStep.yield r)) (fun ok s₃ =>
            if ok = true then wpAny (model prog w) A (eval elt env) (fun x s₄ =>
              wpAny (model prog w) A (call (.builtin "list.append") [acc, x]) (fun _ s₅ => ∃ m, m < n ∧ I m s₅) (fun _ _ => False) s₄) (fun _ _ => False) s₃
            else ∃ m, m < n ∧ I m s₃) (fun _ _ => False) s₂) (fun _ _ => False) s₁') (fun _ _ => False) s₁) (fun _ _ => False) s)
    (n : Nat) (h : I n s) : codeAny (model prog w) A (.compLoop (.ListComp elt [⟨target, iter, ifs, 0⟩] scope pos) 0 it acc env) R s := by
  refine codeAny_loop rfl I (fun n s hI => ?_) n h
  show wpAny _ A ((compTurn (.ListComp elt [⟨target, iter, ifs, 0⟩] scope pos) 0 it acc env).onRaise (fun x => do noteFrame x env; theTreesLotGoes x)) _ _ s
  refine wpAny_noted ?_
  rw [compTurn_list]
  refine wpAny_bind (wpAny_standAt (wpAny_bind (wpAny_mono (turn n s hI) (fun r s₁ h₁ => ?_) fun _ _ h' => h'.elim)))
  cases r with
  | none => exact wpAny_pure h₁
  | some v =>
    refine wpAny_bind (wpAny_mono h₁ (fun _ s₁' h₁' => ?_) fun _ _ h' => h'.elim)
    refine wpAny_bind (wpAny_mono h₁' (fun _ s₂ h₂ => wpAny_bind (wpAny_mono h₂ (fun ok s₃ h₃ => ?_) fun _ _ h' => h'.elim)) fun _ _ h' => h'.elim)
    cases ok with
    | false => exact wpAny_pure ⟨rfl, h₃⟩
    | true =>
      exact wpAny_bind (wpAny_bind (wpAny_mono h₃ (fun x s₄ h₄ => wpAny_bind (wpAny_mono h₄ (fun _ s₅ h₅ => wpAny_pure (wpAny_pure ⟨rfl, h₅⟩)) fun _ _ h' => h'.elim)) fun _ _ h' => h'.elim))

/-- the test of a clause: none, or one -/
noncomputable def PIf (X : Cx) (B : Hp) (ifs : List Expr) (ft : Rho → M Bool) : Prop := (ifs = [] ∧ ft = fun _ => ok true) ∨ ∃ c, ifs = [c] ∧ PDT X B c ft
/-- the clause's names: where they stand, what they get -/
noncomputable def setS (σ : St) : List Nat → List V → St
  | k :: ks, v :: vs => setS (σ.set k (some v)) ks vs
  | _, _ => σ
noncomputable def setR (ρ : Rho) : List Nat → List D → Rho
  | k :: ks, d :: ds => setR (ρ.set k (some (.sh d))) ks ds
  | _, _ => ρ
noncomputable def PDH (X : Cx) (tg : Expr) (ks : List Nat) (G : D → Option (List D)) : Prop :=
  PG X tg (fun v σ H Q => ∃ d es, Is X.K H d v ∧ G d = some es ∧ ∀ vs, IsL X.K H es vs → vs.length = ks.length → Q (setS σ ks vs) H)
noncomputable def cmpL (ks : List Nat) (G : D → Option (List D)) (ft : Rho → M Bool) (fe : Rho → M D) : List D → Rho → M (List D)
  | [], _ => ok []
  | d :: ds, ρ => match G d with
    | none => none
    | some es => match ft (setR ρ ks es) with
      | some (.ok true) => (match fe (setR ρ ks es) with
        | some (.ok r) => if r.imm = true then bnd (cmpL ks G ft fe ds ρ) fun rs => ok (r :: rs) else none
        | _ => none)
      | some (.ok false) => cmpL ks G ft fe ds ρ
      | _ => none
noncomputable def ext (m : Nat) (ρ : Rho) : Rho := ρ ++ List.replicate m none
/-- what the comprehension yields: it: the data that are walked -/
noncomputable def cmp (m : Nat) (it : Rho → M (List D)) (ks : List Nat) (G : D → Option (List D)) (ft : Rho → M Bool) (fe : Rho → M D) : Rho → M D := fun ρ =>
  bnd (it ρ) fun ds => if ds.length ≤ 1000000 then bnd (cmpL ks G ft fe ds (ext m (free ρ))) fun rs => ok (.lst rs) else none
theorem cmpL_noerr {ks : List Nat} {G : D → Option (List D)} {ft : Rho → M Bool} {fe : Rho → M D} : ∀ {ds : List D} {ρ : Rho} {c : Addr}, cmpL ks G ft fe ds ρ ≠ some (.error c)
  | [], ρ, c => fun h => by cases h
  | d :: ds, ρ, c => fun h => by
    unfold cmpL at h
    split at h
    · cases h
    · split at h
      · split at h
        · split at h
          · cases q : cmpL ks G ft fe ds ρ with
            | none => rw [q] at h; cases h
            | some z =>
              cases z with
              | error c' => exact cmpL_noerr q
              | ok z => rw [q] at h; cases h
          · cases h
        · cases h
      · exact cmpL_noerr h
      · cases h
theorem immL_append : ∀ (a b : List D), immL (a ++ b) = (immL a && immL b)
  | [], b => by simp [immL]
  | d :: a, b => by
    show (d.imm && immL (a ++ b)) = ((d.imm && immL a) && immL b)
    rw [immL_append a b, Bool.and_assoc]
theorem setS_length : ∀ {ks : List Nat} {σ : St} {vs : List V}, (setS σ ks vs).length = σ.length
  | [], σ, vs => by cases vs <;> rfl
  | k :: ks, σ, [] => rfl
  | k :: ks, σ, v :: vs => by
    show (setS (σ.set k (some v)) ks vs).length = _
    rw [setS_length, List.length_set]
theorem setS_out : ∀ {ks : List Nat} {σ : St} {vs : List V} {i : Nat}, i ∉ ks → (setS σ ks vs)[i]? = σ[i]?
  | [], σ, vs, i, _ => by cases vs <;> rfl
  | k :: ks, σ, [], i, _ => rfl
  | k :: ks, σ, v :: vs, i, h => by
    show (setS (σ.set k (some v)) ks vs)[i]? = _
    rw [setS_out (fun z => h (List.mem_cons_of_mem _ z)), List.getElem?_set_ne (fun z => h (by rw [z]; exact List.mem_cons_self))]
/-- all slots shared: the data of ρ are borne by H -/
noncomputable def Shr (K : PySem.W.Frag) (H : Hp) (ρ : Rho) (σ : St) : Prop := ρ.length = σ.length ∧ ∀ (i : Nat) (sv : SV), ρ[i]? = some (some sv) → ∃ d v, sv = .sh d ∧ σ[i]? = some (some v) ∧ Is K H d v
theorem Shr.rel {K : PySem.W.Frag} {H : Hp} {ρ : Rho} {σ : St} (h : Shr K H ρ σ) : Rel K H ρ σ H := by
  have e0 : Off H (fun _ => none) = H := by funext b; unfold Off; rw [if_neg (fun ⟨i, e⟩ => nomatch e)]
  refine ⟨fun _ => none, (by intro _ _ _ q; cases q), (by intro _ _ q; cases q), by rw [e0]; exact Same.refl _, h.1, fun i sv q => ?_⟩
  obtain ⟨d, v, rfl, e1, e2⟩ := h.2 i sv q
  exact ⟨v, e1, by rw [e0]; exact e2⟩
theorem Shr.mono {K : PySem.W.Frag} {H H' : Hp} {ρ : Rho} {σ : St} (e : Same H H') (h : Shr K H ρ σ) : Shr K H' ρ σ := ⟨h.1, fun i sv q => by
  obtain ⟨d, v, e0, e1, e2⟩ := h.2 i sv q
  exact ⟨d, v, e0, e1, e2.mono e⟩⟩
theorem Shr.free {K : PySem.W.Frag} {B H : Hp} {ρ : Rho} {σ : St} (r : Rel K B ρ σ H) : Shr K H (free ρ) σ := by
  refine ⟨?_, fun i sv q => ?_⟩
  · obtain ⟨_, _, _, _, hl, _⟩ := r.freed; exact hl
  · unfold PU.free at q
    rw [List.getElem?_map] at q
    obtain ⟨o, e1, e2⟩ := Option.map_eq_some_iff.mp q
    cases o with
    | none => cases e2
    | some sv0 =>
      have e2' : sv0.rel = sv := Option.some.inj e2
      subst e2'
      obtain ⟨v, e3, e4⟩ := r.get e1
      exact ⟨sv0.cur, v, by cases sv0 <;> rfl, e3, e4⟩
theorem Shr.more {K : PySem.W.Frag} {H : Hp} {ρ : Rho} {σ : St} (m : Nat) (h : Shr K H ρ σ) : Shr K H (ext m ρ) (σ ++ List.replicate m none) := by
  refine ⟨by unfold ext; simp [h.1], fun i sv e => ?_⟩
  have e' : ρ[i]? = some (some sv) := by
    unfold ext at e
    by_cases hi : i < ρ.length
    · rw [List.getElem?_append_left hi] at e; exact e
    · rw [List.getElem?_append_right (by omega), List.getElem?_replicate] at e
      split at e <;> cases e
  have hi : i < σ.length := by rw [← h.1]; exact (List.getElem?_eq_some_iff.mp e').1
  obtain ⟨d, v, e0, e1, e2⟩ := h.2 i sv e'
  exact ⟨d, v, e0, by rw [List.getElem?_append_left hi]; exact e1, e2⟩
theorem Shr.set {K : PySem.W.Frag} {H : Hp} {ρ : Rho} {σ : St} {k : Nat} {d : D} {v : V} (h : Shr K H ρ σ) (i : Is K H d v) : Shr K H (ρ.set k (some (.sh d))) (σ.set k (some v)) := by
  refine ⟨by rw [List.length_set, List.length_set, h.1], fun j sv e => ?_⟩
  by_cases q : j = k
  · subst q
    have hj : j < ρ.length := by
      have := (List.getElem?_eq_some_iff.mp e).1
      rwa [List.length_set] at this
    rw [List.getElem?_set_self hj] at e
    have e' := Option.some.inj (Option.some.inj e)
    exact ⟨d, v, e'.symm, List.getElem?_set_self (by rw [← h.1]; exact hj), i⟩
  · rw [List.getElem?_set_ne (Ne.symm q)] at e
    obtain ⟨d', v', e0, e1, e2⟩ := h.2 j sv e
    exact ⟨d', v', e0, by rw [List.getElem?_set_ne (Ne.symm q)]; exact e1, e2⟩
theorem Shr.setAll {K : PySem.W.Frag} {H : Hp} : ∀ {ks : List Nat} {ρ : Rho} {σ : St} {ds : List D} {vs : List V}, Shr K H ρ σ → IsL K H ds vs → Shr K H (setR ρ ks ds) (setS σ ks vs)
  | [], ρ, σ, ds, vs, h, i => by cases i <;> exact h
  | k :: ks, ρ, σ, _, _, h, .nil => h
  | k :: ks, ρ, σ, d :: ds, v :: vs, h, .cons i r => by
    show Shr K H (setR (ρ.set k (some (.sh d))) ks ds) (setS (σ.set k (some v)) ks vs)
    exact Shr.setAll (ks := ks) (h.set (k := k) i) r
section
variable {X : Cx} {B : Hp} {scope : Scope} {cl : List (Str × Addr)} {N' : List Str} {m : Nat}
theorem vis_cl {env : Env} (hf : frAll cl (relabel scope env) = true) {x : Str} {k : NameKind} (hk : (relabel scope env).names.lookup x = some k) (hc : k = .cell ∨ k = .free) : ∃ c, cl.lookup x = some c := by
  have h := List.all_eq_true.mp hf _ (lookup_mem hk)
  dsimp only at h
  rw [Bool.or_eq_true] at h
  rcases h with h | h
  · rcases hc with rfl | rfl <;> simp at h
  · exact Option.isSome_iff_exists.mp h
/-- the block's context and state, just made -/
theorem comp_start {pins : List (Addr × Obj)} {σ : St} {H : Hp} {s : Shared} {fp : List Addr} {h₁ : Heap} {tk : Nat} (I : Inv X pins σ H s) (hkind : scope.kind = .function) (hcl : lkAll cl X.env = true) (hnm : nmAll X.N N' (relabel scope X.env) = true) (hf : frAll cl (relabel scope X.env) = true) (hl : N'.length = X.N.length + m)
    (hfp : ∀ b ∈ fp, FpOk X pins H b ∧ b < s.heap.objs.size) (hk : ∀ b o, s.heap.get? b = some o → h₁.get? b = some o) {mm : Str → Option Value} (hns : h₁.Ns s.heap.objs.size mm) :
    Inv (cxC X scope cl N' s.heap.objs.size s H fp) [] (σ ++ List.replicate m none) H { s with heap := h₁, toks := tk } := by
  have sub : ∀ x c, cl.lookup x = some c → X.env.cells.lookup x = some c ∧ (X.env.kindOf x = some .cell ∨ X.env.kindOf x = some .free) := fun x c e => by
    have h := List.all_eq_true.mp hcl _ (lookup_mem e)
    dsimp only at h
    rw [Bool.and_eq_true, Bool.or_eq_true] at h
    exact ⟨beq_iff_eq.mp h.1, h.2.elim (fun z => .inl (beq_iff_eq.mp z)) fun z => .inr (beq_iff_eq.mp z)⟩
  have frs_sub : ∀ b ∈ fp, b ∉ frs X.stack := fun b hb z => by
    rcases List.mem_cons.mp (I.stkSub b z) with e | e
    · exact (hfp b hb).1.2.1 e
    · exact (hfp b hb).1.2.2.1 e
  refine ⟨⟨I.ok.mod, hkind, I.ok.glob, I.ok.blt, Nat.le_refl _, fun x y c h1 h2 => I.ok.inj x y c (sub x c h1).1 (sub y c h2).1, fun x hx => ?_, (fun x c h => by cases h), I.ok.hd, I.ok.frames, .inl rfl, fun b hb => ?_, I.bs, Nat.le_trans I.ok.bsz I.sz, fun b o e hb => ?_, frs_sub, I.stack, I.stkFree⟩,
    rfl, I.bare, Un.kept hk, ⟨mm, hns, fun i x v h1 h2 h3 => ?_⟩, fun x c e => ?_, I.hok.fresh (Nat.le_refl _), fun x c e => I.freeC x c (sub x c e).1, (fun p hp => by cases hp), I.hok.kept hk, ?_⟩
  · rcases hx with hx | hx
    · exact vis_cl hf hx (.inl rfl)
    · exact vis_cl hf hx (.inr rfl)
  · exact ⟨Nat.ne_of_lt (hfp b hb).2, fun x c e => (hfp b hb).1.2.2.2.2.1 x c (sub x c e).1⟩
  · rcases (hfp b hb).1.2.2.2.1 with z | z
    · exact I.ok.noex b o e z
    · exact absurd (Nat.lt_of_lt_of_le (Heap.lt_size e) (Nat.le_trans I.ok.bsz z)) (Nat.lt_irrefl _)
  · -- a name of the outer def
    have hi : i < σ.length := by
      by_cases hi : i < σ.length
      · exact hi
      · rw [List.getElem?_append_right (by omega), List.getElem?_replicate] at h2
        split at h2 <;> cases h2
    rw [List.getElem?_append_left hi] at h2
    have hiN : i < X.N.length := by rw [← I.len]; exact hi
    have hn := List.all_eq_true.mp hnm i (List.mem_range.mpr hiN)
    (try dsimp only at h1)
    (try dsimp only at hn)
    rw [h1] at hn
    (try dsimp only at hn)
    rw [Bool.or_eq_true] at hn
    have hvis : ∃ k, (relabel scope X.env).names.lookup x = some k := by
      rcases h3 with h | h | h
      · exact ⟨_, h⟩
      · exact ⟨_, h⟩
      · exact ⟨_, h⟩
    obtain ⟨kx, hkx⟩ := hvis
    rcases hn with hn | hn
    · rw [Bool.and_eq_true, Bool.or_eq_true] at hn
      have hXN : X.N[i]? = some x := beq_iff_eq.mp hn.1
      have hcf : (relabel scope X.env).names.lookup x = some .cell ∨ (relabel scope X.env).names.lookup x = some .free := hn.2.elim (fun z => .inl (beq_iff_eq.mp z)) fun z => .inr (beq_iff_eq.mp z)
      obtain ⟨c, hc⟩ : ∃ c, cl.lookup x = some c := hcf.elim (fun z => vis_cl hf z (.inl rfl)) fun z => vis_cl hf z (.inr rfl)
      obtain ⟨m0, hm0, lk⟩ := I.loc
      have hk0 := (sub x c hc).2
      obtain ⟨u, ru, lu⟩ := lk i x v hXN h2 (hk0.elim (fun z => .inr (.inl z)) fun z => .inr (.inr z))
      refine ⟨u, ru, .inr ⟨hcf, c, hc, ?_⟩⟩
      rcases lu with ⟨z1, _⟩ | ⟨_, c', e1, o, ho, hd⟩
      · rcases hk0 with z | z <;> rw [z] at z1 <;> cases z1
      · rw [(sub x c hc).1] at e1
        cases e1
        exact ⟨o, hk _ _ ho, hd⟩
    · have e := beq_iff_eq.mp hn
      rw [hkx] at e; cases e
  · obtain ⟨v, z⟩ := I.cell x c (sub x c e).1
    obtain ⟨o, ho, hd⟩ := z
    exact ⟨v, o, hk _ _ ho, hd⟩
  · show (σ ++ List.replicate m none).length = N'.length
    rw [List.length_append, List.length_replicate, I.len, hl]

variable {x : Str} {tg iter elt : Expr} {ifs : List Expr} {pos : Pos} {ks : List Nat} {G : D → Option (List D)} {ft : Rho → M Bool} {fe : Rho → M D} {it : Rho → M (List D)}
/-- what must be known of the iterator's expression -/
noncomputable def PIt (X : Cx) (B : Hp) (tg iter : Expr) (it : Rho → M (List D)) : Prop :=
  ∀ (pins : List (Addr × Obj)) (s : Shared) (σ : St) (H : Hp) (R : It → Hp → Prop) (ρ : Rho), Inv X pins σ H s → Rel X.K B ρ σ H →
    Res X σ H (fun ds => ∀ J H1, Same H H1 → ItD X.K J ds H1 → R J H1) (it ρ) →
    wpAny (model X.prog X.w) X.A (eval iter X.env) (fun v s1 => wpAny (model X.prog X.w) X.A (pyIter v) (PIE X pins σ tg R) X.xe s1) X.xe s
/-- the address is no place of this block's own -/
noncomputable def OutC (X : Cx) (pins : List (Addr × Obj)) (C : Addr) : Prop := (C ∈ X.ex ∨ X.s₀.heap.objs.size ≤ C) ∧ C ≠ X.env.locals ∧ (∀ x c, X.env.cells.lookup x = some c → c ≠ C) ∧ ∀ p ∈ X.pn ++ pins, p.1 ≠ C
theorem comp_core (hclos : closureFor scope X.env = pure cl) (hcell : ∀ y ∈ scope.names, y.2 ≠ .cell) (hkind : scope.kind = .function) (hnames : ∀ y ∈ scope.names, y.2 = .local → scope.names.lookup y.1 = some .local) (hcl : lkAll cl X.env = true)
    (hnm : nmAll X.N N' (relabel scope X.env) = true) (hf : frAll cl (relabel scope X.env) = true) (hl : N'.length = X.N.length + m) (hks : ∀ k ∈ ks, X.N.length ≤ k) (hcm : X.calm = true) (hi : PIt X B tg iter it)
    (hg : ∀ C s₀ H₀ ex, PDH (cxC X scope cl N' C s₀ H₀ ex) tg ks G) (ht : ∀ C s₀ H₀ ex B, PIf (cxC X scope cl N' C s₀ H₀ ex) B ifs ft) (he : ∀ C s₀ H₀ ex B, PD (cxC X scope cl N' C s₀ H₀ ex) B elt fe)
    (hs : ∀ x, foldedSetIterable iter X.env x = pure x) {p0 : Pos} {use : Option (Value → Sem Unit)} {Q' : Value → Shared → Prop} {Kp : List D → Prop} {pins : List (Addr × Obj)} {s : Shared} {σ : St} {H : Hp} {ρ : Rho} (I : Inv X pins σ H s) (r : Rel X.K B ρ σ H) (h : Res X σ H (fun d => ∀ rs, d = .lst rs → Kp rs) (cmp m it ks G ft fe ρ))
    (fin : ∀ (Dd Cc : Addr) (s3 : Shared) (Hj : Hp) (rs : List D), (∀ h', Heap.SameBut Cc s3.heap h' → Inv X pins σ Hj { s3 with heap := h' }) → (∃ m, s3.heap.Ns Cc m) → OutC X pins Cc → Hj Cc = none → Same H Hj → Is X.K Hj (.lst rs) (.ref Dd) → Kp rs →
      compPost (model X.prog X.w) X.A X.xe use Q' (.ref Dd) Cc (.ok .next) s3) :
    wpAny (model X.prog X.w) X.A (comprehension (.ListComp elt [⟨tg, iter, ifs, 0⟩] scope pos) scope X.env p0 (newList []) false (eval iter X.env) use) Q' X.xe s := by
  refine wpAny_comprehension_free (use := use) rfl hs hclos hkind hnames ?_
  show wpAny (model X.prog X.w) X.A (eval iter X.env) _ X.xe s
  refine thn (hi pins s σ H (fun J H1 => ∃ ds, Same H H1 ∧ ItD X.K J ds H1 ∧ ds.length ≤ 1000000 ∧ ∃ rs, cmpL ks G ft fe ds (ext m (free ρ)) = ok rs ∧ Kp rs) ρ I r ((Res.bind h).imp fun ds h1 J H1 e1 i1 => ?_)) fun v s1 h1 => thn h1 fun itv s2 h2 => ?_
  · split at h1
    · rename_i hlen
      refine ⟨ds, e1, i1, hlen, ?_⟩
      have h2 := Res.bind h1
      cases q : cmpL ks G ft fe ds (ext m (free ρ)) with
      | none => rw [q] at h2; exact False.elim h2
      | some z =>
        cases z with
        | error c => exact absurd q cmpL_noerr
        | ok rs => rw [q] at h2; exact ⟨rs, rfl, h2 rs rfl⟩
    · exact False.elim h1
  obtain ⟨ia, fp, tn, J, H2, rfl, I2, T, st2, f2, ds, e1, hJ, hlen, rs, hrs, hQ⟩ := h2
  have shr2 : Shr X.K H2 (ext m (free ρ)) (σ ++ List.replicate m none) := ((Shr.free r).mono e1).more m
  have fpl : ∀ b ∈ fp, b < s2.heap.objs.size := fun b hb => let ⟨o, ho, _⟩ := T.obj 0 _ st2 b hb; Heap.lt_size ho
  refine wpAny_newObj_type (wpAny_newFunctionEnv hcell (by intro y hy; simp at hy) (fun h₁ hns₁ hsb₁ => ?_) hkind)
  dsimp only at hns₁ hsb₁ ⊢
  have I0 : Inv X pins σ (upd H2 s2.heap.objs.size (.lst [])) { s2 with heap := s2.heap.push { cls := .type "list", dict := none, data := .seq ([] : List Value).toArray } } := I2.lnew (t' := s2.toks) (its := []) .nil (Nat.zero_le _)
  have hsz : (s2.heap.push { cls := .type "list", dict := none, data := .seq ([] : List Value).toArray }).objs.size = s2.heap.objs.size + 1 := Heap.size_push _ _
  generalize hP : s2.heap.push { cls := .type "list", dict := none, data := .seq ([] : List Value).toArray } = P2 at hns₁ hsb₁ I0 hsz ⊢
  generalize hD : s2.heap.objs.size = Dd at *
  generalize hC : P2.objs.size = Cc at *
  have neDC : Dd ≠ Cc := by omega
  have hk01 : ∀ b o, P2.get? b = some o → h₁.get? b = some o := fun b o e => hsb₁.extBut b o (Nat.ne_of_lt (by rw [← hC]; exact Heap.lt_size e)) (Heap.get?_push_of_some _ e)
  have hk2P : ∀ b o, s2.heap.get? b = some o → P2.get? b = some o := fun b o e => by rw [← hP]; exact Heap.get?_push_of_some _ e
  have nD2 : H2 Dd = none := I2.hok.fresh (by omega)
  have nC2 : H2 Cc = none := I2.hok.fresh (by omega)
  have sm0 : Same H2 (upd H2 Dd (.lst [])) := same_new nD2 _
  have fp0 : ∀ b ∈ fp, FpOk X pins (upd H2 Dd (.lst [])) b ∧ b < P2.objs.size := fun b hb => by
    have hb' := fpl b hb
    obtain ⟨f0, f1⟩ := f2 b hb
    exact ⟨⟨by rw [upd_ne (Nat.ne_of_lt hb')]; exact f0, f1⟩, by rw [hC, hsz]; exact Nat.lt_succ_of_lt hb'⟩
  have IC := comp_start (tk := s2.toks + ([] : List (Str × Value)).length) I0 hkind hcl hnm hf hl fp0 hk01 (by rw [hC]; exact hns₁)
  rw [hC] at IC
  -- the loop
  have loop : ∀ s₄ : Shared, s₄ = { s2 with heap := h₁, toks := s2.toks + ([] : List (Str × Value)).length } →
      codeAny (model X.prog X.w) X.A (.compLoop (.ListComp elt [⟨tg, iter, ifs, 0⟩] scope pos) 0 (.ref ia) (.ref Dd) (compEnvC scope cl Cc X.env)) (compPost (model X.prog X.w) X.A X.xe use Q' (.ref Dd) Cc) s₄ := by
    rintro s₄ rfl
    refine codeAny_compLoopG (fun n s' => ∃ j Hj vs rj rest, n = ds.length + 1 - j ∧ j ≤ ds.length ∧ Inv (cxC X scope cl N' Cc { s2 with heap := P2 } (upd H2 Dd (.lst [])) fp) [] (σ ++ List.replicate m none) Hj s' ∧ tn j s'.heap ∧ (∀ b ∈ fp, Hj b = none) ∧
      Hj Dd = some (.lst vs) ∧ IsL X.K Hj rj vs ∧ immL rj = true ∧ rj.length ≤ j ∧ Same H2 Hj ∧ cmpL ks G ft fe (ds.drop j) (ext m (free ρ)) = ok rest ∧ rs = rj ++ rest) ?_ (ds.length + 1)
      ⟨0, _, [], [], rs, rfl, Nat.zero_le _, IC, T.keep _ _ _ st2 fun b hb o e => hk01 _ _ (hk2P _ _ e), fun b hb => (fp0 b hb).1.1, upd_same, .nil, rfl, Nat.le_refl _, sm0, by simpa using hrs, rfl⟩
    rintro n s' ⟨j, Hj, vs, rj, rest, rfl, hj, IJ, stj, frj, hDj, ilj, imj, hlj, smj, hrest, hrs'⟩
    have fpX : ∀ {H' : Hp}, (∀ b ∈ fp, H' b = none) → ∀ b ∈ fp, FpOk (cxC X scope cl N' Cc { s2 with heap := P2 } (upd H2 Dd (.lst [])) fp) [] H' b := fun hn b hb =>
      ⟨hn b hb, (IJ.ok.exf b hb).1, IJ.ok.exfs b hb, .inl hb, (IJ.ok.exf b hb).2, (fun p hp => by cases hp)⟩
    by_cases hlt : j < ds.length
    · have hd : ds.drop j = ds[j] :: ds.drop (j + 1) := List.drop_eq_getElem_cons hlt
      rw [hd] at hrest
      obtain ⟨q0, q1, q2, q3⟩ : (∃ es, G ds[j] = some es) ∧ True ∧ True ∧ True := by
        refine ⟨?_, trivial, trivial, trivial⟩
        cases q : G ds[j] with
        | none => unfold cmpL at hrest; rw [q] at hrest; cases hrest
        | some es => exact ⟨es, rfl⟩
      obtain ⟨es, hG⟩ := q0
      unfold cmpL at hrest
      rw [hG] at hrest
      dsimp only at hrest
      refine thn (T.item (cxC X scope cl N' Cc { s2 with heap := P2 } (upd H2 Dd (.lst [])) fp) rfl rfl rfl hcm j [] s' _ Hj (fun _ _ => False) IJ (fpX frj) stj (hJ.go j Hj smj hlt)) fun r s3 ⟨u, hr, h4⟩ => ?_
      subst hr
      refine thn h4 fun _ s5 ⟨xv, H5, I5, r5, y5, st5, fr5⟩ => ?_
      obtain ⟨e5, d, e6, e7⟩ := hJ.yld j Hj xv H5 smj y5 hlt
      replace hDj := e5 _ _ hDj
      replace ilj := IsL.mono e5 ilj
      replace smj := smj.trans e5
      have ed : ds[j] = d := by rw [List.getElem?_eq_getElem hlt] at e6; exact Option.some.inj e6
      rw [ed] at hG
      have I5' := I5.pinned (fpX fr5) (T.obj _ _ st5)
      rw [List.nil_append] at I5'
      -- the names are stored
      refine thn (hg Cc { s2 with heap := P2 } (upd H2 Dd (.lst [])) fp _ s5 _ H5 xv u (fun σ6 H6 => H6 = H5 ∧ ∃ vs', IsL X.K H5 es vs' ∧ σ6 = setS (σ ++ List.replicate m none) ks vs') I5' r5 ⟨d, es, e7, hG, fun vs' iv' _ => ⟨rfl, vs', iv', rfl⟩⟩) fun _ s6 ⟨σ6, H6, I6, q6⟩ => ?_
      obtain ⟨rfl, vs', iv', rfl⟩ := q6
      have rel6 : Rel X.K H6 (setR (ext m (free ρ)) ks es) (setS (σ ++ List.replicate m none) ks vs') H6 := (Shr.setAll (shr2.mono smj) iv').rel
      -- what stands behind a turn
      have turn : ∀ (s7 : Shared) (H7 : Hp) (vs7 : List V) (r7 rest7 : List D), Inv (cxC X scope cl N' Cc { s2 with heap := P2 } (upd H2 Dd (.lst [])) fp) (pinsAt fp s5.heap) (setS (σ ++ List.replicate m none) ks vs') H7 s7 → H7 Dd = some (.lst vs7) → IsL X.K H7 r7 vs7 → immL r7 = true → r7.length ≤ j + 1 → Same H2 H7 →
          cmpL ks G ft fe (ds.drop (j + 1)) (ext m (free ρ)) = ok rest7 → rs = r7 ++ rest7 → ∃ k, k < ds.length + 1 - j ∧ ∃ j' Hj vs rj rest, k = ds.length + 1 - j' ∧ j' ≤ ds.length ∧ Inv (cxC X scope cl N' Cc { s2 with heap := P2 } (upd H2 Dd (.lst [])) fp) [] (σ ++ List.replicate m none) Hj s7 ∧ tn j' s7.heap ∧ (∀ b ∈ fp, Hj b = none) ∧
          Hj Dd = some (.lst vs) ∧ IsL X.K Hj rj vs ∧ immL rj = true ∧ rj.length ≤ j' ∧ Same H2 Hj ∧ cmpL ks G ft fe (ds.drop j') (ext m (free ρ)) = ok rest ∧ rs = rj ++ rest := by
        intro s7 H7 vs7 r7 rest7 I7 a1 a2 a3 a4 a5 a6 a7
        have pin : ∀ b ∈ fp, ∀ o, s5.heap.get? b = some o → s7.heap.get? b = some o ∧ H7 b = none := fun b hb o e =>
          let z := I7.pin (b, o) (List.mem_append_right _ (mem_pinsAt hb e)); ⟨z.1, z.2.1⟩
        refine ⟨ds.length + 1 - (j + 1), by omega, j + 1, H7, vs7, r7, rest7, rfl, hlt, ?_, T.keep _ _ _ st5 fun b hb o e => (pin b hb o e).1, fun b hb => ?_, a1, a2, a3, a4, a5, a6, a7⟩
        · have I8 : Inv (cxC X scope cl N' Cc { s2 with heap := P2 } (upd H2 Dd (.lst [])) fp) [] (setS (σ ++ List.replicate m none) ks vs') H7 s7 := I7.pins_of (fun p hp => by cases hp)
          refine I8.weak (by rw [setS_length]) fun i v e => ?_
          rw [setS_out]
          · exact e
          · intro hi
            have := hks i hi
            rw [List.getElem?_append_right (by rw [I2.len]; exact this), List.getElem?_replicate] at e
            split at e <;> cases e
        · obtain ⟨o, ho, _⟩ := T.obj _ _ st5 b hb
          exact (pin b hb o ho).2
      -- the test
      have tst : wpAny (model X.prog X.w) X.A (forIn ifs true fun c r => if r = true then do let ok ← isTrue c (compEnvC scope cl Cc X.env) (eval c (compEnvC scope cl Cc X.env)); pure (ForInStep.yield ok) else pure (ForInStep.yield r))
          (fun bb s7 => ∃ H7, Inv (cxC X scope cl N' Cc { s2 with heap := P2 } (upd H2 Dd (.lst [])) fp) (pinsAt fp s5.heap) (setS (σ ++ List.replicate m none) ks vs') H7 s7 ∧ Same H6 H7 ∧ ft (setR (ext m (free ρ)) ks es) = ok bb) (fun _ _ => False) s6 := by
        rcases ht Cc { s2 with heap := P2 } (upd H2 Dd (.lst [])) fp H6 with ⟨rfl, hft⟩ | ⟨c, rfl, hft⟩
        · exact wpAny_tests_nil ⟨H6, I6, Same.refl _, by rw [hft]⟩
        · cases qt : ft (setR (ext m (free ρ)) ks es) with
          | none => rw [qt] at hrest; cases hrest
          | some z =>
            cases z with
            | error ce => rw [qt] at hrest; cases hrest
            | ok bb =>
              refine wpAny_tests_one (thn (hft _ s6 _ H6 (fun b H7 => Same H6 H7 ∧ b = bb) I6 ⟨_, rel6, by rw [qt]; exact fun H7 e => ⟨e, rfl⟩⟩) fun b s7 ⟨H7, I7, e, eb⟩ => ?_)
              subst eb
              exact ⟨H7, I7, e, rfl⟩
      refine thn tst fun bb s7 ⟨H7, I7, sm7, hbb⟩ => ?_
      rw [hbb] at hrest
      cases bb with
      | false =>
        rw [if_neg (by decide)]
        exact turn s7 H7 vs rj rest I7 (sm7 _ _ hDj) (ilj.mono sm7) imj (by omega) (smj.trans sm7) hrest hrs'
      | true =>
        rw [if_pos rfl]
        dsimp only [ok] at hrest
        cases qe : fe (setR (ext m (free ρ)) ks es) with
        | none => rw [qe] at hrest; cases hrest
        | some z =>
          cases z with
          | error ce => rw [qe] at hrest; cases hrest
          | ok rr =>
            rw [qe] at hrest
            dsimp only at hrest
            split at hrest
            · rename_i him
              obtain ⟨rest', er, er2⟩ := bnd_eq_ok hrest
              have er3 := ok_inj er2
              refine thn (he Cc { s2 with heap := P2 } (upd H2 Dd (.lst [])) fp H6 _ s7 _ H7 (fun v H8 => Same H7 H8 ∧ Is X.K H8 rr v) I7 ⟨_, rel6.mono sm7, by rw [qe]; exact fun v H8 e i => ⟨e, i⟩⟩) fun u8 s8 ⟨v8, H8, I8, rv8, sm8, i8⟩ => ?_
              have hD8 : H8 Dd = some (.lst vs) := sm8 _ _ (sm7 _ _ hDj)
              have hlv : vs.length = rj.length := ilj.length.symm
              have il8 := (ilj.mono sm7).mono sm8
              have al : ∀ o, (∀ b xs, H8 b = some (.tup xs) → upd H8 Dd (.lst o) b = some (.tup xs)) ∧ (∀ b oo u, H8 b = some (.frz oo u) → upd H8 Dd (.lst o) b = some (.frz oo u)) := fun o =>
                ⟨fun b xs e => by rw [upd_ne (fun z => by subst z; rw [hD8] at e; cases e)]; exact e, fun b oo u e => by rw [upd_ne (fun z => by subst z; rw [hD8] at e; cases e)]; exact e⟩
              refine thn (mt_append _ s8 _ H8 (.ref Dd) [v8] (.ref Dd) [u8] (fun v9 H9 => H9 = upd H8 Dd (.lst (vs ++ [v8]))) I8 rfl (.cons rv8 .nil) ⟨Dd, vs, v8, rfl, rfl, hD8, by have := sizeLine_eq; omega, rfl⟩) fun u9 s9 ⟨v9, H9, I9, _, e9⟩ => ?_
              subst e9
              refine turn s9 _ (vs ++ [v8]) (rj ++ [rr]) rest' I9 upd_same ((IsL.alike (al _).1 (al _).2 imj il8).append (.cons (Is.alike (al _).1 (al _).2 him i8) .nil)) ?_ (by rw [List.length_append]; simp only [List.length_cons, List.length_nil]; omega) ?_ er (by rw [hrs', ← er3, List.append_assoc]; rfl)
              · rw [immL_append, imj]
                show (rr.imm && true) = true
                rw [him]
                rfl
              · intro b o e
                rw [upd_ne (ne_of_none e nD2)]
                exact sm8 _ _ (sm7 _ _ (smj _ _ e))
            · cases hrest
    · have ej : j = ds.length := by omega
      subst ej
      rw [List.drop_eq_nil_of_le (Nat.le_refl _)] at hrest
      have er := ok_inj hrest
      refine thn (T.done (cxC X scope cl N' Cc { s2 with heap := P2 } (upd H2 Dd (.lst [])) fp) rfl rfl rfl hcm ds.length [] s' _ Hj (fun _ _ => False) IJ (fpX frj) stj (hJ.stop _ Hj smj (Nat.le_refl _))) fun r s3 ⟨hr, I3⟩ => ?_
      subst hr
      obtain ⟨mm, hmm, _⟩ := I3.loc
      have nCj : Hj Cc = none := I3.free
      have zC := I2.fpOk (b := Cc) (H' := H2) (by rw [hD, hsz]; exact Nat.le_succ _) nC2
      have ers : rs = rj := by rw [hrs', ← er, List.append_nil]
      refine fin Dd Cc s3 Hj rs ?_ ⟨mm, hmm⟩ ⟨zC.2.2.2.1, zC.2.1, zC.2.2.2.2.1, zC.2.2.2.2.2⟩ nCj (e1.trans smj) (.lst (SqL.of hDj) (by rw [ers]; exact ilj)) hQ
      intro h' hsb
      have U1 : Un (frs X.stack) (Cc :: fp) H2 (upd H2 Dd (.lst [])) s2.heap P2 := Un.laid hk2P (by rw [hD]; exact Nat.le_refl _) nD2
      have U2 : Un (frs X.stack) (Cc :: fp) (upd H2 Dd (.lst [])) Hj P2 s3.heap := I3.base.mono (fun _ z => z) (fun b z => List.mem_cons_of_mem _ z)
      have kp : ∀ b o, b ≠ Cc → s3.heap.get? b = some o → h'.get? b = some o := fun b o hb e => hsb.extBut b o hb e
      have nc : ∀ b, b ∉ Cc :: fp → b ≠ Cc := fun b hb z => hb (by rw [z]; exact List.mem_cons_self)
      have U3 : Un (frs X.stack) (Cc :: fp) Hj Hj s3.heap h' := ⟨fun b o e _ _ hx => kp b o (nc b hx) e, fun b o e _ _ hx => ⟨o.slots, kp b o (nc b hx) e⟩, fun _ _ _ n _ => n, fun b o e hx => ⟨o, kp b o (nc b hx) e⟩, fun _ _ e => e, fun _ _ _ e => e, fun b ps e => ⟨#[], by rw [e]; simp⟩⟩
      have hok' : HOk X.prog X.w Hj h' := fun b u e => (I3.hok b u e).stay (fun c v hc q => kp c v (fun z => by
        rcases hc with hc | hc
        · rw [hc] at z; rw [z, nCj] at e; cases e
        · rw [z, nCj] at hc; cases hc) q) (fun _ q => q) fun _ _ q => q
      have IX : Inv X pins σ Hj { s3 with heap := h' } := I2.call' (ch := Cc :: fp) I3.os ((U1.trans U2).trans U3) hok' I3.bare fun b hb => by
        rcases List.mem_cons.mp hb with rfl | hb
        · have z := I2.fpOk (b := b) (H' := H2) (by rw [hD, hsz]; exact Nat.le_succ _) nC2
          exact ⟨z.2.2.2.1, z.2.1, z.2.2.2.2.1, z.2.2.2.2.2⟩
        · obtain ⟨z0, z1, z2, z3, z4, z5⟩ := f2 b hb
          exact ⟨z3, z1, z4, z5⟩
      exact IX
  exact codeAny_compStart_list (loop _ rfl) (T.self _ 0 _ _ _ (T.keep _ _ _ st2 fun b hb o e => hk01 _ _ (hk2P _ _ e)) (loop _ rfl))
theorem pd_comp (hclos : closureFor scope X.env = pure cl) (hcell : ∀ y ∈ scope.names, y.2 ≠ .cell) (hkind : scope.kind = .function) (hnames : ∀ y ∈ scope.names, y.2 = .local → scope.names.lookup y.1 = some .local) (hcl : lkAll cl X.env = true)
    (hnm : nmAll X.N N' (relabel scope X.env) = true) (hf : frAll cl (relabel scope X.env) = true) (hl : N'.length = X.N.length + m) (hks : ∀ k ∈ ks, X.N.length ≤ k) (hcm : X.calm = true) (hi : PIt X B tg iter it)
    (hg : ∀ C s₀ H₀ ex, PDH (cxC X scope cl N' C s₀ H₀ ex) tg ks G) (ht : ∀ C s₀ H₀ ex B, PIf (cxC X scope cl N' C s₀ H₀ ex) B ifs ft) (he : ∀ C s₀ H₀ ex B, PD (cxC X scope cl N' C s₀ H₀ ex) B elt fe)
    (hs : ∀ x, foldedSetIterable iter X.env x = pure x := by intro _; rfl) : PD X B (.ListComp elt [⟨tg, iter, ifs, 0⟩] scope pos) (cmp m it ks G ft fe) := by
  intro pins s σ H Q I h
  obtain ⟨ρ, r, h⟩ := h
  rw [eval_ListComp]
  refine comp_core (use := none) (Q' := EP X pins σ Q) (Kp := fun rs => ∀ v H', Same H H' → Is X.K H' (.lst rs) v → Q v H') hclos hcell hkind hnames hcl hnm hf hl hks hcm hi hg ht he hs I r (h.imp fun d q rs e v H' sm i => by subst e; exact q v H' sm i) ?_
  intro Dd Cc s3 Hj rs IX ⟨mm, hmm⟩ _ _ sm is hQ
  exact ⟨mm, hmm, fun h' hsb => ⟨.ref Dd, Hj, IX h' hsb, rfl, hQ _ Hj sm is⟩⟩
theorem Inv.offC {pins : List (Addr × Obj)} {s : Shared} {σ : St} {H : Hp} {C : Addr} {h' : Heap} (I : Inv X pins σ H s) (f : OutC X pins C) (hC : H C = none) (hsb : Heap.SameBut C s.heap h') : Inv X pins σ H { s with heap := h' } := by
  have kp : ∀ b o, b ≠ C → s.heap.get? b = some o → h'.get? b = some o := fun b o hb e => hsb.extBut b o hb e
  have nc : ∀ b, b ∉ [C] → b ≠ C := fun b hb z => hb (by rw [z]; exact List.mem_cons_self)
  have U : Un (frs X.stack) [C] H H s.heap h' := ⟨fun b o e _ _ hx => kp b o (nc b hx) e, fun b o e _ _ hx => ⟨o.slots, kp b o (nc b hx) e⟩, fun _ _ _ n _ => n, fun b o e hx => ⟨o, kp b o (nc b hx) e⟩, fun _ _ e => e, fun _ _ _ e => e, fun b ps e => ⟨#[], by rw [e]; simp⟩⟩
  have hok' : HOk X.prog X.w H h' := fun b u e => (I.hok b u e).stay (fun c v hc q => kp c v (fun z => by
    rcases hc with hc | hc
    · rw [hc] at z; rw [z, hC] at e; cases e
    · rw [z, hC] at hc; cases hc) q) (fun _ q => q) fun _ _ q => q
  exact I.call' (s' := { s with heap := h' }) (ch := [C]) rfl U hok' I.bare fun b hb => by
    rw [List.mem_singleton] at hb
    subst hb
    exact f
/-- x = [..] of a comprehension on its row: the name is stored ahead of the names' going -/
theorem pds_comp {i : Nat} {x : Str} {pos' spos : Pos} (hN : X.N.Nodup) (hi0 : X.N[i]? = some x) (hx : Loc X.env.scope x) (hclos : closureFor scope X.env = pure cl) (hcell : ∀ y ∈ scope.names, y.2 ≠ .cell) (hkind : scope.kind = .function) (hnames : ∀ y ∈ scope.names, y.2 = .local → scope.names.lookup y.1 = some .local) (hcl : lkAll cl X.env = true)
    (hnm : nmAll X.N N' (relabel scope X.env) = true) (hf : frAll cl (relabel scope X.env) = true) (hl : N'.length = X.N.length + m) (hks : ∀ k ∈ ks, X.N.length ≤ k) (hcm : X.calm = true) (hi : PIt X B tg iter it)
    (hg : ∀ C s₀ H₀ ex, PDH (cxC X scope cl N' C s₀ H₀ ex) tg ks G) (ht : ∀ C s₀ H₀ ex B, PIf (cxC X scope cl N' C s₀ H₀ ex) B ifs ft) (he : ∀ C s₀ H₀ ex B, PD (cxC X scope cl N' C s₀ H₀ ex) B elt fe)
    (hsw : swapsWith (.ListComp elt [⟨tg, iter, ifs, 0⟩] scope pos) (some (.Name x pos')) spos.line X.env = pure true) (hs : ∀ x, foldedSetIterable iter X.env x = pure x := by intro _; rfl)
    (hfn : X.fn x = true ∨ X.env.scope.names.lookup x = some .local := by first | exact .inl rfl | exact .inr rfl | assumption) :
    PDS X B (.Assign [.Name x pos'] (.ListComp elt [⟨tg, iter, ifs, 0⟩] scope pos) spos) (sSet i (cmp m it ks G ft fe)) := by
  intro pins s σ H E I h
  obtain ⟨ρ, r, h⟩ := h
  rw [exec_Assign_Name_used _ _ _ _ hsw]
  refine wpAny_bind (wpAny_standAt (wpAny_bind (wpAny_bind (comp_core (use := some _) (Kp := fun rs => GoodO X B E (some (.nx (setV i (.lst rs) ρ)))) hclos hcell hkind hnames hcl hnm hf hl hks hcm hi hg ht he hs I r ?_ ?_))))
  · exact (lft_red r h).imp fun d q rs e => by subst e; exact q
  · intro Dd Cc s3 Hj rs IX ⟨mm, hmm⟩ oc nC sm is hQ
    have I3 : Inv X pins σ Hj s3 := IX s3.heap (Heap.SameBut.refl Cc s3.heap)
    refine wpAny_assign_Name (store_ok2 I3 hN hi0 hx (v := .ref Dd) rfl (fun s4 I4 ⟨a, sb, ha⟩ => ⟨mm, hmm.sameBut sb ?_, fun h' hsb => ?_⟩) hfn)
    · rcases ha with ha | ha
      · rw [ha]; exact oc.2.1
      · exact Ne.symm (oc.2.2.1 x a ha)
    · exact wpAny_pure (wpAny_pure ⟨_, Hj, Inv.offC I4 oc nC hsb, hQ _ Hj ((r.mono sm).setV is)⟩)
end
end L2.PU

namespace L2.PU
open PySem PySem.Spec PyProof.Rows

/-! ### exceptions: how they leave a def -/
section
variable {l : List Env} {H1 H : Hp} {h1 h h5 Bs base : Heap}
end
section
variable {X : Cx} {pins : List (Addr × Obj)} {σ : St} {H H1 : Hp} {c ea : Addr} {e a0 : Value} {s s1 : Shared} {Bs h' : Heap}
end

section
variable {P : Program} {w : World} {K : PySem.W.Frag} {mg : Str → Option Value} {base : Heap}
end

section
variable {X : Cx} {B : Hp} {e : Expr} {es : List Expr} {ga : Rho → M (List D)} {np cpos pos : Pos} {x : Str} {C : Addr} {bmB : List Value} {nid iid B0 : String}
end
end L2.PU

namespace L2.PU
open PySem PySem.Spec PyProof.Rows

section
variable {X : Cx} {B : Hp} {e : Expr} {fa : Rho → M D} {pos p p2 : Pos}
end

/-! ### try: .. except C as n: .. -/
/-- an exception lies: come from a call -/
noncomputable def FlyX (X : Cx) (pins : List (Addr × Obj)) (σ : St) (H : Hp) (ea c : Addr) (s : Shared) : Prop :=
  ∃ s1 H1, Inv X pins σ H1 s1 ∧ s.os = s1.os ∧ AllBare s.gens ∧ Un (frs X.stack) [] H1 H s1.heap s.heap ∧ Fly X.prog X.w X.stack s1 ea c H s
section
variable {X : Cx} {pins : List (Addr × Obj)} {σ : St} {H : Hp} {c ea : Addr} {s : Shared} {e : Value}
theorem FlyX.at_ (f : FlyX X pins σ H ea c s) : excAt ea c s.heap := by
  obtain ⟨s1, H1, I, os, bare, un, Bs, a0, fl, old, hok⟩ := f
  exact fl.there
end
end L2.PU

namespace L2.PU
open PySem PySem.Spec PyProof.Rows

/-- one except clause: of which classes it is known whether they match; the name's slot; the suite -/
structure HD where
  m : Addr → Option Bool
  i : Nat
  G : Rho → Option Out
section
variable {X : Cx} {pins : List (Addr × Obj)} {σ : St} {H B : Hp} {s : Shared} {ρ : Rho}
end

section
variable {X : Cx} {B : Hp} {x n : Str} {i : Nat} {C : Addr} {np pos : Pos} {b₀ : Stmt} {body : List Stmt} {rest : List ExceptHandler} {m : Addr → Option Bool} {G : Rho → Option Out} {hs : List HD}
variable {pins pins' : List (Addr × Obj)} {σ : St} {H : Hp} {s : Shared} {hl : List ExceptHandler} {Q : Flow → Shared → Prop} {c ea : Addr} {e : Value}
end
end L2.PU

namespace L2.PU
open PySem PySem.Spec PyProof.Rows

section
variable {X : Cx} {B : Hp} {k v : Expr} {fk fv : Rho → M D} {pos : Pos}
end
end L2.PU

namespace L2.PU
open PySem PySem.Spec PyProof.Rows

/-! ### comprehensions: what is walked, the names, the test -/
section
variable {X : Cx} {B : Hp} {tg iter c : Expr} {fa : Rho → M D} {ft : Rho → M Bool} {pos p : Pos} {x y : Str} {k k2 : Nat}
noncomputable def itE (f : Rho → M D) : Rho → M (List D) := fun ρ => bnd (f ρ) itD
theorem pit_D (h : PD X B iter fa) : PIt X B tg iter (itE fa) := by
  intro pins s σ H R ρ I r q
  refine pi_D (tg := tg) h pins s σ H R I ⟨ρ, r, (Res.bind q).imp fun d q1 v H1 e1 i1 => ?_⟩
  cases i1 with
  | lst hh rr => exact .inl ⟨_, rfl, ⟨_, hh⟩, q1 _ H1 e1 (itd_list hh rr)⟩
  | tup hh rr => exact .inr ⟨_, rfl, ⟨_, hh.sq⟩, q1 _ H1 e1 (itd_tup hh rr)⟩
  | _ => exact False.elim q1
noncomputable def rngD : D → M (List D)
  | .int j => if -(2 ^ 62) ≤ j ∧ j < 2 ^ 62 then ok (rng 0 j.toNat) else none
  | _ => none
noncomputable def itR (f : Rho → M D) : Rho → M (List D) := fun ρ => bnd (f ρ) rngD
theorem pit_r1 (hg : Gl X "range") (hm : X.mg "range" = none) (h : PD X B c fa) (hs : nostar c = true := by rfl) : PIt X B tg (.Call (.Name "range" p) [c] [] pos) (itR fa) := by
  intro pins s σ H R ρ I r q
  refine pi_range1 (tg := tg) hg hm (pa_cons h pa_nil (star_ok hs)) (star1 hs) pins s σ H R I ⟨ρ, r, (Res.bind q).imp fun d q1 v H1 e1 i1 => ?_⟩
  cases i1 with
  | int j =>
    dsimp only [rngD] at q1
    split at q1
    · rename_i hb; exact ⟨_, rfl, hb.1, hb.2, q1 _ H1 e1 (itd_rng 0 _ H1)⟩
    · exact False.elim q1
  | _ => exact False.elim q1
noncomputable def h1 : D → Option (List D) := fun d => some [d]
theorem pdn_1 (hN : X.N.Nodup) (hi : X.N[k]? = some x) (hx : Loc X.env.scope x) (hf : X.fn x = true ∨ X.env.scope.names.lookup x = some .local := by first | exact .inl rfl | exact .inr rfl | assumption) : PDH X (.Name x pos) [k] h1 := by
  intro pins s σ H v u Q I r h
  obtain ⟨d, es, i, e, q⟩ := h
  cases e
  exact pg_name hN hi hx hf pins s σ H v u Q I r (q [v] (.cons i .nil) rfl)
noncomputable def h2 : D → Option (List D)
  | .tup [a, b] => some [a, b]
  | _ => none
theorem pdn_2 {p1 p2 : Pos} {kt : Nat} (hc : X.calm = true) (hN : X.N.Nodup) (hi : X.N[k]? = some x) (hx : Loc X.env.scope x) (hj : X.N[k2]? = some y) (hy : Loc X.env.scope y)
    (hf : X.fn x = true ∨ X.env.scope.names.lookup x = some .local := by first | exact .inl rfl | exact .inr rfl | assumption) (hf2 : X.fn y = true ∨ X.env.scope.names.lookup y = some .local := by first | exact .inl rfl | exact .inr rfl | assumption) :
    PDH X (.Tuple [.Name x p1, .Name y p2] kt pos) [k, k2] h2 := by
  intro pins s σ H v u Q I r h
  obtain ⟨d, es, i1, e, q⟩ := h
  unfold h2 at e
  split at e
  · rename_i a b
    cases e
    cases i1 with
    | tup hh rr =>
      cases rr with
      | cons ia rr =>
        cases rr with
        | cons ib rr =>
          cases rr
          refine pg_tup (n := 2) hc (pgs_cons (pg_name hN hi hx hf) (pgs_cons (pg_name hN hj hy hf2) pgs_nil)) rfl rfl pins s σ H _ u Q I r ?_
          exact ⟨_, _, rfl, hh, rfl, _, _, rfl, _, _, rfl, rfl, q [_, _] (.cons ia (.cons ib .nil)) rfl⟩
  · cases e
theorem pif_none : PIf X B [] (fun _ => ok true) := .inl ⟨rfl, rfl⟩
end

/-! ### tuple(x), list(x) -/
section
variable {X : Cx} {B : Hp} {e : Expr} {fa : Rho → M D} {pos p : Pos}
noncomputable def toT : D → M D
  | .lst ds => ok (.tup ds)
  | .tup ds => ok (.tup ds)
  | _ => none
theorem pd_tuple (hg : Gl X "tuple") (hm : X.mg "tuple" = none) (ha : PD X B e fa) (hs : nostar e = true := by rfl) : PD X B (.Call (.Name "tuple" p) [e] [] pos) (f1 toT fa) := by
  refine PE.of (pe_callTy call_tuple_of hg hm boot_tuple (pa_cons ha pa_nil (star_ok hs)) (he := star_ok hs) (hpl := by rfl)) fun σ H Q h => ?_
  obtain ⟨ρ, r1, h⟩ := h
  refine ⟨ρ, r1, (Res.bind h).imp fun d q1 v H1 e1 i1 => ?_⟩
  cases i1 with
  | lst hh rr => exact ⟨_, _, rfl, .inl ⟨hh, fun l hl => q1 _ _ (e1.trans (same_new hl _)) (.tup (TQ.of upd_same) (rr.mono (same_new hl _)))⟩⟩
  | tup hh rr => exact ⟨_, _, rfl, .inr ⟨hh.sq, q1 _ H1 e1 (.tup hh rr)⟩⟩
  | _ => exact False.elim q1
end
end L2.PU

namespace L2.PU
open PySem PySem.Spec PyProof.Rows

section
variable {K : PySem.W.Frag} {H : Hp}
end
section
variable {X : Cx} {B : Hp} {a b : Expr} {fa fb : Rho → M D} {pos : Pos}
end
end L2.PU

namespace L2.PU
open PySem PySem.Spec PyProof.Rows
theorem lk_nil {env : Env} : lkAll [] env = true := rfl
theorem lk_cons {env : Env} {x : Str} {c : Addr} {cl : List (Str × Addr)} (h1 : env.cells.lookup x = some c) (h2 : env.kindOf x = some .cell ∨ env.kindOf x = some .free) (r : lkAll cl env = true) : lkAll ((x, c) :: cl) env = true := by
  unfold lkAll at r ⊢
  rw [List.all_cons, r, Bool.and_true]
  dsimp only
  rw [h1]
  rcases h2 with h2 | h2 <;> rw [h2] <;> simp
section
variable {X : Cx} {B : Hp} {scope : Scope} {cl : List (Str × Addr)} {N' : List Str} {m : Nat} {tg iter elt : Expr} {ifs : List Expr} {pos : Pos} {ks : List Nat} {G : D → Option (List D)} {ft : Rho → M Bool} {fe : Rho → M D} {it : Rho → M (List D)}
theorem pd_comp1 (hclos : closureFor scope X.env = pure cl) (hcell : scope.names.all (fun y => y.2 != .cell) = true) (hkind : scope.kind = .function) (hnames : scope.names.all (fun y => y.2 != .local || scope.names.lookup y.1 == some .local) = true) (hcl : lkAll cl X.env = true)
    (hnm : nmAll X.N N' (relabel scope X.env) = true) (hf : frAll cl (relabel scope X.env) = true) (hl : N'.length = X.N.length + m) (hks : ks.all (fun k => decide (X.N.length ≤ k)) = true) (hcm : X.calm = true) (hi : PIt X B tg iter it)
    (hg : ∀ C s₀ H₀ ex, PDH (cxC X scope cl N' C s₀ H₀ ex) tg ks G) (ht : ∀ C s₀ H₀ ex B, PIf (cxC X scope cl N' C s₀ H₀ ex) B ifs ft) (he : ∀ C s₀ H₀ ex B, PD (cxC X scope cl N' C s₀ H₀ ex) B elt fe)
    (hs : ∀ x, foldedSetIterable iter X.env x = pure x := by intro _; rfl) : PD X B (.ListComp elt [⟨tg, iter, ifs, 0⟩] scope pos) (cmp m it ks G ft fe) :=
  pd_comp hclos (fun y hy => by have := List.all_eq_true.mp hcell y hy; simpa using this) hkind
    (fun y hy z => by have := List.all_eq_true.mp hnames y hy; rw [z] at this; simpa using this) hcl hnm hf hl
    (fun k hk => of_decide_eq_true (List.all_eq_true.mp hks k hk)) hcm hi hg ht he hs
theorem pds_comp1 {i : Nat} {x : Str} {pos' spos : Pos} (hN : X.N.Nodup) (hi0 : X.N[i]? = some x) (hx : Loc X.env.scope x) (hclos : closureFor scope X.env = pure cl) (hcell : scope.names.all (fun y => y.2 != .cell) = true) (hkind : scope.kind = .function) (hnames : scope.names.all (fun y => y.2 != .local || scope.names.lookup y.1 == some .local) = true) (hcl : lkAll cl X.env = true)
    (hnm : nmAll X.N N' (relabel scope X.env) = true) (hf : frAll cl (relabel scope X.env) = true) (hl : N'.length = X.N.length + m) (hks : ks.all (fun k => decide (X.N.length ≤ k)) = true) (hcm : X.calm = true) (hi : PIt X B tg iter it)
    (hg : ∀ C s₀ H₀ ex, PDH (cxC X scope cl N' C s₀ H₀ ex) tg ks G) (ht : ∀ C s₀ H₀ ex B, PIf (cxC X scope cl N' C s₀ H₀ ex) B ifs ft) (he : ∀ C s₀ H₀ ex B, PD (cxC X scope cl N' C s₀ H₀ ex) B elt fe)
    (hsw : swapsWith (.ListComp elt [⟨tg, iter, ifs, 0⟩] scope pos) (some (.Name x pos')) spos.line X.env = pure true := by rfl) (hs : ∀ x, foldedSetIterable iter X.env x = pure x := by intro _; rfl)
    (hfn : X.fn x = true ∨ X.env.scope.names.lookup x = some .local := by first | exact .inl rfl | exact .inr rfl | assumption) :
    PDS X B (.Assign [.Name x pos'] (.ListComp elt [⟨tg, iter, ifs, 0⟩] scope pos) spos) (sSet i (cmp m it ks G ft fe)) :=
  pds_comp hN hi0 hx hclos (fun y hy => by have := List.all_eq_true.mp hcell y hy; simpa using this) hkind
    (fun y hy z => by have := List.all_eq_true.mp hnames y hy; rw [z] at this; simpa using this) hcl hnm hf hl
    (fun k hk => of_decide_eq_true (List.all_eq_true.mp hks k hk)) hcm hi hg ht he hsw hs hfn
end
end L2.PU

namespace L2.PU
open PySem PySem.Spec PyProof.Rows

/-! ### + of ints, texts, tuples, lists -/
section
variable {X : Cx} {B : Hp} {a b : Expr} {fa fb : Rho → M D} {pos : Pos}
theorem OpR.or {f : Value → Value → Sem Value} {r r' : R2} (h : OpR X f r) (h' : OpR X f r') : OpR X f (fun x y H Q => r x y H Q ∨ r' x y H Q) := by
  intro pins s σ H x y v u Q I rx ry q
  rcases q with q | q
  · exact h pins s σ H x y v u Q I rx ry q
  · exact h' pins s σ H x y v u Q I rx ry q
noncomputable def rCat0 (K : PySem.W.Frag) : R2 := fun x y H Q => ∃ a b ys, x = .ref a ∧ y = .ref b ∧ SqT K H a [] ∧ SqT K H b ys ∧ Q (.ref b) H
theorem op_cat0 : OpR X (binaryOp .Add) (rCat0 X.K) := by
  intro pins s σ H x y v u Q I rx ry h
  obtain ⟨a, b, ys, rfl, rfl, ha, hb, q⟩ := h
  cases rx
  cases ry
  obtain ⟨its, r1, p1, _⟩ := I.tuple ha
  obtain ⟨its2, r2, p2, _⟩ := I.tuple hb
  have e1 : its = [] := r1.nil_iff.mpr rfl
  subst e1
  obtain ⟨⟨c1, d1, x1, l1⟩, o1, k1, n1, z1⟩ := p1
  obtain ⟨⟨c2, d2, x2, l2⟩, o2, k2, n2, z2⟩ := p2
  dsimp only at k1 z1 k2 z2
  subst k1 z1 k2 z2
  exact concat_meets ⟨_, o1, rfl⟩ ⟨_, o2, rfl⟩ noFill_tuple_add seq_tuple_add PySem.F.slot_tuple_add PySem.F.entry_tuple_add (PySem.F.args_tuple_add_2 _ _)
    (tuple_addW0 a b _ _ n1 n2 d1 d2 l1 l2 rfl) ⟨o1, o2, ⟨.ref b, H, I, rfl, q⟩⟩
noncomputable def rCatG (K : PySem.W.Frag) : R2 := fun x y H Q => ∃ a b xs ys, x = .ref a ∧ y = .ref b ∧ SqL K H a xs ∧ SqL K H b ys ∧ xs.length + ys.length ≤ sizeLine ∧ ∀ p, H p = none → Q (.ref p) (upd H p (.lst (xs ++ ys)))
theorem op_catG : OpR X (binaryOp .Add) (rCatG X.K) := by
  intro pins s σ H x y v u Q I rx ry h
  obtain ⟨a, b, xs, ys, rfl, rfl, ha, hb, hz, q⟩ := h
  cases rx
  cases ry
  obtain ⟨its, r1, p1, _⟩ := I.list ha
  obtain ⟨its2, r2, p2, _⟩ := I.list hb
  have hl1 := r1.length
  have hl2 := r2.length
  obtain ⟨⟨c1, d1, x1, l1⟩, n1, o1, k1, _, z1⟩ := p1
  obtain ⟨⟨c2, d2, x2, l2⟩, n2, o2, k2, _, z2⟩ := p2
  dsimp only at k1 z1 k2 z2
  subst k1 z1 k2 z2
  refine concat_meets ⟨_, o1, rfl⟩ ⟨_, o2, rfl⟩ noFill_list_add seq_list_add PySem.F.slot_list_add PySem.F.entry_list_add (PySem.F.args_list_add_2 _ _)
    (list_addW a b _ _ n1 n2 d1 d2 l1 l2 (by rw [List.size_toArray, List.size_toArray, ← hl1, ← hl2]; exact hz)) ⟨o1, o2, ?_⟩
  have ea : its.toArray ++ its2.toArray = (its ++ its2).toArray := by simp
  rw [ea]
  exact ⟨.ref _, _, I.lnew (t' := s.toks) (r1.append r2) (by rw [List.length_append]; exact hz), rfl, q _ I.fresh⟩
noncomputable def gPlus : D → D → M D
  | .int i, .int j => ok (.int (i + j))
  | .str i, .str j => if i.length + j.length ≤ 100000 then ok (.str (i ++ j)) else none
  | .tup xs, .tup ys => if xs.length + ys.length ≤ 100000 then ok (.tup (xs ++ ys)) else none
  | .lst xs, .lst ys => if xs.length + ys.length ≤ 100000 then ok (.lst (xs ++ ys)) else none
  | _, _ => none
theorem n_plus : NoErr gPlus := by
  intro x y c h
  unfold gPlus at h
  (repeat' split at h) <;> cases h
theorem line5 {n : Nat} (h : n ≤ 100000) : n ≤ sizeLine := Nat.le_trans h (by decide)
noncomputable def rPlus (K : PySem.W.Frag) : R2 := fun x y H Q => (∃ i j, x = .int i ∧ y = .int j ∧ Q (.int (i + j)) H) ∨ (∃ i j, x = .str i ∧ y = .str j ∧ i.length + j.length ≤ sizeLine ∧ Q (.str (i ++ j)) H) ∨ rCat0 K x y H Q ∨ rCatT K x y H Q ∨ rCatG K x y H Q
theorem op_plus : OpR X (binaryOp .Add) (rPlus X.K) := OpR.or op_add (OpR.or op_add_str (OpR.or op_cat0 (OpR.or op_catT op_catG)))
theorem r_plus : R2ok X (rPlus X.K) gPlus := by
  intro H x y dx dy d Q ix iy e q
  unfold gPlus at e
  split at e
  · cases ix; cases iy; cases e
    exact .inl ⟨_, _, rfl, rfl, q _ H (Same.refl H) (.int _)⟩
  · split at e
    · rename_i hz
      cases ix; cases iy; cases e
      exact .inr (.inl ⟨_, _, rfl, rfl, line5 hz, q _ H (Same.refl H) (.str _)⟩)
    · cases e
  · split at e
    · rename_i hz
      cases ix with
      | tup h1 r1 =>
        cases iy with
        | tup h2 r2 =>
          cases e
          rw [r1.length, r2.length] at hz
          cases r1 with
          | nil => exact .inr (.inr (.inl ⟨_, _, _, rfl, rfl, h1, h2.sq, q _ H (Same.refl H) (.tup h2 r2)⟩))
          | cons i1 r1 =>
            refine .inr (.inr (.inr (.inl ⟨_, _, _, _, rfl, rfl, h1, h2, by simp, line5 hz, fun z => ?_, fun z p hp => ?_⟩)))
            · subst z
              cases r2
              exact q _ H (Same.refl H) (by rw [List.append_nil]; exact .tup h1 (.cons i1 r1))
            · exact q _ _ (same_new hp _) (.tup (TQ.of upd_same) ((IsL.append (.cons i1 r1) r2).mono (same_new hp _)))
    · cases e
  · split at e
    · rename_i hz
      cases ix with
      | lst h1 r1 =>
        cases iy with
        | lst h2 r2 =>
          cases e
          rw [r1.length, r2.length] at hz
          exact .inr (.inr (.inr (.inr ⟨_, _, _, _, rfl, rfl, h1, h2, line5 hz, fun p hp => q _ _ (same_new hp _) (.lst (SqL.of upd_same) ((IsL.append r1 r2).mono (same_new hp _)))⟩)))
    · cases e
  · cases e
theorem pd_plus (ha : PD X B a fa) (hb : PD X B b fb) : PD X B (.BinOp a .Add b pos) (b2 gPlus fa fb) := pd_op op_plus r_plus n_plus ha hb
end

/-! ### a text times an int; a part of a text -/
section
variable {X : Cx} {B : Hp} {a b : Expr} {fa fb : Rho → M D} {pos : Pos}
noncomputable def repS (x : Str) (n : Nat) : Str := ⟨(List.replicate n x.cps).foldl (· ++ ·) #[]⟩
noncomputable def rMulS : R2 := fun x y H Q => ∃ z k, x = .str z ∧ y = .int k ∧ 0 ≤ k ∧ z.length ≤ 1000 ∧ k ≤ 1000 ∧ Q (.str (repS z k.toNat)) H
theorem rep0 (x : Str) : repS x 0 = Str.empty := rfl
theorem rep1 (x : Str) : repS x 1 = x := by
  unfold repS
  simp
theorem repE {x : Str} (h : x.length = 0) (n : Nat) : repS x n = x := by
  obtain ⟨c⟩ := x
  have e : c = #[] := Array.size_eq_zero_iff.mp h
  subst e
  unfold repS
  congr 1
  induction n with
  | zero => rfl
  | succ n ih => rw [List.replicate_succ, List.foldl_cons]; exact ih
theorem rep_len (x : Str) (n : Nat) : (repS x n).length = n * x.length := by
  have g : ∀ (m : Nat) (a : Array Nat), ((List.replicate m x.cps).foldl (· ++ ·) a).size = a.size + m * x.cps.size := by
    intro m
    induction m with
    | zero => intro a; simp
    | succ m ih => intro a; rw [List.replicate_succ, List.foldl_cons, ih, Array.size_append, Nat.succ_mul]; omega
  show ((List.replicate n x.cps).foldl (· ++ ·) #[]).size = n * x.cps.size
  rw [g]
  simp
theorem op_mulS : OpR X (binaryOp .Mult) rMulS := by
  intro pins s σ H x y v u Q I rx ry h
  obtain ⟨z, k, rfl, rfl, h0, hz, hk, q⟩ := h
  obtain ⟨t, rfl⟩ := rx
  obtain ⟨t', rfl⟩ := ry
  refine P.mul_str ?_ (fun h1 h2 => ?_) (fun h1 h2 => ?_) ?_
  · have e1 : decide (k < -(2 ^ 63 : Int)) = false := decide_eq_false (by omega)
    have e2 : decide (k ≥ 2 ^ 63) = false := decide_eq_false (by omega)
    rw [e1, e2]; rfl
  · have h3 : (1001 : Int) ≤ (2 ^ 63 - 1) / k := by
      refine Int.le_ediv_of_mul_le (by omega) ?_
      have : (1001 : Int) * k ≤ 1001 * 1000 := by omega
      omega
    omega
  · have h3 : z.length * k.toNat ≤ 1000 * 1000 := Nat.mul_le_mul hz (by omega)
    exact decide_eq_false (by unfold sizeLine; omega)
  · by_cases k0 : k < 1
    · have ek : k.toNat = 0 := by omega
      rw [if_pos k0]
      rw [ek, rep0] at q
      exact ⟨by decide, ⟨.str Str.empty, H, I.tok _, ⟨_, rfl⟩, q⟩⟩
    · rw [if_neg k0]
      split
      · rename_i hh
        have e : repS z k.toNat = z := by
          simp only [Bool.or_eq_true, beq_iff_eq] at hh
          rcases hh with hh | hh
          · have ek : k.toNat = 1 := by omega
            rw [ek, rep1]
          · exact repE hh _
        rw [e] at q
        exact ⟨.str z, H, I, ⟨t, rfl⟩, q⟩
      · have hl : (repS z k.toNat).length ≤ sizeLine := by
          rw [rep_len]
          have : k.toNat * z.length ≤ 1000 * 1000 := Nat.mul_le_mul (by omega) hz
          unfold sizeLine
          omega
        exact ⟨hl, ⟨.str (repS z k.toNat), H, I.tok _, ⟨_, rfl⟩, q⟩⟩
/-- * of ints; of a text and an int -/
noncomputable def gTimes : D → D → M D
  | .int i, .int j => gMul (.int i) (.int j)
  | .str z, .int k => if 0 ≤ k ∧ z.length ≤ 1000 ∧ k ≤ 1000 then ok (.str (repS z k.toNat)) else none
  | _, _ => none
theorem n_times : NoErr gTimes := by
  intro x y c h
  unfold gTimes gMul at h
  (repeat' split at h) <;> cases h
theorem pd_times (ha : PD X B a fa) (hb : PD X B b fb) : PD X B (.BinOp a .Mult b pos) (b2 gTimes fa fb) := by
  refine pd_op (OpR.or op_mulB op_mulS) ?_ n_times ha hb
  intro H x y dx dy d Q ix iy e q
  unfold gTimes at e
  split at e
  · dsimp only [gMul] at e
    split at e
    · rename_i h
      cases ix; cases iy; cases e
      exact .inl ⟨_, _, rfl, rfl, h, q _ H (Same.refl H) (.int _)⟩
    · cases e
  · split at e
    · rename_i h
      cases ix; cases iy; cases e
      exact .inr ⟨_, _, rfl, rfl, h.1, h.2.1, h.2.2, q _ H (Same.refl H) (.str _)⟩
    · cases e
  · cases e
end
end L2.PU

namespace L2.PU
open PySem PySem.Spec PyProof.Rows

/-! ### lists of one's own: made, and changed in place -/
section
variable {K : PySem.W.Frag} {H₀ H : Hp} {ρ : Rho} {σ : St}
theorem Rel.own_new {i : Nat} {a : Addr} {ds : List D} {vs : List V} (r : Rel K H₀ ρ σ H) (hf : H a = none) (im : immL ds = true) (iv : IsL K H ds vs) : Rel K H₀ (ρ.set i (some (.own ds))) (σ.set i (some (.ref a))) (upd H a (.lst vs)) := by
  obtain ⟨O, h1, ho, h2, hl, h3⟩ := r
  have na : ∀ j b, O j = some b → b ≠ a := fun j b q e => by
    subst e
    obtain ⟨u, w, m⟩ := ho j b q; rw [w] at hf; cases hf
  let O' : Nat → Option Addr := fun j => if j = i then some a else O j
  have Oi : O' i = some a := if_pos rfl
  have On : ∀ j, j ≠ i → O' j = O j := fun j e => if_neg e
  have hO' : OwnK (upd H a (.lst vs)) O' := fun j b q => by
    by_cases e : j = i
    · subst e
      rw [Oi] at q
      cases q
      exact ⟨_, upd_same, rfl⟩
    · rw [On j e] at q
      have nb := na j b q
      obtain ⟨u, w, m⟩ := ho j b q
      exact ⟨u, by rw [upd_ne nb]; exact w, m⟩
  have sm : Same (Off H O) (Off (upd H a (.lst vs)) O') := fun b o q => by
    have qh := Off.same H O b o q
    have nb : b ≠ a := fun e => by subst e; rw [hf] at qh; cases qh
    refine Off.of (by rw [upd_ne nb]; exact qh) fun j z => ?_
    by_cases e : j = i
    · subst e
      rw [Oi] at z
      cases z
      exact nb rfl
    · rw [On j e] at z
      exact Off.not q j z
  refine ⟨O', fun j k b q1 q2 => ?_, hO', h2.trans sm, by rw [List.length_set, List.length_set, hl], fun j sv q => ?_⟩
  · by_cases e1 : j = i
    · by_cases e2 : k = i
      · rw [e1, e2]
      · subst e1
        rw [Oi] at q1
        cases q1
        rw [On k e2] at q2
        exact absurd rfl (na k _ q2)
    · by_cases e2 : k = i
      · subst e2
        rw [Oi] at q2
        cases q2
        rw [On j e1] at q1
        exact absurd rfl (na j _ q1)
      · rw [On j e1] at q1
        rw [On k e2] at q2
        exact h1 j k b q1 q2
  · by_cases e : j = i
    · subst e
      have hj : j < ρ.length := by
        have := (List.getElem?_eq_some_iff.mp q).1
        rwa [List.length_set] at this
      rw [List.getElem?_set_self hj] at q
      have q' := Option.some.inj (Option.some.inj q)
      subst q'
      exact ⟨a, vs, Oi, List.getElem?_set_self (by rw [← hl]; exact hj), upd_same, offL_imm hO' im (iv.mono (same_new hf _))⟩
    · rw [List.getElem?_set_ne (Ne.symm e)] at q
      have z := h3 j sv q
      cases sv with
      | sh d' => obtain ⟨v', e1, e2⟩ := z; exact ⟨v', by rw [List.getElem?_set_ne (Ne.symm e)]; exact e1, e2.mono sm⟩
      | own ds' =>
        obtain ⟨b, ws, e1, e2, e3, e4⟩ := z
        exact ⟨b, ws, by rw [On j e]; exact e1, by rw [List.getElem?_set_ne (Ne.symm e)]; exact e2, by rw [upd_ne (na j b e1)]; exact e3, e4.mono sm⟩
      | oin b C dx fs =>
        obtain ⟨e1, e2, e3, ws, e4, e5⟩ := z
        exact ⟨by rw [On j e]; exact e1, by rw [List.getElem?_set_ne (Ne.symm e)]; exact e2, e3, ws, by rw [upd_ne (na j b e1)]; exact e4, e5.mono sm⟩
      | ow o =>
        obtain ⟨b, u, e1, e2, e3, e4⟩ := z
        exact ⟨b, u, by rw [On j e]; exact e1, by rw [List.getElem?_set_ne (Ne.symm e)]; exact e2, by rw [upd_ne (na j b e1)]; exact e3, e4.mono sm⟩
      | tk ks => obtain ⟨b, e1, e2⟩ := z; exact ⟨b, by rw [List.getElem?_set_ne (Ne.symm e)]; exact e1, sm _ _ e2⟩
theorem Rel.own_put {i : Nat} {a : Addr} {ds ds' : List D} {vs' : List V} (O : Nat → Option Addr) (h1 : ∀ i j a, O i = some a → O j = some a → i = j) (ho : OwnK H O) (h2 : Same H₀ (Off H O)) (hl : ρ.length = σ.length)
    (h3 : ∀ i sv, ρ[i]? = some (some sv) → Slot K H O σ i sv) (q : ρ[i]? = some (some (.own ds))) (z1 : O i = some a) (z2 : σ[i]? = some (some (.ref a))) (iv : IsL K (Off H O) ds' vs') : Rel K H₀ (ρ.set i (some (.own ds'))) σ (upd H a (.lst vs')) := by
  have eo : Off (upd H a (.lst vs')) O = Off H O := Off.upd z1
  refine ⟨O, h1, fun j b qj => ?_, by rw [eo]; exact h2, by rw [List.length_set, hl], fun j sv qj => ?_⟩
  · by_cases e : b = a
    · subst e; exact ⟨_, upd_same, rfl⟩
    · obtain ⟨u, w, m⟩ := ho j b qj
      exact ⟨u, by rw [upd_ne e]; exact w, m⟩
  · by_cases e : j = i
    · subst e
      have hj : j < ρ.length := (List.getElem?_eq_some_iff.mp q).1
      rw [List.getElem?_set_self hj] at qj
      have q' := Option.some.inj (Option.some.inj qj)
      subst q'
      exact ⟨a, vs', z1, z2, upd_same, by rw [eo]; exact iv⟩
    · rw [List.getElem?_set_ne (Ne.symm e)] at qj
      have z := h3 j sv qj
      cases sv with
      | sh d' => obtain ⟨v', e1, e2⟩ := z; exact ⟨v', e1, by rw [eo]; exact e2⟩
      | own es =>
        obtain ⟨b, ws, e1, e2, e3, e4⟩ := z
        have nb : b ≠ a := fun w => e (h1 j i a (by rw [← w]; exact e1) z1)
        exact ⟨b, ws, e1, e2, by rw [upd_ne nb]; exact e3, by rw [eo]; exact e4⟩
      | oin b C' dx' fs' =>
        obtain ⟨e1, e2, e3, ws, e4, e5⟩ := z
        have nb : b ≠ a := fun w => e (h1 j i a (by rw [← w]; exact e1) z1)
        exact ⟨e1, e2, e3, ws, by rw [upd_ne nb]; exact e4, by rw [eo]; exact e5⟩
      | ow o =>
        obtain ⟨b, u, e1, e2, e3, e4⟩ := z
        have nb : b ≠ a := fun w => e (h1 j i a (by rw [← w]; exact e1) z1)
        exact ⟨b, u, e1, e2, by rw [upd_ne nb]; exact e3, by rw [eo]; exact e4⟩
      | tk ks => obtain ⟨b, e1, e2⟩ := z; exact ⟨b, e1, by rw [eo]; exact e2⟩
end

section
variable {X : Cx} {B : Hp} {e e' : Expr} {es : List Expr} {fa fb : Rho → M D} {ga : Rho → M (List D)} {pos pos' p p2 apos cpos : Pos} {x : Str} {i : Nat}
/-- x = [..], a list of one's own -/
noncomputable def sNew (i : Nat) (g : Rho → M (List D)) : Rho → Option Out := fun ρ => lft (g ρ) ρ fun ds => if immL ds = true ∧ ds.length ≤ 1000 then some (.nx (ρ.set i (some (.own ds)))) else none
theorem pds_new (hN : X.N.Nodup) (hi : X.N[i]? = some x) (hx : Loc X.env.scope x) (he : PDA X B es ga) (hs : swapsWith (.List es p) (some (.Name x pos')) pos.line X.env = pure false := by rfl) (hf : X.fn x = true ∨ X.env.scope.names.lookup x = some .local := by first | exact .inl rfl | exact .inr rfl | assumption) :
    PDS X B (.Assign [.Name x pos'] (.List es p) pos) (sNew i ga) := by
  refine PS.of (ps_set hN hi hx (pe_lst he) hs hf) fun E σ H h => ?_
  obtain ⟨ρ, r, h⟩ := h
  refine ⟨ρ, r, (lft_red r h).imp fun ds h1 vs H1 e1 i1 => ?_⟩
  split at h1
  · rename_i hh
    refine ⟨by rw [← i1.length]; exact Nat.le_trans hh.2 (by decide), fun l hl => ?_⟩
    exact h1 _ _ ((r.mono e1).own_new hl hh.1 i1)
  · exact False.elim h1
/-- x.m(..), x a list of one's own -/
noncomputable def sOwn (G : List D → List D → Option (List D)) (i : Nat) (g : Rho → M (List D)) : Rho → Option Out := fun ρ => match ρ[i]? with
  | some (some (.own ds)) => lft (g ρ) ρ fun as => if immL as = true ∧ ds.length < 100000 then (match G ds as with | some ds' => some (.nx (ρ.set i (some (.own ds')))) | none => none) else none
  | _ => none
noncomputable def LMok (r : V → List V → Hp → VK → Prop) (G : List D → List D → Option (List D)) : Prop :=
  ∀ (K : PySem.W.Frag) (H0 H1 : Hp) (l : Addr) (ds as ds' : List D) (vs us : List V) (Q : VK), IsL K H0 ds vs → IsL K H0 as us → H1 l = some (.lst vs) → ds.length < 100000 → G ds as = some ds' → (∀ vs', IsL K H0 ds' vs' → Q .non (upd H1 l (.lst vs'))) → r (.ref l) us H1 Q
theorem pds_own {id : String} {name : Str} {r : V → List V → Hp → VK → Prop} {G : List D → List D → Option (List D)} (slot : PySem.Slot "list" name id) (hty : typeOf (.builtin id) = pure (.type "method_descriptor")) (hm : MtM X id r) (hr : LMok r G)
    (hN : X.N[i]? = some x) (hv : Vis X.env.scope x) (ha : PDA X B (e :: es) ga)
    (hfew : ((backTo cpos (starEach (e :: es) X.env)).all (fun x => !x.1) && (backToKw cpos (keywordEach [] X.env)).all (fun x => x.1.isSome)
      && decide ((e :: es).length + ([] : List Keyword).length + (if ([] : List Keyword).isEmpty then 0 else 1) < 30)) = true)
    (hs : starEach (e :: es) X.env = (false, eval e X.env) :: starEach es X.env) (hplain : (backTo cpos (starEach es X.env)).any (·.1) = false)
    (hline : (apos.endLine == cpos.line) = true := by rfl)
    (hsw : swapsWith (.Call (.Attribute (.Name x p) name apos) (e :: es) [] cpos) none pos.line X.env = pure false := by rfl)
    (hd : (x == ("__debug__" : Str)) = false := by decide) (hcd : (x == ("__classdict__" : Str)) = false := by decide) :
    PDS X B (.Expr (.Call (.Attribute (.Name x p) name apos) (e :: es) [] cpos) pos) (sOwn G i ga) := by
  refine PS.of (ps_expr (pe_bm PySem.F.plainAttrs_list slot hty hm (pe_var hN hv hd hcd) ha (hbase := rfl) (hfew := hfew) (hline := hline) (hs := hs) (hplain := hplain)) hsw) fun E σ H h => ?_
  obtain ⟨ρ, r1, h⟩ := h
  unfold sOwn at h
  split at h
  · rename_i ds q
    obtain ⟨O, h1, ho, h2, hl, h3⟩ := (show Rel X.K B ρ σ H from r1)
    obtain ⟨a, vs, z1, z2, z3, z4⟩ := h3 i _ q
    refine ⟨.ref a, z2, .inl ⟨rfl, _, SqL.of z3⟩, ρ, r1, (lft_red r1 h).imp fun as k1 us H1 e1 i1 => ?_⟩
    split at k1
    · rename_i hh
      split at k1
      · rename_i ds' hG
        have ho1 := ho.mono e1
        refine hr X.K (Off H1 O) H1 a ds as ds' vs us _ (z4.mono (Off.mono e1)) (offL_imm ho1 hh.1 i1) (e1 _ _ z3) hh.2 hG fun vs' i' => ?_
        exact k1 _ _ (Rel.own_put O h1 ho1 (h2.trans (Off.mono e1)) hl (fun j sv qj => (h3 j sv qj).mono e1) q z1 z2 i')
      · exact False.elim k1
    · exact False.elim k1
  · exact False.elim h
/-! append, insert -/
noncomputable def lApp (ds : List D) : List D → Option (List D)
  | [d] => some (ds ++ [d])
  | _ => none
theorem lm_app : LMok rAppend lApp := by
  intro K H0 H1 l ds as ds' vs us Q i1 i2 hl hn hG q
  unfold lApp at hG
  split at hG
  · cases hG
    cases i2 with
    | cons id1 rest =>
      cases rest
      exact ⟨l, vs, _, rfl, rfl, hl, by rw [← i1.length]; exact Nat.lt_of_lt_of_le hn (by decide), q _ (i1.append (.cons id1 .nil))⟩
  · cases hG
theorem pds_append (hN : X.N[i]? = some x) (hv : Vis X.env.scope x) (ha : PD X B e fa) (hs : nostar e = true := by rfl) (hline : (apos.endLine == cpos.line) = true := by rfl)
    (hsw : swapsWith (.Call (.Attribute (.Name x p) "append" apos) [e] [] cpos) none pos.line X.env = pure false := by rfl)
    (hd : (x == ("__debug__" : Str)) = false := by decide) (hcd : (x == ("__classdict__" : Str)) = false := by decide) :
    PDS X B (.Expr (.Call (.Attribute (.Name x p) "append" apos) [e] [] cpos) pos) (sOwn lApp i (aCons fa aNil)) :=
  pds_own PySem.F.slot_list_append PySem.F.type_list_append mt_append lm_app hN hv (pda_cons ha pda_nil (star_ok hs)) (by rw [star1 hs]; rfl) (star_ok hs) rfl hline hsw hd hcd
end

/-! ### any, all, of a list of truths -/
section
variable {X : Cx} {B : Hp} {e : Expr} {fa : Rho → M D} {pos p : Pos}
noncomputable def blL : List D → Option (List Bool)
  | [] => some []
  | .bl b :: ds => match blL ds with | some bs => some (b :: bs) | none => none
  | _ :: _ => none
noncomputable def allD : D → M D
  | .lst ds => match blL ds with | some bs => ok (.bl (bs.all id)) | none => none
  | _ => none
theorem blL_is {K : PySem.W.Frag} {H : Hp} : ∀ (ds : List D) {vs : List V} {bs : List Bool}, IsL K H ds vs → blL ds = some bs → vs = bs.map V.bl
  | [], _, _, r, h => by cases r; cases h; rfl
  | .bl b :: ds, _, _, .cons i r, h => by
    cases i
    unfold blL at h
    split at h
    · rename_i bs hb
      cases h
      rw [blL_is ds r hb]; rfl
    · cases h
  | .non :: _, _, _, _, h => nomatch h
  | .int _ :: _, _, _, _, h => nomatch h
  | .str _ :: _, _, _, _, h => nomatch h
  | .tup _ :: _, _, _, _, h => nomatch h
  | .lst _ :: _, _, _, _, h => nomatch h
  | .obj _ _ :: _, _, _, _, h => nomatch h
  | .dk _ :: _, _, _, _, h => nomatch h
  | .dt _ :: _, _, _, _, h => nomatch h
  | .exc _ :: _, _, _, _, h => nomatch h
  | .set _ :: _, _, _, _, h => nomatch h
theorem truth_at {bs : List Bool} {its : List Value} (r : Vals (bs.map V.bl) its) {i : Nat} {v : Value} (h : its.toArray[i]? = some v) : v = .bool (bs.getD i false) := by
  rw [List.getElem?_toArray] at h
  induction bs generalizing its i with
  | nil => cases r; simp at h
  | cons b bs ih =>
    cases r with
    | cons r1 r2 =>
      cases i with
      | zero => simp at h; subst h; cases r1; rfl
      | succ i => rw [List.getElem?_cons_succ] at h; exact ih r2 h
theorem range_all (bs : List Bool) : (List.range bs.length).all (fun i => bs.getD i false) = bs.all id := by
  induction bs with
  | nil => rfl
  | cons b bs ih => rw [List.length_cons, List.range_succ_eq_map, List.all_cons, List.all_map, List.all_cons, ← ih]; rfl
noncomputable def rTruths (f : List Bool → Bool) (K : PySem.W.Frag) : List V → Hp → VK → Prop := fun xs H Q => ∃ p bs, xs = [.ref p] ∧ SqL K H p (bs.map V.bl) ∧ Q (.bl (f bs)) H
theorem call_allB (hc : X.calm = true) : CallR X (.builtin "all") (rTruths (fun bs => bs.all id) X.K) := by
  intro pins s σ H xs us Q I r h
  obtain ⟨p, bs, rfl, hq, q⟩ := h
  obtain ⟨u, rfl, rx⟩ := vals1 r
  cases rx
  obtain ⟨its, r', pl, hz⟩ := I.list hq
  have hlen : its.toArray.size = bs.length := by rw [List.size_toArray, ← r'.length, List.length_map]
  have hlt : p < s.heap.objs.size := by obtain ⟨o, _, e, _⟩ := pl; exact Heap.lt_size e
  refine call_all_walk (wpAny_pyIter_list pl.isList ?_)
  refine ⟨s.heap.objs.size, _, _, _, _, _, fun i => bs.getD i false, rfl, Walks.list (by simpa using I.ok.hd hc) _ p (Nat.ne_of_lt hlt) its.toArray, ⟨⟨_, Heap.get?_push_size _ rfl, rfl, rfl⟩, pl.isList.push _⟩, fun i v s Q E hP hQ => ?_, fun h' tk hk => ?_⟩
  · rw [truth_at r' hP]; exact wpAny_truthy_bool hQ
  · rw [hlen, range_all]
    exact ⟨.bl _, H, I.kept (t' := tk) fun b ob e => hk b ob (by simp; exact Nat.ne_of_lt (Heap.lt_size e)) (Heap.get?_push_of_some _ e), rfl, q⟩
theorem boot_all : bootBuiltins "all" = some (.builtin "all") := by decide +kernel
theorem pd_all (hc : X.calm = true) (hg : Gl X "all") (hm : X.mg "all" = none) (ha : PD X B e fa) (hs : nostar e = true := by rfl) : PD X B (.Call (.Name "all" p) [e] [] pos) (f1 allD fa) := by
  refine PE.of (pe_callB (call_allB hc) hg hm boot_all (pa_cons ha pa_nil (star_ok hs)) (he := star_ok hs) (hpl := by rfl)) fun σ H Q h => ?_
  obtain ⟨ρ, r1, h⟩ := h
  refine ⟨ρ, r1, (Res.bind h).imp fun d q1 v H1 e1 i1 => ?_⟩
  cases i1 with
  | lst hh rr =>
    dsimp only [allD] at q1
    split at q1
    · rename_i bs hb
      exact ⟨_, bs, rfl, by rw [← blL_is _ rr hb]; exact hh, q1 _ H1 e1 (.bl _)⟩
    · exact False.elim q1
  | _ => exact False.elim q1
end
end L2.PU

namespace L2.PU
open PySem PySem.Spec PyProof.Rows

/-! ### f".. {x!r} .." of texts -/
section
variable {X : Cx} {B : Hp} {e : Expr} {es : List Expr} {fa : Rho → M D} {pos p : Pos}
end
end L2.PU

namespace L2.PU
open PySem PySem.Spec PyProof.Rows

/-! ### set(x), len(s), s != t: sets of texts -/
section
variable {X : Cx} {B : Hp} {e a b : Expr} {fa fb : Rho → M D} {pos p p2 pos2 : Pos}
noncomputable def strL : List D → Option (List Str)
  | [] => some []
  | .str x :: ds => match strL ds with | some xs => some (x :: xs) | none => none
  | _ :: _ => none
theorem strL_map (xs : List Str) : strL (xs.map D.str) = some xs := by
  induction xs with
  | nil => rfl
  | cons x r ih => rw [List.map_cons]; unfold strL; rw [ih]
theorem strL_eq : ∀ (ds : List D) {xs : List Str}, strL ds = some xs → ds = xs.map D.str
  | [], _, h => by cases h; rfl
  | .str x :: ds, _, h => by
    unfold strL at h
    split at h
    · rename_i xs hx
      cases h
      rw [strL_eq ds hx]; rfl
    · cases h
  | .non :: _, _, h => nomatch h
  | .bl _ :: _, _, h => nomatch h
  | .int _ :: _, _, h => nomatch h
  | .tup _ :: _, _, h => nomatch h
  | .lst _ :: _, _, h => nomatch h
  | .obj _ _ :: _, _, h => nomatch h
  | .dk _ :: _, _, h => nomatch h
  | .dt _ :: _, _, h => nomatch h
  | .exc _ :: _, _, h => nomatch h
  | .set _ :: _, _, h => nomatch h
end
end L2.PU

namespace L2.PU
open PySem PySem.Spec PyProof.Rows

/-! ### t.index(x): texts -/
section
variable {X : Cx} {B : Hp} {e a b : Expr} {fa fb : Rho → M D} {pos p apos cpos : Pos}
end

/-! ### t == (), a tuple and the empty one -/
section
variable {X : Cx} {B : Hp} {e a b : Expr} {fa fb : Rho → M D} {pos : Pos}
end
end L2.PU

namespace L2.PU
open PySem PySem.Spec PyProof.Rows

/-! ### sorted(a set of texts) -/
section
variable {X : Cx} {B : Hp} {e a b : Expr} {fa fb : Rho → M D} {pos p p2 pos2 : Pos}
theorem inv_drew {pins : List (Addr × Obj)} {σ : List (Option V)} {H : Hp} {s : Shared} (I : Inv X pins σ H s) (d : Drawn) : Inv X pins σ H { s with drawn := d } := ⟨I.ok, I.os, I.bare, I.base, I.loc, I.cell, I.free, I.freeC, I.pin, I.hok, I.len⟩
theorem strsD {K : PySem.W.Frag} {H : Hp} : ∀ {vs : List Value} {xs : List Str}, StrsAre vs xs → Vals (xs.map V.str) vs ∧ IsL K H (xs.map D.str) (xs.map V.str)
  | _, _, .nil => ⟨.nil, .nil⟩
  | _, _, .cons y t r => ⟨.cons ⟨t, rfl⟩ (strsD (K := K) (H := H) r).1, .cons (.str y) (strsD r).2⟩
theorem boot_sorted : bootBuiltins "sorted" = some (.builtin "sorted") := by decide +kernel
theorem isl_str {K : PySem.W.Frag} {H : Hp} : ∀ (xs : List Str), IsL K H (xs.map D.str) (xs.map V.str)
  | [] => .nil
  | x :: xs => .cons (.str x) (isl_str xs)
end
end L2.PU

namespace L2.PU
open PySem PySem.Spec PyProof.Rows

/-! ### x.extend(y), x a list of one's own, y a list -/
section
variable {X : Cx} {B : Hp} {e e' : Expr} {es : List Expr} {fa fb : Rho → M D} {ga : Rho → M (List D)} {pos pos' p p2 apos cpos : Pos} {x : Str} {i : Nat}
end
end L2.PU

namespace L2.PU
open PySem PySem.Spec PyProof.Rows
noncomputable def viaD (n : Nat) (f : List D → M D) : List D → M D := fun ds => if ds.length = n then (match f ds with | some (.ok d) => some (.ok d) | _ => none) else none
theorem viaD_len {n : Nat} {f : List D → M D} : ∀ ds r, viaD n f ds = some r → ds.length = n := fun ds r h => by
  unfold viaD at h
  split at h
  · assumption
  · cases h
theorem viaD_q {n : Nat} {f : List D → M D} : ∀ ds r, viaD n f ds = some r → ∃ d, r = .ok d ∧ f ds = ok d := fun ds r h => by
  unfold viaD at h
  split at h
  · split at h
    · rename_i d hd
      cases h
      exact ⟨d, rfl, hd⟩
    · cases h
  · cases h
theorem viaD_of {n : Nat} {f : List D → M D} {ds : List D} {d : D} (hl : ds.length = n) (h : f ds = ok d) : viaD n f ds = ok d := by unfold viaD; rw [if_pos hl, h]; rfl
/-! ### tuples of texts -/
noncomputable abbrev tS (xs : List Str) : D := .tup (xs.map D.str)
theorem immL_strs (xs : List Str) : immL (xs.map D.str) = true := by
  induction xs with
  | nil => rfl
  | cons x r ih => rw [List.map_cons, immL, ih]; rfl
theorem imm_tS (xs : List Str) : (tS xs).imm = true := immL_strs xs
theorem orB_ok {f g : Rho → M Bool} {ρ : Rho} {a b : Bool} (h1 : f ρ = ok a) (h2 : g ρ = ok b) : orB f g ρ = ok (a || b) := by
  unfold orB
  rw [h1, bnd_ok]
  cases a
  · rw [if_neg (by decide), h2]; rfl
  · rfl
/-! ### messages -/
theorem len_app (a b : Str) : (a ++ b).length = a.length + b.length := PySem.strLen_append a b
theorem cut_from (ds : List D) {j : Nat} (h : j ≤ ds.length) : cutD ds (some (j : Int)) none = ds.drop j := by
  unfold cutD
  rw [HT.sIx_none, HT.sIx_nat, Nat.min_eq_left h]
  exact List.take_of_length_le (by rw [List.length_drop]; exact Nat.le_refl _)
/-! ### the drawn names -/
noncomputable abbrev L (s : Str) : List Nat := s.cps.toList
theorem len_L (s : Str) : s.length = (L s).length := by simp [Str.length]
theorem cut_len (z : Str) (lo hi : Option Int) : (strCut z lo hi).length ≤ z.length := by
  rw [len_L, len_L]
  have e : L (strCut z lo hi) = (z.cps.toList.drop (HT.sIx z.length 0 lo)).take (HT.sIx z.length z.length hi - HT.sIx z.length 0 lo) := by simp [strCut]
  rw [e, List.length_take, List.length_drop]
  show _ ≤ z.cps.toList.length
  omega
noncomputable def chs : Str := "aXq 0~zB-c!_dEf.gH1i(jK"
theorem chs_len : (L chs).length = 23 := by decide +kernel
noncomputable def chr (i : Nat) : Str := ⟨#[(L chs).getD i 0]⟩
noncomputable def nam (st k : Int) : Str :=
  if st / 23 % 3 = 1 then strCut "zz" none (some (st % 3)) ++ repS "a" ((5 * k + st) % 23).toNat
  else strCut "zyzy" none (some (st / 69 % 4)) ++ chr ((5 * k + st) % 23).toNat ++ strCut "yzzy" none (some (st / 276 % 4))
theorem chr_at {i : Nat} (h : i < 23) : (L chs)[i]? = some ((L chs).getD i 0) := by
  have h' : i < (L chs).length := by rw [chs_len]; exact h
  rw [List.getD_eq_getElem?_getD, List.getElem?_eq_getElem h']
  rfl
theorem mulB_int {i j : Int} (h1 : 0 ≤ i) (h2 : i < 1000000000000000000000000000000) (h3 : 0 ≤ j) (h4 : j < 1000000000000000000000000000000) : mulB i j = true := by
  have q : ∀ z : Int, 0 ≤ z → z < 1000000000000000000000000000000 → z.natAbs < 2 ^ 1048576 := fun z a b => pow_line (m := 100) (by omega) (by decide)
  exact mulB_of (q i h1 h2) (q j h3 h4)
noncomputable def mix (c : Int) : Int := (c % 1000000000 + 1) * 2862933555777941757 % 1000000000000000000000007
theorem p9 : (10 : Int) ^ (9 : Int).toNat = 1000000000 := by decide
theorem p24 : (10 : Int) ^ (24 : Int).toNat = 1000000000000000000000000 := by decide
noncomputable def denMix : Rho → Option Out :=
    (sSeq (sRet (b2 gMod (b2 gTimes (b2 gPlus (b2 gMod (look 0) (b2 gPow (con (.int 10)) (con (.int 9)))) (con (.int 1))) (con (.int 2862933555777941757))) (b2 gPlus (b2 gPow (con (.int 10)) (con (.int 24))) (con (.int 7)))))
    sNil)
theorem mix_sp (c : Int) : fnRes (denMix [some (.sh (.int c))]) = ok (.int (mix c)) := by
  have hm : mulB (c % 1000000000 + 1) 2862933555777941757 = true := mulB_int (by omega) (by omega) (by omega) (by omega)
  simp [denMix, sSeq, sRet, b2, look, con, bnd, ok, lft, gMod, gPlus, gTimes, gMul, gPow, p9, p24, fnRes, SV.cur, hm, mix]
noncomputable def denName : Rho → Option Out :=
    (sSeq (sSet 2 (b2 gMod (b2 gPlus (b2 gTimes (con (.int 5)) (look 1)) (look 0)) (con (.int 23))))
    (sSeq (sIf (testB (b2 gEq (b2 gMod (b2 gFdiv (look 0) (con (.int 23))) (con (.int 3))) (con (.int 1)))) (sSeq (sRet (b2 gPlus (cut3 (con (.str "zz")) oNone (oPart (b2 gMod (look 0) (con (.int 3))))) (b2 gTimes (con (.str "a")) (look 2))))
    sNil) sNil)
    (sSeq (sRet (b2 gPlus (b2 gPlus (cut3 (con (.str "zyzy")) oNone (oPart (b2 gMod (b2 gFdiv (look 0) (con (.int 69))) (con (.int 4))))) (b2 gIx (con (.str "aXq 0~zB-c!_dEf.gH1i(jK")) (look 2))) (cut3 (con (.str "yzzy")) oNone (oPart (b2 gMod (b2 gFdiv (look 0) (con (.int 276))) (con (.int 4)))))))
    sNil)))
theorem name_sp {st k : Int} (h1 : 0 ≤ st) (h2 : st < 2000) (h3 : 0 ≤ k) (h4 : k < 1000) : fnRes (denName [some (.sh (.int st)), some (.sh (.int k)), none]) = ok (.str (nam st k)) := by
  have hm : mulB 5 k = true := mulB_int (by omega) (by omega) (by omega) (by omega)
  have a1 : 0 ≤ (5 * k + st) % 23 ∧ (5 * k + st) % 23 < 23 := by omega
  have s1 : sSet 2 (b2 gMod (b2 gPlus (b2 gTimes (con (.int 5)) (look 1)) (look 0)) (con (.int 23))) [some (.sh (.int st)), some (.sh (.int k)), none] = some (.nx [some (.sh (.int st)), some (.sh (.int k)), some (.sh (.int ((5 * k + st) % 23)))]) := by
    simp [sSet, b2, look, con, bnd, ok, lft, gMod, gPlus, gTimes, gMul, SV.cur, hm, setV, D.imm]
  have l1 : (("zz" : Str)).length = 2 := by decide +kernel
  have l2 : (("zyzy" : Str)).length = 4 := by decide +kernel
  have l3 : (("yzzy" : Str)).length = 4 := by decide +kernel
  have l4 : (("a" : Str)).length = 1 := by decide +kernel
  have l5 : chs.length = 23 := by decide +kernel
  have d2 : b2 gEq (b2 gMod (b2 gFdiv (look 0) (con (.int 23))) (con (.int 3))) (con (.int 1)) [some (.sh (.int st)), some (.sh (.int k)), some (.sh (.int ((5 * k + st) % 23)))] = ok (.bl (decide (st / 23 % 3 = 1))) := by
    simp [b2, look, con, bnd, ok, gMod, gFdiv, gEq, eqF, SV.cur]
  have cut : ∀ (z : Str) (f : Rho → M D) (i : Int) (ρ : Rho), z.length ≤ 1000 → f ρ = ok (.int i) → cut3 (con (.str z)) oNone (oPart f) ρ = ok (.str (strCut z none (some i))) := fun z f i ρ hz hf => by
    unfold cut3 oPart oNone con
    rw [hf]
    simp only [bnd_ok]
    show (if z.length ≤ 1000 then ok (D.str (strCut z none (some i))) else none) = _
    rw [if_pos hz]
  have plus : ∀ (f g : Rho → M D) (x y : Str) (ρ : Rho), x.length ≤ 1000 → y.length ≤ 1000 → f ρ = ok (.str x) → g ρ = ok (.str y) → b2 gPlus f g ρ = ok (.str (x ++ y)) := fun f g x y ρ hx hy hf hg => by
    refine b2_ok hf hg ?_
    show (if x.length + y.length ≤ 100000 then ok (D.str (x ++ y)) else none) = _
    rw [if_pos (by omega)]
  have md : ∀ (d : Int), 0 < d → b2 gMod (look 0) (con (.int d)) [some (.sh (.int st)), some (.sh (.int k)), some (.sh (.int ((5 * k + st) % 23)))] = ok (.int (st % d)) := fun d hd => by
    simp [b2, look, con, bnd, ok, gMod, SV.cur, hd]
  have mf : ∀ (d e : Int), 0 < d → 0 < e → d < 1000 → b2 gMod (b2 gFdiv (look 0) (con (.int d))) (con (.int e)) [some (.sh (.int st)), some (.sh (.int k)), some (.sh (.int ((5 * k + st) % 23)))] = ok (.int (st / d % e)) := fun d e hd he hd2 => by
    have hd3 : d < 1073741824 := by omega
    simp [b2, look, con, bnd, ok, gMod, gFdiv, SV.cur, hd, he, hd3]
  unfold denName
  rw [sSeq_nx s1]
  by_cases hb : st / 23 % 3 = 1
  · rw [decide_eq_true hb] at d2
    have t2 : b2 gTimes (con (.str "a")) (look 2) [some (.sh (.int st)), some (.sh (.int k)), some (.sh (.int ((5 * k + st) % 23)))] = ok (.str (repS "a" ((5 * k + st) % 23).toNat)) := by
      refine b2_ok (x := .str "a") (y := .int ((5 * k + st) % 23)) rfl rfl ?_
      show (if 0 ≤ (5 * k + st) % 23 ∧ (("a" : Str)).length ≤ 1000 ∧ (5 * k + st) % 23 ≤ 1000 then ok (D.str (repS "a" ((5 * k + st) % 23).toNat)) else none) = _
      rw [if_pos ⟨a1.1, by rw [l4]; decide, by omega⟩]
    have c1 := cut "zz" (b2 gMod (look 0) (con (.int 3))) _ _ (by rw [l1]; decide) (md 3 (by decide))
    have p1 := plus _ _ _ _ _ (by have := cut_len "zz" none (some (st % 3)); omega) (by rw [rep_len, l4]; omega) c1 t2
    rw [sSeq_rt ((sIf_t (testB_ok d2)).trans (sSeq_rt (sRet_ok p1)))]
    unfold nam
    rw [if_pos hb]
    rfl
  · rw [decide_eq_false hb] at d2
    rw [sSeq_nx ((sIf_f (testB_ok d2)).trans rfl)]
    have c1 := cut "zyzy" (b2 gMod (b2 gFdiv (look 0) (con (.int 69))) (con (.int 4))) _ _ (by rw [l2]; decide) (mf 69 4 (by decide) (by decide) (by decide))
    have c2 := cut "yzzy" (b2 gMod (b2 gFdiv (look 0) (con (.int 276))) (con (.int 4))) _ _ (by rw [l3]; decide) (mf 276 4 (by decide) (by decide) (by decide))
    have i1 : b2 gIx (con (.str "aXq 0~zB-c!_dEf.gH1i(jK")) (look 2) [some (.sh (.int st)), some (.sh (.int k)), some (.sh (.int ((5 * k + st) % 23)))] = ok (.str (chr ((5 * k + st) % 23).toNat)) := by
      refine b2_ok (x := .str chs) (y := .int ((5 * k + st) % 23)) rfl rfl ?_
      show (if chs.length ≤ 1000 then (match atI (L chs) ((5 * k + st) % 23) with | some c => ok (D.str ⟨#[c]⟩) | none => none) else none) = _
      have ea : atI (L chs) ((5 * k + st) % 23) = some ((L chs).getD ((5 * k + st) % 23).toNat 0) := by
        have e : (5 * k + st) % 23 = (((5 * k + st) % 23).toNat : Int) := by omega
        rw [e, Int.toNat_natCast]
        exact atI_nat (chr_at (by omega))
      rw [if_pos (by rw [l5]; decide), ea]
      rfl
    have p1 := plus _ _ _ _ _ (by have := cut_len "zyzy" none (some (st / 69 % 4)); omega) (show (chr ((5 * k + st) % 23).toNat).length ≤ 1000 from (show 1 ≤ 1000 by decide)) c1 i1
    have p2 := plus _ _ _ _ _ (by rw [len_app]; have := cut_len "zyzy" none (some (st / 69 % 4)); have e : (chr ((5 * k + st) % 23).toNat).length = 1 := rfl; omega) (by have := cut_len "yzzy" none (some (st / 276 % 4)); omega) p1 c2
    rw [sSeq_rt (sRet_ok p2)]
    unfold nam
    rw [if_neg hb]
    rfl
noncomputable def fMix : List D → M D
  | [.int c] => ok (.int (mix c))
  | _ => none
noncomputable def fName : List D → M D
  | [.int st, .int k] => if 0 ≤ st ∧ st < 2000 ∧ 0 ≤ k ∧ k < 1000 then ok (.str (nam st k)) else none
  | _ => none
theorem fName_len : ∀ ds r, fName ds = some r → ds.length = 2 := by
  intro ds r h
  unfold fName at h
  split at h
  · rfl
  · cases h
theorem name_den (N : List Str) (hN : N.length = 3) : ∀ ds r, fName ds = some r → ∃ d, r = .ok d ∧ fnRes (denName (rho0 N ds)) = ok d := by
  intro ds r h
  unfold fName at h
  split at h
  · rename_i st k
    split at h
    · rename_i q
      cases h
      refine ⟨_, rfl, ?_⟩
      have e0 : rho0 N [.int st, .int k] = [some (.sh (.int st)), some (.sh (.int k)), none] := by unfold rho0; rw [hN]; rfl
      rw [e0]
      exact name_sp q.1 q.2.1 q.2.2.1 q.2.2.2
    · cases h
  · cases h
theorem fName_ok {st k : Int} (h : 0 ≤ st ∧ st < 2000 ∧ 0 ≤ k ∧ k < 1000) : fName [.int st, .int k] = ok (.str (nam st k)) := if_pos h
theorem pl_tS : ∀ (xs : List Str), xs.length ≤ 1000 → (tS xs).pl = true := fun xs h => by
  have g : ∀ ys : List Str, plL (ys.map D.str) = true := by
    intro ys
    induction ys with
    | nil => rfl
    | cons y r ih => rw [List.map_cons, plL, ih]; rfl
  show (decide ((xs.map D.str).length ≤ 100000) && plL (xs.map D.str)) = true
  rw [g, List.length_map, decide_eq_true (by omega)]
  rfl
theorem dep_tS (xs : List Str) : (tS xs).dep ≤ 1 := by
  have g : ∀ ys : List Str, depL (ys.map D.str) = 0 := by
    intro ys
    induction ys with
    | nil => rfl
    | cons y r ih => rw [List.map_cons, depL, ih]; rfl
  show depL (xs.map D.str) + 1 ≤ 1
  rw [g]
  exact Nat.le_refl _
theorem at_app {ns : List Int} {rest : Rho} (k : Nat) : app fAt (aCons (look 0) (aCons (con (.int (k : Int))) aNil)) (some (.sh (.lst (ns.map D.int))) :: rest) = ok (.int (atZ ns k)) := by
  rw [app_ok (aCons_ok (d := .lst (ns.map D.int)) rfl (aCons_ok (d := .int (k : Int)) rfl aNil_ok))]
  exact fAt_ints ns k
theorem mod_ok {f g : Rho → M D} {ρ : Rho} {i j : Int} (h1 : f ρ = ok (.int i)) (h2 : g ρ = ok (.int j)) (hj : 0 < j) : b2 gMod f g ρ = ok (.int (i % j)) := by
  refine b2_ok h1 h2 ?_
  show (if 0 < j then ok (D.int (i % j)) else none) = _
  rw [if_pos hj]
theorem fdiv_ok {f g : Rho → M D} {ρ : Rho} {i j : Int} (h1 : f ρ = ok (.int i)) (h2 : g ρ = ok (.int j)) (hj : 0 < j) (hj2 : j < 1073741824) : b2 gFdiv f g ρ = ok (.int (i / j)) := by
  refine b2_ok h1 h2 ?_
  simp [gFdiv, hj, hj2]
theorem add_ok {f g : Rho → M D} {ρ : Rho} {i j : Int} (h1 : f ρ = ok (.int i)) (h2 : g ρ = ok (.int j)) : b2 gPlus f g ρ = ok (.int (i + j)) := b2_ok h1 h2 rfl
theorem eqi_ok {f g : Rho → M D} {ρ : Rho} {i j : Int} (h1 : f ρ = ok (.int i)) (h2 : g ρ = ok (.int j)) : b2 gEq f g ρ = ok (.bl (decide (i = j))) := b2_ok h1 h2 rfl
theorem sSet_imm {i : Nat} {f : Rho → M D} {ρ : Rho} {d : D} (h : f ρ = ok d) (hd : d.imm = true) : sSet i f ρ = some (.nx (ρ.set i (some (.sh d)))) := by rw [sSet_ok h, setV_imm hd]
theorem sSet_any {i : Nat} {f : Rho → M D} {ρ : Rho} {d : D} (h : f ρ = ok d) (hf : free ρ = ρ) : sSet i f ρ = some (.nx (ρ.set i (some (.sh d)))) := by
  rw [sSet_ok h]
  unfold setV
  split
  · rfl
  · rw [hf]
end L2.PU

namespace L2.PU
open PySem PySem.Spec PyProof.Rows
/-! ### comprehensions over a range; drawn names -/
theorem cmpL_nats {k : Nat} {fe : Rho → M D} {ρ : Rho} {g : Nat → D} : ∀ (l : List Nat), (∀ j ∈ l, fe (ρ.set k (some (.sh (.int (j : Int))))) = ok (g j) ∧ (g j).imm = true) →
    cmpL [k] h1 (fun _ => ok true) fe (l.map fun (j : Nat) => D.int (0 + (j : Int))) ρ = ok (l.map g)
  | [], _ => rfl
  | x :: l, h => by
    have ih := cmpL_nats (g := g) l (fun y hy => h y (List.mem_cons_of_mem _ hy))
    obtain ⟨e1, e2⟩ := h x List.mem_cons_self
    rw [List.map_cons]
    unfold cmpL
    show (match fe (ρ.set k (some (.sh (.int (0 + (x : Int)))))) with
        | some (.ok r) => if r.imm = true then bnd (cmpL [k] h1 (fun _ => ok true) fe (l.map fun (j : Nat) => D.int (0 + (j : Int))) ρ) fun rs => ok (r :: rs) else none
        | _ => none) = _
    rw [Int.zero_add, e1, ih]
    show (if (g x).imm = true then bnd (ok (l.map g)) fun rs => ok (g x :: rs) else none) = _
    rw [if_pos e2]
    rfl
theorem cmp_rng {m k n : Nat} {f : Rho → M D} {fe : Rho → M D} {ρ : Rho} {g : Nat → D} (hf : f ρ = ok (.int (n : Int))) (hn : n ≤ 1000000) (h : ∀ j, j < n → fe ((ext m (free ρ)).set k (some (.sh (.int (j : Int))))) = ok (g j) ∧ (g j).imm = true) :
    cmp m (itR f) [k] h1 (fun _ => ok true) fe ρ = ok (.lst ((List.range n).map g)) := by
  have e : itR f ρ = ok (rng 0 n) := by
    unfold itR
    rw [hf]
    rw [bnd_ok]
    simp only [rngD]
    rw [if_pos ⟨by omega, by omega⟩, Int.toNat_natCast]
  unfold cmp
  rw [e, bnd_ok, if_pos (by unfold rng; rw [List.length_map, List.length_range]; exact hn)]
  unfold rng
  rw [cmpL_nats (List.range n) (fun j hj => h j (List.mem_range.mp hj))]
  rfl
noncomputable def nms (n : Nat) (st : Int) : List Str := (List.range n).map fun (j : Nat) => nam st (j : Int)
theorem nms_len (n : Nat) (st : Int) : (nms n st).length = n := by unfold nms; rw [List.length_map, List.length_range]
/-- a comprehension of drawn names -/
theorem names_ok {m k n : Nat} {f fs : Rho → M D} {ρ : Rho} {st : Int} (hf : f ρ = ok (.int (n : Int))) (hn : n ≤ 1000) (hst : 0 ≤ st ∧ st < 2000) (hs : ∀ v, fs ((ext m (free ρ)).set k v) = ok (.int st)) (hk : k < (ext m (free ρ)).length) :
    cmp m (itR f) [k] h1 (fun _ => ok true) (app fName (aCons fs (aCons (look k) aNil))) ρ = ok (.lst ((nms n st).map D.str)) := by
  rw [cmp_rng (g := fun j => .str (nam st (j : Int))) hf (by omega) (fun j hj => ⟨?_, rfl⟩)]
  · unfold nms
    rw [List.map_map]
    rfl
  · have lk : look k ((ext m (free ρ)).set k (some (.sh (.int (j : Int))))) = ok (.int (j : Int)) := by
      unfold look
      rw [List.getElem?_set_self hk]
      rfl
    rw [app_ok (aCons_ok (hs _) (aCons_ok lk aNil_ok))]
    exact fName_ok ⟨hst.1, hst.2, by omega, by omega⟩
theorem blL_map {α : Type} (f : α → Bool) : ∀ (l : List α), blL (l.map fun c => D.bl (f c)) = some (l.map f)
  | [] => rfl
  | x :: l => by rw [List.map_cons, blL, blL_map f l]; rfl
end L2.PU

namespace L2.PU
open PySem PySem.Spec PyProof.Rows
/-! ### a table laid anew has room: the leaps come past each place -/
noncomputable def git (m : Nat) : Nat → Nat → Nat
  | 0, i => i
  | t + 1, i => git m t ((i * 5 + 1) % m)
theorem git_add (m : Nat) : ∀ (a b i : Nat), git m (a + b) i = git m b (git m a i)
  | 0, b, i => by rw [Nat.zero_add]; rfl
  | a + 1, b, i => by rw [Nat.add_right_comm]; exact git_add m a b _
noncomputable def orb (m : Nat) : Nat → Nat → List Nat
  | 0, _ => []
  | t + 1, i => i :: orb m t ((i * 5 + 1) % m)
theorem orb_mem (m : Nat) : ∀ (n i j : Nat), j ∈ orb m n i → ∃ a, a < n ∧ git m a i = j
  | 0, i, j, h => by cases h
  | n + 1, i, j, h => by
    rcases List.mem_cons.mp h with rfl | h
    · exact ⟨0, Nat.succ_pos n, rfl⟩
    · obtain ⟨a, h1, h2⟩ := orb_mem m n _ j h
      exact ⟨a + 1, Nat.succ_lt_succ h1, h2⟩
/-- the sizes that tables have here -/
noncomputable def Pw (m : Nat) : Prop := m = 8 ∨ m = 16 ∨ m = 32 ∨ m = 64 ∨ m = 128
theorem orb_all {m : Nat} (h : Pw m) : (∀ i, i < m → i ∈ orb m m 0) ∧ git m m 0 = 0 := by
  have g : ∀ m, (List.range m).all (fun i => (orb m m 0).contains i) = true → ∀ i, i < m → i ∈ orb m m 0 := fun m h i hi => by
    rw [List.all_eq_true] at h
    exact List.contains_iff_mem.mp (h i (List.mem_range.mpr hi))
  rcases h with rfl | rfl | rfl | rfl | rfl
  · exact ⟨g 8 (by decide +kernel), by decide +kernel⟩
  · exact ⟨g 16 (by decide +kernel), by decide +kernel⟩
  · exact ⟨g 32 (by decide +kernel), by decide +kernel⟩
  · exact ⟨g 64 (by decide +kernel), by decide +kernel⟩
  · exact ⟨g 128 (by decide +kernel), by decide +kernel⟩
theorem reach {m i j : Nat} (h : Pw m) (hi : i < m) (hj : j < m) : ∃ t, t < m ∧ git m t i = j := by
  obtain ⟨h1, h2⟩ := orb_all h
  obtain ⟨a, ha, ea⟩ := orb_mem m m 0 i (h1 i hi)
  obtain ⟨b, hb, eb⟩ := orb_mem m m 0 j (h1 j hj)
  by_cases q : a ≤ b
  · refine ⟨b - a, by omega, ?_⟩
    rw [← ea, ← git_add, Nat.add_sub_cancel' q]
    exact eb
  · refine ⟨m - a + b, by omega, ?_⟩
    rw [← ea, ← git_add, ← Nat.add_assoc, Nat.add_sub_cancel' (by omega), git_add, h2]
    exact eb
theorem above {n : Nat} (h : n < 128) : Pw (SetTable.sizeAbove n) ∧ n < SetTable.sizeAbove n := by
  have g : (List.range 128).all (fun n => decide ((SetTable.sizeAbove n = 8 ∨ SetTable.sizeAbove n = 16 ∨ SetTable.sizeAbove n = 32 ∨ SetTable.sizeAbove n = 64 ∨ SetTable.sizeAbove n = 128) ∧ n < SetTable.sizeAbove n)) = true := by decide +kernel
  rw [List.all_eq_true] at g
  have := g n (List.mem_range.mpr h)
  rw [decide_eq_true_eq] at this
  exact this
theorem Pw.pos {m : Nat} (h : Pw m) : 0 < m ∧ m ≤ 128 ∧ 8 ≤ m := by rcases h with rfl | rfl | rfl | rfl | rfl <;> decide
end L2.PU

namespace L2.PU
open PySem PySem.Spec PyProof.Rows
section
variable {prog : Program} {w : World} {A : Around} {E : Value → Shared → Prop} {s : Shared}
end
end L2.PU

namespace L2.PU
open PySem PySem.Spec PyProof.Rows
section
variable {prog : Program} {w : World} {A : Around} {E : Value → Shared → Prop} {s : Shared}
end
end L2.PU

namespace L2.PU
open PySem PySem.Spec PyProof.Rows
section
variable {prog : Program} {w : World} {A : Around} {E : Value → Shared → Prop} {s : Shared}
end
end L2.PU

namespace L2.PU
open PySem PySem.Spec PyProof.Rows
section
variable {prog : Program} {w : World} {A : Around} {E : Value → Shared → Prop} {s : Shared}
end
end L2.PU

namespace L2.PU
open PySem PySem.Spec PyProof.Rows
/-! ### a | b, a & b, a - b of sets of texts -/
section
variable {X : Cx} {B : Hp} {e a b : Expr} {fa fb : Rho → M D} {pos p p2 pos2 : Pos}
end
end L2.PU

namespace L2.PU
open PySem PySem.Spec PyProof.Rows
/-! ### sorted(a list or a tuple of texts) -/
section
variable {prog : Program} {w : World} {A : Around} {E : Value → Shared → Prop} {s : Shared}
theorem collect_seq {l : Addr} {vs : List Value} {T : String} {o : Obj} {nn : Nat} {Q : List Value → Shared → Prop} (hT : T = "list" ∨ T = "tuple") (ho : s.heap.get? l = some o) (hc : o.cls = .type T) (hd : o.data = .seq vs.toArray nn) (hz : vs.length ≤ 100000)
    (h : Q vs { s with heap := (s.heap.push (seqObj "list" #[] 0)).update s.heap.objs.size (Obj.mapSeq (· ++ vs.toArray)) }) : wpAny (model prog w) A (collect (.ref l)) Q E s := by
  have hs : sizeLine = 16777216 := sizeLine_eq
  unfold collect
  refine wpAny_bind (wpAny_runValue (codeAny_builtin entry_proto_collect' ?_))
  refine wpAny_bind (wpAny_newList (wpAny_pure ⟨Code.quiet_builtin _ (by decide +kernel), codeAny_builtin entry_list_iadd' ?_⟩))
  have ho' : (s.heap.push (seqObj "list" #[] 0)).get? l = some o := Heap.get?_push_of_some _ ho
  show wpAny _ _ (Builtin.List.listExtendWith (.ref s.heap.objs.size) (.ref l) (.ref s.heap.objs.size)) _ _ _
  unfold Builtin.List.listExtendWith
  refine wpAny_bind (wpAny_typeOf (T := T) ⟨o, ho', hc⟩ ?_)
  have ht : (Value.type T == Value.type "list" || Value.type T == Value.type "tuple") = true := by rcases hT with rfl | rfl <;> rfl
  rw [if_pos (by rw [Bool.or_assoc, ht, Bool.or_true])]
  refine wpAny_bind (listItems_at ho' hd ?_)
  have hnew : (s.heap.push (seqObj "list" #[] 0)).get? s.heap.objs.size = some (seqObj "list" #[] 0) := Heap.get?_push_size _ rfl
  refine wpAny_bind (listItems_at (xs := #[]) (n := 0) hnew rfl ?_)
  rw [if_neg (by simp)]
  have hz2 : (#[] ++ vs.toArray : Array Value).size ≤ sizeLine + 1 := by rw [Array.size_append, List.size_toArray]; simp; omega
  refine wpAny_bind (listUpdate_at (xs := #[]) (n := 0) hnew rfl (wpAny_pure ?_) (Nat.zero_le _) hz2)
  refine wpAny_bind (wpAny_load (get?_update_seq hnew _) ?_)
  have e : ((#[] : Array Value) ++ vs.toArray).toList = vs := by simp
  show wpAny _ _ (pure ((#[] : Array Value) ++ vs.toArray).toList) Q E _
  rw [e]
  exact wpAny_pure h
end
section
variable {X : Cx} {B : Hp} {e a b : Expr} {fa fb : Rho → M D} {pos p p2 pos2 : Pos}
theorem strs_are {K : PySem.W.Frag} {H : Hp} : ∀ {xs : List Str} {vs : List V} {its : List Value}, IsL K H (xs.map D.str) vs → Vals vs its → StrsAre its xs
  | [], _, _, .nil, r => by cases r; exact .nil
  | x :: xs, _, _, .cons h q, r => by
    cases h
    cases r with
    | cons r1 r2 =>
      obtain ⟨t, rfl⟩ := r1
      exact .cons x t (strs_are q r2)
noncomputable def srtL : D → M D
  | .lst ds => match strL ds with | some xs => if xs.length < 64 then ok (.lst ((srtS xs).map .str)) else none | none => none
  | .tup ds => match strL ds with | some xs => if xs.length < 64 then ok (.lst ((srtS xs).map .str)) else none | none => none
  | _ => none
theorem call_sortedL (hc : X.calm = true) : CallR X (.builtin "sorted") (fun xs H Q => ∃ p ys ss, xs = [.ref p] ∧ (SqL X.K H p ys ∨ SqT X.K H p ys) ∧ IsL X.K H ((ss : List Str).map D.str) ys ∧ ss.length < 64 ∧ ∀ l, H l = none → Q (.ref l) (upd H l (.lst ((srtS ss).map V.str)))) := by
  intro pins s σ H xs us Q I r h
  obtain ⟨p, ys, ss, rfl, hp, hi, h64, q⟩ := h
  obtain ⟨u, rfl, rx⟩ := vals1 r
  cases rx
  have hs : sizeLine = 16777216 := sizeLine_eq
  have key : ∃ (its : List Value) (T : String) (o : Obj) (nn : Nat), Vals ys its ∧ (T = "list" ∨ T = "tuple") ∧ s.heap.get? p = some o ∧ o.cls = .type T ∧ o.data = .seq its.toArray nn := by
    rcases hp with hp | hp
    · obtain ⟨its, r1, ⟨o, nn, e1, e2, _, e3⟩, _⟩ := I.list hp
      exact ⟨its, "list", o, nn, r1, .inl rfl, e1, e2, e3⟩
    · obtain ⟨its, r1, ⟨o, e1, e2, nn, e3⟩, _⟩ := I.tuple hp
      exact ⟨its, "tuple", o, nn, r1, .inr rfl, e1, e2, e3⟩
  obtain ⟨its, T, o, nn, r1, hT, ho, hcl, hd⟩ := key
  have hS := strs_are hi r1
  have hlen : its.length = ss.length := hS.len_eq
  refine sorted_of (xs := ss) (I.ok.hd hc) h64 (fun B' Q' hB q' => collect_seq hT ho hcl hd (by omega) (q' its ss _ s.toks s.drawn hS (List.Perm.refl _) ?_ fun b ob eb => ?_)) fun out l h' tk d m hS' hl ho' kp => ?_
  · rw [Heap.size_update, Heap.size_push]
    exact Nat.le_succ _
  · rw [Heap.get?_update_other _ _ (Nat.ne_of_gt (Heap.lt_size eb))]
    exact Heap.get?_push_of_some _ eb
  · have hl2 : (srtS ss).length = ss.length := (srtS_perm ss).length_eq
    exact ⟨.ref l, _, (inv_drew I d).laid (t' := tk) kp hl (show ObjOk X.prog X.w _ h' _ (.lst _) from ⟨by rw [List.length_map]; omega, out, m, (strsD (K := X.K) (H := H) hS').1, ho'⟩), rfl, q _ (I.hok.fresh hl)⟩
theorem pd_sortedL (hc : X.calm = true) (hg : Gl X "sorted") (hm : X.mg "sorted" = none) (ha : PD X B e fa) (hs : nostar e = true := by rfl) : PD X B (.Call (.Name "sorted" p) [e] [] pos) (f1 srtL fa) := by
  refine PE.of (pe_callB (call_sortedL hc) hg hm boot_sorted (pa_cons ha pa_nil (star_ok hs)) (he := star_ok hs) (hpl := by rfl)) fun σ H Q h => ?_
  obtain ⟨ρ, r1, h⟩ := h
  refine ⟨ρ, r1, (Res.bind h).imp fun d q1 v H1 e1 i1 => ?_⟩
  cases i1 with
  | lst hh rr =>
    dsimp only [srtL] at q1
    split at q1
    · rename_i xs hx
      split at q1
      · rename_i hz
        have ex := strL_eq _ hx
        subst ex
        exact ⟨_, _, xs, rfl, .inl hh, rr, hz, fun l hl => q1 _ _ (e1.trans (same_new hl _)) (.lst (SqL.of upd_same) (isl_str _))⟩
      · exact False.elim q1
    · exact False.elim q1
  | tup hh rr =>
    dsimp only [srtL] at q1
    split at q1
    · rename_i xs hx
      split at q1
      · rename_i hz
        have ex := strL_eq _ hx
        subst ex
        exact ⟨_, _, xs, rfl, .inr hh, rr, hz, fun l hl => q1 _ _ (e1.trans (same_new hl _)) (.lst (SqL.of upd_same) (isl_str _))⟩
      · exact False.elim q1
    · exact False.elim q1
  | _ => exact False.elim q1
end
end L2.PU

namespace L2.PU
open PySem PySem.Spec PyProof.Rows
theorem andV_ok {f g : Rho → M D} {ρ : Rho} {a b : Bool} (h1 : f ρ = ok (.bl a)) (h2 : g ρ = ok (.bl b)) : andV f g ρ = ok (.bl (a && b)) := by
  unfold andV
  rw [h1]
  show (if a = true then g ρ else ok (.bl false)) = _
  cases a
  · rfl
  · rw [if_pos rfl, h2]; rfl
theorem f1_ok {g : D → M D} {f : Rho → M D} {ρ : Rho} {d : D} {r : M D} (h : f ρ = ok d) (h2 : g d = r) : f1 g f ρ = r := by unfold f1; rw [h]; exact h2
theorem ix_tup {ds : List D} {j : Nat} {d : D} (h : ds[j]? = some d) : gIx (.tup ds) (.int (j : Int)) = ok d := by
  show (match atI ds (j : Int) with | some d => ok d | none => none) = _
  rw [atI_nat h]
theorem ix_lst {ds : List D} {j : Nat} {d : D} (h : ds[j]? = some d) : gIx (.lst ds) (.int (j : Int)) = ok d := by
  show (match atI ds (j : Int) with | some d => ok d | none => none) = _
  rw [atI_nat h]
theorem mul_ok {f g : Rho → M D} {ρ : Rho} {i j : Int} (h1 : f ρ = ok (.int i)) (h2 : g ρ = ok (.int j)) (hm : mulB i j = true) : b2 gTimes f g ρ = ok (.int (i * j)) := b2_ok h1 h2 (by simp [gTimes, gMul, hm])
theorem loop_cons {G : D → Rho → Option Rho} {F : Rho → Option Out} {d : D} {ds : List D} {ρ ρ1 ρ2 : Rho} (h1 : G d ρ = some ρ1) (h2 : F ρ1 = some (.nx ρ2)) : loop G F (d :: ds) ρ = loop G F ds ρ2 := by
  (conv => lhs; unfold loop)
  rw [h1]
  dsimp only
  rw [h2]
theorem srtL_lS {xs : List Str} (hl : xs.length < 64) : srtL (.lst (xs.map D.str)) = ok (.lst ((srtS xs).map D.str)) := by
  show (match strL (xs.map D.str) with | some xs => if xs.length < 64 then ok (D.lst ((srtS xs).map .str)) else none | none => none) = _
  rw [strL_map]
  show (if xs.length < 64 then _ else _) = _
  rw [if_pos hl]
end L2.PU

namespace L2.PU
open PySem PySem.Spec PyProof.Rows
/-! ### zip of two sequences, walked -/
/-- a list's or a tuple's iterator; such a sequence -/
noncomputable def SIt (b : Bool) (h : Heap) (it l : Addr) (i : Nat) : Prop := match b with
  | true => h.IsListIter it l i
  | false => h.IsTupleIter it l i
noncomputable def SSq (b : Bool) (h : Heap) (l : Addr) (items : Array Value) : Prop := match b with
  | true => h.IsList l items
  | false => h.IsTuple l items
theorem SIt.kept {b : Bool} {h h' : Heap} {it l : Addr} {i : Nat} (x : SIt b h it l i) (e : ∀ o, h.get? it = some o → h'.get? it = some o) : SIt b h' it l i := by
  cases b <;> (obtain ⟨o, ho, r⟩ := x; exact ⟨o, e o ho, r⟩)
theorem SSq.kept {b : Bool} {h h' : Heap} {l : Addr} {items : Array Value} (x : SSq b h l items) (e : ∀ o, h.get? l = some o → h'.get? l = some o) : SSq b h' l items := by
  cases b <;> (obtain ⟨o, ho, r⟩ := x; exact ⟨o, e o ho, r⟩)
theorem SIt.obj {b : Bool} {h : Heap} {it l : Addr} {i : Nat} (x : SIt b h it l i) : ∃ o, h.get? it = some o ∧ ∀ v, o.data ≠ .cell v := by
  cases b <;> (obtain ⟨o, ho, _, d⟩ := x; exact ⟨o, ho, fun v z => by rw [d] at z; cases z⟩)
section
variable {prog : Program} {w : World} {A : Around} {E : Value → Shared → Prop} {s : Shared}
theorem tup_nx {it t : Addr} {i : Nat} {items : Array Value} {x : Value} {Q : Value → Shared → Prop} (hi : s.heap.IsTupleIter it t i) (ht : s.heap.IsTuple t items) (hx : items[i]? = some x)
    (q : ∀ h', h'.IsTupleIter it t (i + 1) → Heap.SameBut it s.heap h' → Q x { s with heap := h' }) : wpAny (model prog w) A (Builtin.SmallTypes.nextOf (.ref it)) Q E s := by
  obtain ⟨o, ho, hc, hd⟩ := id hi
  obtain ⟨ot, hot, _, nt, hdt⟩ := ht
  unfold Builtin.SmallTypes.nextOf
  refine wpAny_bind (wpAny_callSpecial?_slot (name := Str.ofString "__next__") hi.typeIs F.slot_tuple_iterator_next (wpAny_call_entry F.slot_tuple_iterator_next hi.typeIs F.entry_tuple_iterator_next ?_ (F.args_tuple_iterator_next_1 _)))
  refine wpAny_bind (show wpAny _ _ (pure (Value.ref it, [])) _ _ _ from wpAny_pure ?_)
  dsimp only
  refine wpAny_bind (wpAny_field ho hd (x := .ref t) rfl ?_)
  rw [if_neg (show ¬ (Value.ref t == Value.none) = true from Bool.false_ne_true)]
  refine wpAny_bind (wpAny_field ho hd (x := .int i 0) rfl ?_)
  refine wpAny_bind (wpAny_seqItems hot hdt ?_)
  simp only [Int.toNat_natCast, hx]
  refine wpAny_bind (wpAny_setField ho hd (by simp) (wpAny_pure ⟨x, rfl, wpAny_pure (q _ ⟨_, Heap.get?_update_self _ ho (Obj.isFreed_of_fields (Obj.data_mapFields hd _)), (Obj.cls_mapFields ..).trans hc, ?_⟩ (Heap.SameBut.update ..))⟩))
  rw [Obj.data_mapFields hd]
  simp [rawInt]
theorem tup_end {it t : Addr} {i : Nat} {items : Array Value} {Q : Value → Shared → Prop} (hh : A.handled = none) (hi : s.heap.IsTupleIter it t i) (ht : s.heap.IsTuple t items) (hx : items[i]? = none)
    (q : ∀ h' e, Heap.ExtBut it s.heap h' → (∃ o, h'.get? e = some o ∧ o.cls = .type "StopIteration") → E (.ref e) { s with heap := h' }) : wpAny (model prog w) A (Builtin.SmallTypes.nextOf (.ref it)) Q E s := by
  obtain ⟨o, ho, hc, hd⟩ := id hi
  obtain ⟨ot, hot, _, nt, hdt⟩ := ht
  unfold Builtin.SmallTypes.nextOf
  refine wpAny_bind (wpAny_callSpecial?_slot (name := Str.ofString "__next__") hi.typeIs F.slot_tuple_iterator_next (wpAny_call_entry F.slot_tuple_iterator_next hi.typeIs F.entry_tuple_iterator_next ?_ (F.args_tuple_iterator_next_1 _)))
  refine wpAny_bind (show wpAny _ _ (pure (Value.ref it, [])) _ _ _ from wpAny_pure ?_)
  dsimp only
  refine wpAny_bind (wpAny_field ho hd (x := .ref t) rfl ?_)
  rw [if_neg (show ¬ (Value.ref t == Value.none) = true from Bool.false_ne_true)]
  refine wpAny_bind (wpAny_field ho hd (x := .int i 0) rfl ?_)
  refine wpAny_bind (wpAny_seqItems hot hdt ?_)
  simp only [Int.toNat_natCast, hx]
  refine wpAny_bind (wpAny_rule (wpAny_bind (wpAny_setField ho hd (by simp) ?_)))
  refine wpAny_bind ?_
  simp only [newExc, newTuple]
  refine wpAny_bind (wpAny_newObj_type ?_ (by size_fits))
  refine wpAny_bind (m := firstArgMember _ _) (wpAny_of_eq (a := Value.none) (by first | rfl | (simp only [firstArgMember]; rfl)) (wpAny_newObj_type ?_ (by size_fits)))
  simp only [raiseNew]
  refine wpAny_bind (wpAny_handled ?_)
  first | rw [show A.in1.handled = none by simp [hh]] | rw [hh]
  exact wpAny_bind (wpAny_pure (wpAny_throw (q _ _ (((Heap.SameBut.update ..).extBut.push _).push _) ⟨_, Heap.get?_push_size _ rfl, rfl⟩)))
theorem nx_item {b : Bool} {it l : Addr} {i : Nat} {items : Array Value} {x : Value} {Q : Value → Shared → Prop} (hi : SIt b s.heap it l i) (hl : SSq b s.heap l items) (hx : items[i]? = some x)
    (q : ∀ h', SIt b h' it l (i + 1) → Heap.SameBut it s.heap h' → Q x { s with heap := h' }) : wpAny (model prog w) A (Builtin.SmallTypes.nextOf (.ref it)) Q E s := by
  cases b
  · exact tup_nx hi hl hx q
  · exact wpAny_nextOf_list_item hi hl hx q
theorem nx_end {b : Bool} {it l : Addr} {i : Nat} {items : Array Value} {Q : Value → Shared → Prop} (hh : A.handled = none) (hi : SIt b s.heap it l i) (hl : SSq b s.heap l items) (hx : items[i]? = none)
    (q : ∀ h' e, Heap.ExtBut it s.heap h' → (∃ o, h'.get? e = some o ∧ o.cls = .type "StopIteration") → E (.ref e) { s with heap := h' }) : wpAny (model prog w) A (Builtin.SmallTypes.nextOf (.ref it)) Q E s := by
  cases b
  · exact tup_end hh hi hl hx q
  · exact wpAny_nextOf_list_end hh hi hl hx q
end
end L2.PU

namespace L2.PU
open PySem PySem.Spec PyProof.Rows
section
variable {prog : Program} {w : World} {A : Around} {E : Value → Shared → Prop} {s : Shared}
/-- a zip of two that is ready to be asked -/
structure ZOk (b1 b2 : Bool) (h : Heap) (z TI TO i1 i2 l1 l2 : Addr) (i : Nat) : Prop where
  z : IsZip h z TI TO .none
  ti : IsPair h TI (.ref i1) (.ref i2)
  to : ∃ a b, IsPair h TO a b
  s1 : SIt b1 h i1 l1 i
  s2 : SIt b2 h i2 l2 i
theorem ZOk.kept {b1 b2 : Bool} {h h' : Heap} {z TI TO i1 i2 l1 l2 : Addr} {i : Nat} (x : ZOk b1 b2 h z TI TO i1 i2 l1 l2 i) (e : ∀ c ∈ [z, TI, TO, i1, i2], ∀ o, h.get? c = some o → h'.get? c = some o) : ZOk b1 b2 h' z TI TO i1 i2 l1 l2 i := by
  obtain ⟨a, b, h1⟩ := x.to
  exact ⟨e z (by simp) _ x.z, e TI (by simp) _ x.ti, ⟨a, b, e TO (by simp) _ h1⟩, x.s1.kept fun o q => e i1 (by simp) o q, x.s2.kept fun o q => e i2 (by simp) o q⟩
/-- what is apart among the zip's own things, and from what is walked -/
structure ZAp (z TI TO i1 i2 l1 l2 : Addr) : Prop where
  a1 : TI ≠ z
  a2 : TO ≠ z
  a3 : i1 ≠ z
  a4 : i2 ≠ z
  a5 : TI ≠ TO
  a6 : TI ≠ i1
  a7 : TI ≠ i2
  a8 : TO ≠ i1
  a9 : TO ≠ i2
  a10 : i1 ≠ i2
  b1 : ∀ c ∈ [z, TO, i1, i2], l1 ≠ c
  b2 : ∀ c ∈ [z, TO, i1, i2], l2 ≠ c
theorem z_nx {b1 b2 : Bool} {z TI TO i1 i2 l1 l2 : Addr} {i : Nat} {xs ys : Array Value} {x y : Value} {elts : List Expr} {ct : Nat} {pos : Pos} {Q : Value → Shared → Prop} (D : ZAp z TI TO i1 i2 l1 l2) (Z : ZOk b1 b2 s.heap z TI TO i1 i2 l1 l2 i) (hl1 : SSq b1 s.heap l1 xs) (hl2 : SSq b2 s.heap l2 ys) (hx : xs[i]? = some x) (hy : ys[i]? = some y)
    (q : ∀ h', ZOk b1 b2 h' z TI TO i1 i2 l1 l2 (i + 1) → IsPair h' s.heap.objs.size x y → h'.objs.size = s.heap.objs.size + 1 → (∀ c o, c ∉ [z, TO, i1, i2] → s.heap.get? c = some o → h'.get? c = some o) → Q (.ref s.heap.objs.size) { s with heap := h' }) :
    wpAny (model prog w) A (pyNext (.ref z)) (fun r s1 => ∃ u, r = some u ∧ wpAny (model prog w) A (letOwnedTupleGo (.Tuple elts ct pos) (.ref z) u) (fun _ s2 => Q u s2) E s1) E s := by
  obtain ⟨hz, hTI, ⟨a, b, hTO⟩, h1, h2⟩ := Z
  have hT : s.TypeIs (.ref z) "zip" := ⟨_, hz, rfl⟩
  unfold pyNext
  refine wpAny_bind (wpAny_attempt (wpAny_callSpecial?_slot (name := Str.ofString "__next__") hT F.slot_zip_next (wpAny_call_entry F.slot_zip_next hT F.entry_zip_next ?_ (F.args_zip_next_1 _))))
  refine wpAny_bind (show wpAny _ _ (pure (Value.ref z, [])) _ _ _ from wpAny_pure ?_)
  dsimp only
  refine wpAny_bind (wpAny_field hz rfl (x := .bool false) rfl (wpAny_bind (wpAny_field hz rfl (x := .ref TI) rfl (wpAny_bind (wpAny_seqItems hTI rfl ?_)))))
  dsimp only
  rw [if_neg (by simp)]
  refine wpAny_bind (show wpAny _ _ (Builtin.SmallTypes.ownedTupleIsFree (.ref z)) _ _ _ from wpAny_bind (wpAny_field hz rfl (x := .none) rfl (wpAny_pure ?_)))
  rw [if_pos rfl]
  refine wpAny_bind (wpAny_rule (wpAny_bind (wpAny_field hz rfl (x := .ref TO) rfl ?_)))
  dsimp only
  refine wpAny_bind (wpAny_setField_rec hz (by simp) fun k1 zk1 sb1 => wpAny_bind ?_)
  have g1 : IsZip k1 z TI TO .ellipsis := zk1
  simp only [List.zipIdx_cons, List.zipIdx_nil, List.forIn_cons, List.forIn_nil]
  have m1 : ∀ c o, c ≠ z → s.heap.get? c = some o → k1.get? c = some o := fun c o n e => sb1.extBut c o n e
  have nl1 := D.b1
  have nl2 := D.b2
  refine wpAny_bind (wpAny_bind (wpAny_onRaise (show wpAny _ _ (Builtin.SmallTypes.nextOf (.ref i1) >>= _) _ _ _ from wpAny_bind (nx_item (h1.kept fun o e => m1 _ o D.a3 e) (hl1.kept fun o e => m1 _ o (nl1 z (by simp)) e) hx fun k2 t2 sb2 => wpAny_pure ?_))))
  have m2 : ∀ c o, c ≠ z → c ≠ i1 → s.heap.get? c = some o → k2.get? c = some o := fun c o n1 n2 e => sb2.extBut c o n2 (m1 c o n1 e)
  have p2 : IsPair k2 TO a b := m2 _ _ D.a2 D.a8 hTO
  refine wpAny_bind (wpAny_seqItems p2 rfl (wpAny_bind (wpAny_updateSeq_pair p2 fun k3 p3 sb3 => wpAny_bind (wpAny_letGo (wpAny_pure ?_)))))
  have p3' : IsPair k3 TO x b := p3
  have m3 : ∀ c o, c ≠ z → c ≠ i1 → c ≠ TO → s.heap.get? c = some o → k3.get? c = some o := fun c o n1 n2 n3 e => sb3.extBut c o n3 (m2 c o n1 n2 e)
  refine wpAny_bind (wpAny_bind (wpAny_onRaise (show wpAny _ _ (Builtin.SmallTypes.nextOf (.ref i2) >>= _) _ _ _ from wpAny_bind (nx_item (h2.kept fun o e => m3 _ o D.a4 (Ne.symm D.a10) (Ne.symm D.a9) e) (hl2.kept fun o e => m3 _ o (nl2 z (by simp)) (nl2 i1 (by simp)) (nl2 TO (by simp)) e) hy fun k4 t4 sb4 => wpAny_pure ?_))))
  have p4 : IsPair k4 TO x b := sb4.extBut _ _ D.a9 p3'
  refine wpAny_bind (wpAny_seqItems p4 rfl (wpAny_bind (wpAny_updateSeq_pair p4 fun k5 p5 sb5 => wpAny_bind (wpAny_letGo (wpAny_pure (wpAny_pure ?_))))))
  have p5' : IsPair k5 TO x y := p5
  refine wpAny_bind (wpAny_seqItems p5' rfl (wpAny_bind (wpAny_newTuple ?_)))
  have sz : k5.objs.size = s.heap.objs.size := by rw [sb5.1, sb4.1, sb3.1, sb2.1, sb1.1]
  have m5 : ∀ c o, c ∉ [z, TO, i1, i2] → s.heap.get? c = some o → k5.get? c = some o := fun c o n e => by
    simp only [List.mem_cons, List.not_mem_nil, or_false, not_or] at n
    exact sb5.extBut c o n.2.1 (sb4.extBut c o n.2.2.2 (m3 c o n.1 n.2.2.1 n.2.1 e))
  have z5 : IsZip k5 z TI TO .ellipsis := sb5.extBut _ _ (Ne.symm D.a2) (sb4.extBut _ _ (Ne.symm D.a4) (sb3.extBut _ _ (Ne.symm D.a2) (sb2.extBut _ _ (Ne.symm D.a3) g1)))
  have t1' : SIt b1 k5 i1 l1 (i + 1) := t2.kept fun o e => sb5.extBut _ _ (Ne.symm D.a8) (sb4.extBut _ _ D.a10 (sb3.extBut _ _ (Ne.symm D.a8) e))
  have t2' : SIt b2 k5 i2 l2 (i + 1) := t4.kept fun o e => sb5.extBut _ _ (Ne.symm D.a9) e
  have ti5 : IsPair k5 TI (.ref i1) (.ref i2) := m5 _ _ (by simp [D.a1, D.a5, D.a6, D.a7]) hTI
  have hzlt : z < k5.objs.size := Heap.lt_size z5
  refine wpAny_bind (show wpAny _ _ (Builtin.SmallTypes.ownedTupleHandOut (.ref z) (.ref k5.objs.size)) _ _ _ from ?_)
  unfold Builtin.SmallTypes.ownedTupleHandOut
  dsimp only
  have z6 : IsZip (k5.push { cls := .type "tuple", data := .seq #[x, y] }) z TI TO .ellipsis := Heap.get?_push_of_some _ z5
  refine wpAny_bind (wpAny_setField_rec z6 (by simp) fun k7 zk7 sb7 => ?_)
  have z7 : IsZip k7 z TI TO (rawInt k5.objs.size) := zk7
  refine wpAny_setField_rec z7 (by simp) fun k8 zk8 sb8 => ?_
  have z8 : IsZip k8 z TI TO (rawInt k5.objs.size) := zk8
  refine wpAny_pure ⟨_, rfl, wpAny_pure ⟨_, rfl, ?_⟩⟩
  refine wpAny_letOwnedTupleGo_zip z8 fun k9 z9 sb9 => ?_
  have up : ∀ c o, c ≠ z → (k5.push { cls := .type "tuple", data := .seq #[x, y] }).get? c = some o → k9.get? c = some o := fun c o n e => sb9.extBut c o n (sb8.extBut c o n (sb7.extBut c o n e))
  have up5 : ∀ c o, c ≠ z → k5.get? c = some o → k9.get? c = some o := fun c o n e => up c o n (Heap.get?_push_of_some _ e)
  have sz9 : k9.objs.size = s.heap.objs.size + 1 := by
    have e8 : k8.objs.size = k7.objs.size := sb8.1
    have e9 : k9.objs.size = k8.objs.size := sb9.1
    have e7 : k7.objs.size = (k5.push { cls := .type "tuple", data := .seq #[x, y] }).objs.size := sb7.1
    rw [e9, e8, e7, Heap.size_push, sz]
  have pr : IsPair k9 k5.objs.size x y := up _ _ (Nat.ne_of_gt hzlt) (Heap.get?_push_size _ rfl)
  rw [sz] at pr
  show Q (.ref k5.objs.size) _
  rw [sz]
  refine q k9 ⟨z9, up5 _ _ D.a1 ti5, ⟨_, _, up5 _ _ D.a2 p5'⟩, t1'.kept fun o e => up5 _ o D.a3 e, t2'.kept fun o e => up5 _ o D.a4 e⟩ pr sz9 fun c o n e => ?_
  have n' := n
  simp only [List.mem_cons, List.not_mem_nil, or_false, not_or] at n'
  exact up5 c o n'.1 (m5 c o n e)
theorem z_end {b1 b2 : Bool} {z TI TO i1 i2 l1 l2 : Addr} {i : Nat} {xs ys : Array Value} {Q : Option Value → Shared → Prop} (hh : A.handled = none) (D : ZAp z TI TO i1 i2 l1 l2) (Z : ZOk b1 b2 s.heap z TI TO i1 i2 l1 l2 i) (hl1 : SSq b1 s.heap l1 xs) (hl2 : SSq b2 s.heap l2 ys) (he : xs[i]? = none ∨ ys[i]? = none)
    (q : ∀ h', (∀ c o, c ∉ [z, TO, i1, i2] → s.heap.get? c = some o → h'.get? c = some o) → Q none { s with heap := h' }) : wpAny (model prog w) A (pyNext (.ref z)) Q E s := by
  obtain ⟨hz, hTI, ⟨a, b, hTO⟩, h1, h2⟩ := Z
  have hT : s.TypeIs (.ref z) "zip" := ⟨_, hz, rfl⟩
  unfold pyNext
  have fin : ∀ (k : Heap) (e : Addr), (∀ c o, c ∉ [z, TO, i1, i2] → s.heap.get? c = some o → k.get? c = some o) → (∃ o, k.get? e = some o ∧ o.cls = .type "StopIteration") → wpAny (model prog w) A (do if ← isInstance (.ref e) (.type "StopIteration") then pure none else throw (.ref e)) Q E { s with heap := k } := fun k e kp ⟨o, ho, hc⟩ =>
    wpAny_bind (wpAny_isInstance (T := "StopIteration") (b := true) ⟨o, ho, hc⟩ isSubtype_stop (wpAny_pure (q k kp)))
  refine wpAny_bind (wpAny_attempt (wpAny_callSpecial?_slot (name := Str.ofString "__next__") hT F.slot_zip_next (wpAny_call_entry F.slot_zip_next hT F.entry_zip_next ?_ (F.args_zip_next_1 _))))
  refine wpAny_bind (show wpAny _ _ (pure (Value.ref z, [])) _ _ _ from wpAny_pure ?_)
  dsimp only
  refine wpAny_bind (wpAny_field hz rfl (x := .bool false) rfl (wpAny_bind (wpAny_field hz rfl (x := .ref TI) rfl (wpAny_bind (wpAny_seqItems hTI rfl ?_)))))
  dsimp only
  rw [if_neg (by simp)]
  refine wpAny_bind (show wpAny _ _ (Builtin.SmallTypes.ownedTupleIsFree (.ref z)) _ _ _ from wpAny_bind (wpAny_field hz rfl (x := .none) rfl (wpAny_pure ?_)))
  rw [if_pos rfl]
  refine wpAny_bind (wpAny_rule (wpAny_bind (wpAny_field hz rfl (x := .ref TO) rfl ?_)))
  dsimp only
  refine wpAny_bind (wpAny_setField_rec hz (by simp) fun k1 zk1 sb1 => wpAny_bind ?_)
  have g1 : IsZip k1 z TI TO .ellipsis := zk1
  simp only [List.zipIdx_cons, List.zipIdx_nil, List.forIn_cons, List.forIn_nil]
  have m1 : ∀ c o, c ≠ z → s.heap.get? c = some o → k1.get? c = some o := fun c o n e => sb1.extBut c o n e
  have nl1 := D.b1
  have nl2 := D.b2
  have hin : A.in1.handled = none := by simp [hh]
  cases hx : xs[i]? with
  | none =>
    refine wpAny_bind (wpAny_bind (wpAny_onRaise (show wpAny _ _ (Builtin.SmallTypes.nextOf (.ref i1) >>= _) _ _ _ from wpAny_bind (nx_end hin (h1.kept fun o e => m1 _ o D.a3 e) (hl1.kept fun o e => m1 _ o (nl1 z (by simp)) e) hx fun k2 ea eb hst => ?_))))
    obtain ⟨oe, hoe, hce⟩ := hst
    have z2 : IsZip k2 z TI TO .ellipsis := eb _ _ (Ne.symm D.a3) g1
    have nz : ea ≠ z := fun e => by subst e; rw [z2] at hoe; cases hoe; simp at hce
    refine wpAny_setField_rec z2 (by simp) fun k3 _ sb3 => fin k3 ea (fun c o n e => ?_) ⟨oe, sb3.extBut _ _ nz hoe, hce⟩
    simp only [List.mem_cons, List.not_mem_nil, or_false, not_or] at n
    exact sb3.extBut c o n.1 (eb c o n.2.2.1 (m1 c o n.1 e))
  | some x =>
    have hy : ys[i]? = none := he.resolve_left (by rw [hx]; simp)
    refine wpAny_bind (wpAny_bind (wpAny_onRaise (show wpAny _ _ (Builtin.SmallTypes.nextOf (.ref i1) >>= _) _ _ _ from wpAny_bind (nx_item (h1.kept fun o e => m1 _ o D.a3 e) (hl1.kept fun o e => m1 _ o (nl1 z (by simp)) e) hx fun k2 t2 sb2 => wpAny_pure ?_))))
    have m2 : ∀ c o, c ≠ z → c ≠ i1 → s.heap.get? c = some o → k2.get? c = some o := fun c o n1 n2 e => sb2.extBut c o n2 (m1 c o n1 e)
    have p2 : IsPair k2 TO a b := m2 _ _ D.a2 D.a8 hTO
    refine wpAny_bind (wpAny_seqItems p2 rfl (wpAny_bind (wpAny_updateSeq_pair p2 fun k3 p3 sb3 => wpAny_bind (wpAny_letGo (wpAny_pure ?_)))))
    have m3 : ∀ c o, c ≠ z → c ≠ i1 → c ≠ TO → s.heap.get? c = some o → k3.get? c = some o := fun c o n1 n2 n3 e => sb3.extBut c o n3 (m2 c o n1 n2 e)
    refine wpAny_bind (wpAny_bind (wpAny_onRaise (show wpAny _ _ (Builtin.SmallTypes.nextOf (.ref i2) >>= _) _ _ _ from wpAny_bind (nx_end hin (h2.kept fun o e => m3 _ o D.a4 (Ne.symm D.a10) (Ne.symm D.a9) e) (hl2.kept fun o e => m3 _ o (nl2 z (by simp)) (nl2 i1 (by simp)) (nl2 TO (by simp)) e) hy fun k4 ea eb hst => ?_))))
    obtain ⟨oe, hoe, hce⟩ := hst
    have z4 : IsZip k4 z TI TO .ellipsis := eb _ _ (Ne.symm D.a4) (sb3.extBut _ _ (Ne.symm D.a2) (sb2.extBut _ _ (Ne.symm D.a3) g1))
    have nz : ea ≠ z := fun e => by subst e; rw [z4] at hoe; cases hoe; simp at hce
    refine wpAny_setField_rec z4 (by simp) fun k5 _ sb5 => fin k5 ea (fun c o n e => ?_) ⟨oe, sb5.extBut _ _ nz hoe, hce⟩
    simp only [List.mem_cons, List.not_mem_nil, or_false, not_or] at n
    exact sb5.extBut c o n.1 (eb c o n.2.2.2 (m3 c o n.1 n.2.2.1 n.2.1 e))
end
end L2.PU

namespace L2.PU
open PySem PySem.Spec PyProof.Rows
section
variable {prog : Program} {w : World} {A : Around} {E : Value → Shared → Prop} {s : Shared}
end
end L2.PU

namespace L2.PU
open PySem PySem.Spec PyProof.Rows
/-! ### zip in a comprehension -/
section
variable {X : Cx} {pins : List (Addr × Obj)} {σ : List (Option V)} {H : Hp} {s : Shared} {h' : Heap}
/-- several own objects of an iterator have turned -/
theorem inv_turnL {t' : Nat} {fp : List Addr} (I : Inv X pins σ H s) (k : ∀ b o, b ∉ fp → s.heap.get? b = some o → h'.get? b = some o) (hf : ∀ b ∈ fp, FpOk X pins H b) : Inv X pins σ H { s with heap := h', toks := t' } := by
  have nit : ∀ b u, H b = some u → b ∉ fp := fun b u e z => by rw [(hf b z).1] at e; cases e
  refine I.step (g' := s.gens) (d' := s.drawn) (ch := fp) (fun b hb => ?_) (fun b o _ _ hc e _ => k b o hc e) (fun b o _ _ hc e _ => ⟨o.slots, k b o hc e⟩) (fun _ _ _ _ n => n)
    (fun b o hc e => ⟨o, k b o hc e⟩) (fun _ _ e => e) (fun _ _ _ e => e) (fun b ps e => ⟨#[], by rw [e]; simp⟩) (fun m hm => ?_) (fun b u e => ?_) I.bare
  · obtain ⟨f0, f1, f2, f3, f4, f5⟩ := hf b hb
    exact ⟨f3, f1, f4, f5⟩
  · obtain ⟨o, es, ep, ho, r⟩ := hm
    exact ⟨o, es, ep, k _ o (fun z => (hf _ z).2.1 rfl) ho, r⟩
  · refine (I.hok b u e).stay (fun c v hc q => k c v ?_ q) (fun _ q => q) fun _ _ q => q
    rcases hc with z | z
    · rw [z]; exact nit b u e
    · exact nit c _ z
end
noncomputable def SqB (K : PySem.W.Frag) (b : Bool) (H : Hp) (a : Addr) (xs : List V) : Prop := match b with
  | true => SqL K H a xs
  | false => SqT K H a xs
theorem SqB.mono {K : PySem.W.Frag} {b : Bool} {H H' : Hp} {a : Addr} {xs : List V} (e : Same H H') (h : SqB K b H a xs) : SqB K b H' a xs := by
  cases b
  · exact SqT.mono e h
  · exact e.seq h
section
variable {X : Cx} {pins : List (Addr × Obj)} {σ : List (Option V)} {H : Hp} {s : Shared}
theorem inv_seq {b : Bool} {a : Addr} {xs : List V} (I : Inv X pins σ H s) (h : SqB X.K b H a xs) : ∃ its : List Value, Vals xs its ∧ SSq b s.heap a its.toArray := by
  cases b
  · obtain ⟨its, r, ⟨o, e1, e2, n, e3⟩, _⟩ := I.tuple h
    exact ⟨its, r, ⟨o, e1, e2, n, e3⟩⟩
  · obtain ⟨its, r, p, _⟩ := I.list h
    exact ⟨its, r, p.isList⟩
theorem inv_seq_inj {b : Bool} {a : Addr} {xs ys : List V} (I : Inv X pins σ H s) (h1 : SqB X.K b H a xs) (h2 : SqB X.K b H a ys) : xs = ys := by
  cases b
  · exact I.tuple_inj h1 h2
  · exact I.list_inj h1 h2
end
noncomputable def Itz (K : PySem.W.Frag) (b1 b2 : Bool) (l1 l2 : Addr) : It :=
  ⟨fun i H => ∃ xs ys v u, SqB K b1 H l1 xs ∧ SqB K b2 H l2 ys ∧ xs[i]? = some v ∧ ys[i]? = some u,
   fun i H x H' => ∃ p v u, x = .ref p ∧ H p = none ∧ H' = upd H p (.tup [v, u]) ∧ (∀ xs, SqB K b1 H l1 xs → xs[i]? = some v) ∧ ∀ ys, SqB K b2 H l2 ys → ys[i]? = some u,
   fun i H => ∃ xs ys, SqB K b1 H l1 xs ∧ SqB K b2 H l2 ys ∧ (xs.length ≤ i ∨ ys.length ≤ i)⟩
theorem turn_zip {P : Program} {w : World} {K : PySem.W.Frag} {elts : List Expr} {ct : Nat} {pos : Pos} {b1 b2 : Bool} {z TI TO i1 i2 l1 l2 : Addr} (D : ZAp z TI TO i1 i2 l1 l2) : Turn P w K (.Tuple elts ct pos) (Itz K b1 b2 l1 l2) [z, TI, TO, i1, i2] z (fun i h => ZOk b1 b2 h z TI TO i1 i2 l1 l2 i) where
  mem := by simp
  obj := fun i h st b hb => by
    simp only [List.mem_cons, List.not_mem_nil, or_false] at hb
    rcases hb with rfl | rfl | rfl | rfl | rfl
    · exact ⟨_, st.z, fun v q => by cases q⟩
    · exact ⟨_, st.ti, fun v q => by cases q⟩
    · obtain ⟨a, b, h1⟩ := st.to
      exact ⟨_, h1, fun v q => by cases q⟩
    · exact st.s1.obj
    · exact st.s2.obj
  keep := fun i h h' st k => st.kept fun c hc o e => k c hc o e
  item := by
    intro X hP hw hK hc i pins s σ H E I hf st hg
    subst hP hw hK
    obtain ⟨xs, ys, v, u, q1, q2, e1, e2⟩ := hg
    obtain ⟨its, r1, s1⟩ := inv_seq I q1
    obtain ⟨jts, r2, s2⟩ := inv_seq I q2
    obtain ⟨x, hx, rx⟩ := r1.get e1
    obtain ⟨y, hy, ry⟩ := r2.get e2
    have fin := z_nx (prog := X.prog) (w := X.w) (A := X.A) (E := E) (elts := elts) (ct := ct) (pos := pos) (x := x) (y := y) (Q := fun uu s2 => ∃ x' H', Inv X pins σ H' s2 ∧ RelV x' uu ∧ (Itz X.K b1 b2 l1 l2).yld i H x' H' ∧ ZOk b1 b2 s2.heap z TI TO i1 i2 l1 l2 (i + 1) ∧ ∀ b ∈ [z, TI, TO, i1, i2], H' b = none) D st s1 s2 (by simpa using hx) (by simpa using hy) (fun h' Z' pr sz kp => ?_)
    · refine wpAny_mono fin (fun r s3 ⟨uu, er, h3⟩ => ⟨uu, er, h3⟩) (fun _ _ q => q)
    · have hp : H s.heap.objs.size = none := I.hok.fresh (Nat.le_refl _)
      have I1 : Inv X pins σ (upd H s.heap.objs.size (.tup [v, u])) { s with heap := s.heap.push { cls := .type "tuple", data := .seq #[x, y] }, toks := s.toks } :=
        I.laid (fun b o e => Heap.get?_push_of_some _ e) (Nat.le_refl _) (show ObjOk X.prog X.w _ _ _ (.tup _) from ⟨by rw [sizeLine_eq]; simp, [x, y], .cons rx (.cons ry .nil), _, Heap.get?_push_size _ rfl, rfl, ⟨0, rfl⟩, rfl⟩)
      have lt : ∀ b ∈ [z, TI, TO, i1, i2], b < s.heap.objs.size := fun b hb => by
        simp only [List.mem_cons, List.not_mem_nil, or_false] at hb
        rcases hb with rfl | rfl | rfl | rfl | rfl
        · exact Heap.lt_size st.z
        · exact Heap.lt_size st.ti
        · obtain ⟨a, b, h1⟩ := st.to
          exact Heap.lt_size h1
        · obtain ⟨o, ho, _⟩ := st.s1.obj
          exact Heap.lt_size ho
        · obtain ⟨o, ho, _⟩ := st.s2.obj
          exact Heap.lt_size ho
      have hn : ∀ b ∈ [z, TI, TO, i1, i2], upd H s.heap.objs.size (.tup [v, u]) b = none := fun b hb => by
        rw [upd_ne (Nat.ne_of_lt (lt b hb))]
        exact (hf b hb).1
      have I2 : Inv X pins σ (upd H s.heap.objs.size (.tup [v, u])) { s with heap := h', toks := s.toks } := inv_turnL (s := { s with heap := s.heap.push { cls := .type "tuple", data := .seq #[x, y] }, toks := s.toks }) (fp := [z, TI, TO, i1, i2]) I1 (fun b o nb e => ?_) (fun b hb => ⟨hn b hb, (hf b hb).2⟩)
      · refine ⟨.ref s.heap.objs.size, _, I2, rfl, ⟨_, v, u, rfl, hp, rfl, fun xs' q => by rw [inv_seq_inj I q q1]; exact e1, fun ys' q => by rw [inv_seq_inj I q q2]; exact e2⟩, Z', hn⟩
      · by_cases eb : b = s.heap.objs.size
        · subst eb
          have e' : (s.heap.push { cls := .type "tuple", data := .seq #[x, y] }).get? s.heap.objs.size = some { cls := .type "tuple", data := .seq #[x, y] } := Heap.get?_push_size _ rfl
          have e2' : (s.heap.push { cls := .type "tuple", data := .seq #[x, y] }).get? s.heap.objs.size = some o := e
          rw [e'] at e2'
          cases e2'
          exact pr
        · have e' : (s.heap.push { cls := .type "tuple", data := .seq #[x, y] }).get? b = some o := e
          rw [Heap.get?_push_ne _ _ _ eb] at e'
          refine kp b o (fun q => nb ?_) e'
          simp only [List.mem_cons, List.not_mem_nil, or_false] at q ⊢
          rcases q with q | q | q | q <;> simp [q]
  done := by
    intro X hP hw hK hc i pins s σ H E I hf st hg
    subst hP hw hK
    obtain ⟨xs, ys, q1, q2, e⟩ := hg
    obtain ⟨its, r1, s1⟩ := inv_seq I q1
    obtain ⟨jts, r2, s2⟩ := inv_seq I q2
    have l1 := r1.length
    have l2 := r2.length
    refine z_end (I.ok.hd hc) D st s1 s2 (by rcases e with e | e; (left; simp; omega); (right; simp; omega)) fun h' kp => ⟨rfl, inv_turnL (t' := s.toks) (fp := [z, TI, TO, i1, i2]) I (fun b o nb e => kp b o (fun q => nb ?_) e) hf⟩
    simp only [List.mem_cons, List.not_mem_nil, or_false] at q ⊢
    rcases q with q | q | q | q <;> simp [q]
  self := fun _ _ _ _ _ st h => wpAny_pyIter_zip st.z h
/-- the pairs -/
noncomputable def zipD : List D → List D → List D
  | a :: as, b :: bs => .tup [a, b] :: zipD as bs
  | _, _ => []
theorem zipD_len : ∀ (as bs : List D), (zipD as bs).length = min as.length bs.length
  | [], _ => by simp [zipD]
  | _ :: _, [] => by simp [zipD]
  | a :: as, b :: bs => by rw [zipD, List.length_cons, zipD_len as bs, List.length_cons, List.length_cons]; omega
theorem zipD_get : ∀ (as bs : List D) (i : Nat) (a b : D), as[i]? = some a → bs[i]? = some b → (zipD as bs)[i]? = some (.tup [a, b])
  | [], _, _, _, _, h, _ => by simp at h
  | _ :: _, [], _, _, _, _, h => by simp at h
  | a :: as, b :: bs, 0, x, y, h1, h2 => by simp at h1 h2; subst h1 h2; rfl
  | a :: as, b :: bs, i + 1, x, y, h1, h2 => by
    rw [zipD, List.getElem?_cons_succ]
    exact zipD_get as bs i x y (by simpa using h1) (by simpa using h2)
theorem itd_zip {K : PySem.W.Frag} {b1 b2 : Bool} {l1 l2 : Addr} {as bs : List D} {xs ys : List V} {B : Hp} (h1 : SqB K b1 B l1 xs) (h2 : SqB K b2 B l2 ys) (r1 : IsL K B as xs) (r2 : IsL K B bs ys) : ItD K (Itz K b1 b2 l1 l2) (zipD as bs) B where
  go := fun j H e q => by
    rw [zipD_len] at q
    have q1 : j < xs.length := by rw [← r1.length]; omega
    have q2 : j < ys.length := by rw [← r2.length]; omega
    exact ⟨xs, ys, xs[j], ys[j], h1.mono e, h2.mono e, List.getElem?_eq_getElem q1, List.getElem?_eq_getElem q2⟩
  yld := fun j H x H' e y q => by
    obtain ⟨p, v, u, rfl, hp, rfl, y1, y2⟩ := y
    obtain ⟨a, a1, a2⟩ := r1.getV (y1 xs (h1.mono e))
    obtain ⟨b, b1', b2'⟩ := r2.getV (y2 ys (h2.mono e))
    have s1 : Same H (upd H p (.tup [v, u])) := same_new hp _
    exact ⟨s1, .tup [a, b], zipD_get as bs j a b a1 b1', .tup (TQ.of upd_same) (.cons (a2.mono (e.trans s1)) (.cons (b2'.mono (e.trans s1)) .nil))⟩
  stop := fun j H e q => by
    rw [zipD_len] at q
    refine ⟨xs, ys, h1.mono e, h2.mono e, ?_⟩
    rw [← r1.length, ← r2.length]
    omega
/-! making it -/
noncomputable def itObj (b : Bool) (l : Addr) : Obj := match b with
  | true => { cls := .type "list_iterator", data := .fields #[.ref l, .int 0 0] }
  | false => { cls := .type "tuple_iterator", data := .fields #[.ref l, .int 0 0] }
section
variable {prog : Program} {w : World} {A : Around} {E : Value → Shared → Prop} {s : Shared}
theorem iter_seq {b : Bool} {l : Addr} {items : Array Value} {Q : Value → Shared → Prop} (hl : SSq b s.heap l items) (q : Q (.ref s.heap.objs.size) { s with heap := s.heap.push (itObj b l) }) : wpAny (model prog w) A (pyIter (.ref l)) Q E s := by
  cases b
  · exact wpAny_pyIter_tuple hl q
  · exact wpAny_pyIter_list hl q
theorem itObj_st {b : Bool} {h : Heap} {it l : Addr} (e : h.get? it = some (itObj b l)) : SIt b h it l 0 := by
  cases b
  · exact ⟨_, e, rfl, rfl⟩
  · exact ⟨_, e, rfl, rfl⟩
theorem itObj_alive (b : Bool) (l : Addr) : (itObj b l).isFreed = false := by cases b <;> rfl
end
noncomputable abbrev zk5 (b1 b2 : Bool) (h : Heap) (l1 l2 : Addr) : Heap :=
  ((((h.push (itObj b1 l1)).push (itObj b2 l2)).push { cls := .type "tuple", data := .seq #[.ref h.objs.size, .ref (h.push (itObj b1 l1)).objs.size] }).push { cls := .type "tuple", data := .seq #[.none, .none] }).push
    { cls := .type "zip", data := .fields #[.none, .bool false, .bool false, .ref ((h.push (itObj b1 l1)).push (itObj b2 l2)).objs.size, .ref (((h.push (itObj b1 l1)).push (itObj b2 l2)).push { cls := .type "tuple", data := .seq #[.ref h.objs.size, .ref (h.push (itObj b1 l1)).objs.size] }).objs.size] }
theorem zip_new_meets (b1 b2 : Bool) (l1 l2 : Addr) (xs ys : Array Value) :
    Meets (Builtin.«zip.__new__» ⟨[.type "zip", .ref l1, .ref l2], []⟩) (fun _ R s => SSq b1 s.heap l1 xs ∧ SSq b2 s.heap l2 ys ∧
      R (.ok (.ret (.ref (s.heap.objs.size + 4)))) { s with heap := zk5 b1 b2 s.heap l1 l2 }) :=
  .of_wp fun prog w A R s h => by
    obtain ⟨hp, g, d, tk, os⟩ := s
    obtain ⟨hl1, hl2, h⟩ := h
    have hsub := sub_zip
    have k1 : SSq b1 (Shared.heap ⟨hp, g, d, tk, os⟩) l1 xs := hl1
    have k2 : SSq b2 (Shared.heap ⟨hp.push (itObj b1 l1), g, d, tk, os⟩) l2 ys := hl2.kept fun o e => Heap.get?_push_of_some _ e
    wp_walk using iter_seq k1, iter_seq k2
    refine ⟨_, rfl, ?_⟩
    have e : ((((hp.push (itObj b1 l1)).push (itObj b2 l2)).push { cls := .type "tuple", data := .seq #[.ref hp.objs.size, .ref (hp.push (itObj b1 l1)).objs.size] }).push { cls := .type "tuple", data := .seq #[.none, .none] }).objs.size = hp.objs.size + 4 := by
      rw [Heap.size_push, Heap.size_push, Heap.size_push, Heap.size_push]
    have h' := h
    rw [← e] at h'
    exact h'
end L2.PU

namespace L2.PU
open PySem PySem.Spec PyProof.Rows
section
variable {prog : Program} {w : World} {A : Around} {E : Value → Shared → Prop} {s : Shared}
theorem call_zip {b1 b2 : Bool} {l1 l2 : Addr} {xs ys : Array Value} {Q : Value → Shared → Prop} (hl1 : SSq b1 s.heap l1 xs) (hl2 : SSq b2 s.heap l2 ys)
    (q : ∀ h', ZOk b1 b2 h' (s.heap.objs.size + 4) (s.heap.objs.size + 2) (s.heap.objs.size + 3) s.heap.objs.size (s.heap.objs.size + 1) l1 l2 0 → (∀ c o, s.heap.get? c = some o → h'.get? c = some o) → Q (.ref (s.heap.objs.size + 4)) { s with heap := h' }) :
    wpAny (model prog w) A (call (.type "zip") [.ref l1, .ref l2]) Q E s := by
  refine callType_new F.called_zip (by decide) (F.typeCall_zip_2 _ _) (F.newCall_zip_2 _ _) (fun obj => F.args_object_init_3 obj _ _) F.entry_zip_new (zip_new_meets b1 b2 l1 l2 xs ys) ⟨hl1, hl2, ?_⟩
  show _ ∧ _
  unfold zk5
  have n1 : (s.heap.push (itObj b1 l1)).objs.size = s.heap.objs.size + 1 := Heap.size_push ..
  have n2 : ((s.heap.push (itObj b1 l1)).push (itObj b2 l2)).objs.size = s.heap.objs.size + 2 := by rw [Heap.size_push, n1]
  generalize hT : ({ cls := .type "tuple", data := .seq #[.ref s.heap.objs.size, .ref (s.heap.push (itObj b1 l1)).objs.size] } : Obj) = T1
  have n3 : (((s.heap.push (itObj b1 l1)).push (itObj b2 l2)).push T1).objs.size = s.heap.objs.size + 3 := by rw [Heap.size_push, n2]
  generalize hO : ({ cls := .type "tuple", data := .seq #[.none, .none] } : Obj) = T2
  have n4 : ((((s.heap.push (itObj b1 l1)).push (itObj b2 l2)).push T1).push T2).objs.size = s.heap.objs.size + 4 := by rw [Heap.size_push, n3]
  have fT : T1.isFreed = false := by rw [← hT]; rfl
  have fO : T2.isFreed = false := by rw [← hO]; rfl
  rw [n2, n3]
  generalize hZ : ({ cls := .type "zip", data := .fields #[.none, .bool false, .bool false, .ref (s.heap.objs.size + 2), .ref (s.heap.objs.size + 3)] } : Obj) = Z
  have fZ : Z.isFreed = false := by rw [← hZ]; rfl
  have up : ∀ {h : Heap} {c : Addr} {o o' : Obj}, h.get? c = some o → (h.push o').get? c = some o := fun e => Heap.get?_push_of_some _ e
  have g1 : (s.heap.push (itObj b1 l1)).get? s.heap.objs.size = some (itObj b1 l1) := Heap.get?_push_size _ (itObj_alive b1 l1)
  have g2 : ((s.heap.push (itObj b1 l1)).push (itObj b2 l2)).get? (s.heap.objs.size + 1) = some (itObj b2 l2) := by rw [← n1]; exact Heap.get?_push_size _ (itObj_alive b2 l2)
  have g3 : (((s.heap.push (itObj b1 l1)).push (itObj b2 l2)).push T1).get? (s.heap.objs.size + 2) = some T1 := by rw [← n2]; exact Heap.get?_push_size _ fT
  have g4 : ((((s.heap.push (itObj b1 l1)).push (itObj b2 l2)).push T1).push T2).get? (s.heap.objs.size + 3) = some T2 := by rw [← n3]; exact Heap.get?_push_size _ fO
  have g5 : (((((s.heap.push (itObj b1 l1)).push (itObj b2 l2)).push T1).push T2).push Z).get? (s.heap.objs.size + 4) = some Z := by rw [← n4]; exact Heap.get?_push_size _ fZ
  have z5 : IsZip (((((s.heap.push (itObj b1 l1)).push (itObj b2 l2)).push T1).push T2).push Z) (s.heap.objs.size + 4) (s.heap.objs.size + 2) (s.heap.objs.size + 3) .none := by rw [← hZ] at g5 ⊢; exact g5
  have t1 : IsPair (((((s.heap.push (itObj b1 l1)).push (itObj b2 l2)).push T1).push T2).push Z) (s.heap.objs.size + 2) (.ref s.heap.objs.size) (.ref (s.heap.objs.size + 1)) := by
    have := up (o' := Z) (up (o' := T2) g3)
    rw [← hT, n1] at this
    rw [← hT, n1]
    exact this
  have t2 : IsPair (((((s.heap.push (itObj b1 l1)).push (itObj b2 l2)).push T1).push T2).push Z) (s.heap.objs.size + 3) .none .none := by
    have := up (o' := Z) g4
    rw [← hO] at this ⊢
    exact this
  have zo : ZOk b1 b2 (((((s.heap.push (itObj b1 l1)).push (itObj b2 l2)).push T1).push T2).push Z) (s.heap.objs.size + 4) (s.heap.objs.size + 2) (s.heap.objs.size + 3) s.heap.objs.size (s.heap.objs.size + 1) l1 l2 0 :=
    ⟨z5, t1, ⟨_, _, t2⟩, itObj_st (up (up (up (up g1)))), itObj_st (up (up (up g2)))⟩
  exact ⟨⟨_, g5, by rw [← hZ]⟩, q _ zo fun c o e => up (up (up (up (up e))))⟩
end
section
variable {X : Cx} {B : Hp} {a b : Expr} {fa fb : Rho → M D} {pos p : Pos} {elts : List Expr} {ct : Nat} {tp : Pos}
noncomputable def itZ (fa fb : Rho → M D) : Rho → M (List D) := fun ρ => bnd (aCons fa (aCons fb aNil) ρ) fun ds => match ds with
  | [x, y] => bnd (itD x) fun as => bnd (itD y) fun bs => ok (zipD as bs)
  | _ => none
theorem zap_of {n l1 l2 : Nat} (h1 : l1 < n) (h2 : l2 < n) : ZAp (n + 4) (n + 2) (n + 3) n (n + 1) l1 l2 := by
  have g : ∀ c ∈ [n + 4, n + 3, n, n + 1], n ≤ c := fun c hc => by
    simp only [List.mem_cons, List.not_mem_nil, or_false] at hc
    rcases hc with rfl | rfl | rfl | rfl <;> first | exact Nat.le_refl _ | exact Nat.le_add_right _ _
  have e : ∀ {a b : Nat}, a < b → a ≠ b := fun h => Nat.ne_of_lt h
  have e' : ∀ {a b : Nat}, b < a → a ≠ b := fun h => Nat.ne_of_gt h
  exact ⟨e (by omega), e (by omega), e (by omega), e (by omega), e (by omega), e' (by omega), e' (by omega), e' (by omega), e' (by omega), e (by omega), fun c hc => e (Nat.lt_of_lt_of_le h1 (g c hc)), fun c hc => e (Nat.lt_of_lt_of_le h2 (g c hc))⟩
theorem boot_zip : bootBuiltins "zip" = some (.type "zip") := by decide +kernel
theorem seq_of {K : PySem.W.Frag} {H : Hp} {d : D} {v : V} {ds : List D} (i : Is K H d v) (h : itD d = ok ds) : ∃ (k : Bool) (l : Addr) (vs : List V), v = .ref l ∧ SqB K k H l vs ∧ IsL K H ds vs := by
  cases i with
  | lst hh rr => cases h; exact ⟨true, _, _, rfl, hh, rr⟩
  | tup hh rr => cases h; exact ⟨false, _, _, rfl, hh.sq, rr⟩
  | _ => cases h
theorem pit_zip (hg : Gl X "zip") (hm : X.mg "zip" = none) (ha : PD X B a fa) (hb : PD X B b fb) (hs : nostar a = true := by rfl) (hs2 : nostar b = true := by rfl) : PIt X B (.Tuple elts ct tp) (.Call (.Name "zip" p) [a, b] [] pos) (itZ fa fb) := by
  intro pins s σ H R ρ I r q
  have st1 : starEach [a, b] X.env = [(false, eval a X.env), (false, eval b X.env)] := by rw [star_ok hs, star1 hs2]
  refine Call_ (ld_blt I hg hm boot_zip (PyProof.Rows.callWith_type1 (thn (pda_cons ha (pda_cons hb pda_nil (star_ok hs2)) (star_ok hs) pos pins s σ H (fun vs H1 => ∃ ds, IsL X.K H1 ds vs ∧ Same H H1 ∧ Res X σ H1 (fun es => ∀ J H2, Same H H2 → ItD X.K J es H2 → R J H2) (match ds with | [x, y] => bnd (itD x) fun as => bnd (itD y) fun bs => ok (zipD as bs) | _ => none)) I ⟨ρ, r, (Res.bind q).imp fun ds q1 vs H1 e1 i1 => ⟨ds, i1, e1, q1.mono e1 fun _ z => z⟩⟩) fun us s1 ⟨vs, H1, I1, r1, ds, i1, e1, q1⟩ => ?_) (by rw [st1, star1 hs2]) (by rw [star1 hs2]; rfl)))
  split at q1
  · rename_i x y
    cases i1 with
    | cons ix i1 =>
      cases i1 with
      | cons iy i1 =>
        cases i1
        have qx := Res.bind q1
        cases hx : itD x with
        | none => rw [hx] at qx; exact False.elim qx
        | some z =>
          cases z with
          | error c => cases x <;> cases hx
          | ok as =>
            rw [hx] at qx
            have qy := Res.bind (show Res X σ H1 _ (bnd (itD y) fun bs => ok (zipD as bs)) from qx)
            cases hy : itD y with
            | none => rw [hy] at qy; exact False.elim qy
            | some z =>
              cases z with
              | error c => cases y <;> cases hy
              | ok bs =>
                rw [hy] at qy
                obtain ⟨k1, l1, xs, rfl, s1', r1'⟩ := seq_of ix hx
                obtain ⟨k2, l2, ys, rfl, s2', r2'⟩ := seq_of iy hy
                cases r1 with
                | cons rx rr =>
                  cases rr with
                  | cons ry rr =>
                    cases rr
                    cases rx
                    cases ry
                    obtain ⟨its, v1, t1⟩ := inv_seq I1 s1'
                    obtain ⟨jts, v2, t2⟩ := inv_seq I1 s2'
                    refine call_zip t1 t2 fun h' Z kp => ?_
                    refine wpAny_pyIter_zip Z.z ?_
                    have I2 : Inv X pins σ H1 { s1 with heap := h' } := I1.kept (t' := s1.toks) fun b o e => kp b o e
                    have lt1 : l1 < s1.heap.objs.size := by cases k1 <;> (obtain ⟨o, ho, _⟩ := t1; exact Heap.lt_size ho)
                    have lt2 : l2 < s1.heap.objs.size := by cases k2 <;> (obtain ⟨o, ho, _⟩ := t2; exact Heap.lt_size ho)
                    have ap : ZAp (s1.heap.objs.size + 4) (s1.heap.objs.size + 2) (s1.heap.objs.size + 3) s1.heap.objs.size (s1.heap.objs.size + 1) l1 l2 := by
                      exact zap_of lt1 lt2
                    refine ⟨s1.heap.objs.size + 4, [s1.heap.objs.size + 4, s1.heap.objs.size + 2, s1.heap.objs.size + 3, s1.heap.objs.size, s1.heap.objs.size + 1], _, _, H1, rfl, I2, turn_zip ap, Z, fun b hb => ?_, qy _ H1 e1 (itd_zip s1' s2' r1' r2')⟩
                    have hb' : s1.heap.objs.size ≤ b := by
                      simp only [List.mem_cons, List.not_mem_nil, or_false] at hb
                      rcases hb with rfl | rfl | rfl | rfl | rfl <;> first | exact Nat.le_refl _ | exact Nat.le_add_right _ _
                    exact I1.fpOk hb' (I1.hok.fresh hb')
  · exact False.elim q1
end
end L2.PU

namespace L2.PU
open PySem PySem.Spec PyProof.Rows
section
variable {X : Cx} {B : Hp} {e a b : Expr} {fa fb : Rho → M D} {pos p p2 pos2 pos' : Pos} {x : Str} {i : Nat}
theorem IsF.alike {K : PySem.W.Frag} {H H' : Hp} (ht : ∀ b xs, H b = some (.tup xs) → H' b = some (.tup xs)) (hf : ∀ b o u, H b = some (.frz o u) → H' b = some (.frz o u)) : ∀ {fs : List (Str × D)} {vs : List (Str × V)}, immL (fs.map Prod.snd) = true → IsF K H fs vs → IsF K H' fs vs
  | _, _, _, .nil => .nil
  | _, _, q, .cons h r => by
    rw [List.map_cons, immL, Bool.and_eq_true] at q
    exact .cons (Is.alike ht hf q.1 h) (IsF.alike ht hf q.2 r)
end
end L2.PU

namespace L2.PU
open PySem PySem.Spec PyProof.Rows
theorem all_bl {α : Type} (f : α → Bool) (l : List α) (h : ∀ x ∈ l, f x = true) : allD (.lst (l.map fun c => D.bl (f c))) = ok (.bl true) := by
  show (match blL (l.map fun c => D.bl (f c)) with | some bs => ok (D.bl (bs.all id)) | none => none) = _
  rw [blL_map]
  have : (l.map f).all id = true := by
    rw [List.all_eq_true]
    intro b hb
    obtain ⟨x, hx, rfl⟩ := List.mem_map.mp hb
    exact h x hx
  show ok (D.bl ((l.map f).all id)) = _
  rw [this]
theorem zip_next {α : Type} {R : α → α → Prop} : ∀ {xs : List α}, xs.Pairwise R → ∀ p ∈ xs.zip (xs.drop 1), R p.1 p.2
  | [], _, p, h => by simp at h
  | [x], _, p, h => by simp at h
  | x :: y :: r, hp, p, h => by
    rw [List.pairwise_cons] at hp
    have e : (x :: y :: r).zip ((x :: y :: r).drop 1) = (x, y) :: (y :: r).zip ((y :: r).drop 1) := rfl
    rw [e] at h
    rcases List.mem_cons.mp h with h | h
    · rw [h]; exact hp.1 y List.mem_cons_self
    · exact zip_next hp.2 p h
theorem cut_1 (xs : List Str) : cutD (xs.map D.str) (some 1) none = (xs.drop 1).map D.str := by
  rw [List.map_drop]
  cases xs with
  | nil => simp [cutD]
  | cons x r => exact cut_from ((x :: r).map D.str) (j := 1) (by simp)
end L2.PU

namespace L2.PU
open PySem PySem.Spec PyProof.Rows
/-! ### t.count(x): texts -/
section
variable {prog : Program} {w : World} {A : Around} {E : Value → Shared → Prop} {s : Shared}
end
end L2.PU

namespace L2.PU
open PySem PySem.Spec PyProof.Rows
/-! ### a dict's items, walked: whatever the keys -/
noncomputable def ItI (h : Heap) (it d : Addr) (i n ep : Nat) : Prop := ∃ f0 f1 k v, h.get? it = some { cls := .type "dict_itemiterator", dict := none, data := .fields #[f0, f1, .ref d, .int i 0, .int n 0, .int ep 0, k, v], slots := #[] } ∧ (f0 = Value.none ∨ ∃ (a : Addr) (o : Obj), f0 = rawInt (a : Int) ∧ h.get? a = some o ∧ a ≠ it)
section
variable {prog : Program} {w : World} {A : Around} {E : Value → Shared → Prop} {s : Shared}
theorem ii_item {it d : Addr} {i ep : Nat} {od : Obj} {es : Array DictEntry} {e : DictEntry} {Q : Option Value → Shared → Prop} (hit : ItI s.heap it d i es.size ep) (hod : s.heap.get? d = some od) (hdd : od.data = .dict es ep) (hx : es[i]? = some e)
    (q : ∀ h', ItI h' it d (i + 1) es.size ep → h'.get? s.heap.objs.size = some { cls := .type "tuple", data := .seq #[e.key, e.val] } → (∀ b o, b ≠ it → s.heap.get? b = some o → h'.get? b = some o) → Q (some (.ref s.heap.objs.size)) { s with heap := h' }) :
    wpAny (model prog w) A (pyNext (.ref it)) Q E s := by
  obtain ⟨f0, f1, k, v, hi, hf⟩ := hit
  have hT : s.TypeIs (.ref it) "dict_itemiterator" := ⟨_, hi, rfl⟩
  have hown : Builtin.Dict_items.ownsTuple "dict_itemiterator" = true := by decide
  have lti := Heap.lt_size hi
  unfold pyNext
  refine wpAny_bind (wpAny_attempt (wpAny_callSpecial?_slot (name := Str.ofString "__next__") hT PySem.F.slot_dict_itemiterator_next (wpAny_call_entry PySem.F.slot_dict_itemiterator_next hT PySem.F.entry_dict_itemiterator_next ?_ (PySem.F.args_dict_itemiterator_next_1 _))))
  refine wpAny_bind (wpAny_pure ?_)
  refine wpAny_bind ?_
  refine wpAny_bind ?_
  refine wpAny_bind (wpAny_typeNameOfWhole_itemiter hT (wpAny_pure ?_))
  refine wpAny_bind (wpAny_fieldsOf hi rfl ?_)
  simp only [hown, if_true]
  show wpAny _ _ (if (Value.ref d == Value.none) = true then _ else _) _ _ _
  rw [if_neg (show ¬ ((Value.ref d == Value.none) = true) from Bool.false_ne_true)]
  refine wpAny_bind (wpAny_pure ?_)
  refine wpAny_bind (wpAny_dictEntries hod hdd ?_)
  rw [if_neg (by simp)]
  refine wpAny_bind (wpAny_pure ?_)
  refine wpAny_bind (wpAny_dictEpoch hod hdd ?_)
  rw [if_neg (by simp)]
  refine wpAny_pure ?_
  simp only [show ¬ ((i : Int) < 0) from by omega, if_false, Int.toNat_natCast, hx]
  refine wpAny_bind ?_
  refine wpAny_bind (wpAny_typeNameOfWhole_itemiter hT (wpAny_pure ?_))
  refine wpAny_bind (wpAny_isOneOf_itemiter hT ?_)
  show wpAny _ _ (setField (.ref it) 3 (rawInt ((i : Int) + 1)) >>= _) _ _ _
  refine wpAny_bind (wpAny_setField_rec hi (by simp) fun h₁ he₁ hs₁ => ?_)
  have ei : ((i : Int) + 1) = ((i + 1 : Nat) : Int) := by omega
  replace he₁ : h₁.get? it = some { cls := .type "dict_itemiterator", dict := none, data := .fields #[f0, f1, .ref d, .int ((i + 1 : Nat) : Int) 0, .int es.size 0, .int ep 0, k, v], slots := #[] } := by
    rw [he₁, ei]
    rfl
  have hT1 : ∀ h', h'.get? it = some { cls := .type "dict_itemiterator", dict := none, data := .fields #[f0, f1, .ref d, .int ((i + 1 : Nat) : Int) 0, .int es.size 0, .int ep 0, k, v], slots := #[] } → Shared.TypeIs { s with heap := h' } (.ref it) "dict_itemiterator" := fun h' e => ⟨_, e, rfl⟩
  refine wpAny_bind (wpAny_holding ?_)
  refine wpAny_bind (wpAny_isOneOf_itemiter (hT1 _ he₁) ?_)
  rw [if_neg (by decide)]
  refine wpAny_bind (wpAny_isOneOf_itemiter (hT1 _ he₁) ?_)
  rw [if_neg (by decide)]
  unfold Builtin.Dict_items.pairFromOwner
  simp only [newTuple]
  refine wpAny_bind (wpAny_newObj_type ?_ (by size_fits))
  have sz1 : h₁.objs.size = s.heap.objs.size := hs₁.1
  have he₂ : (h₁.push { cls := .type "tuple", data := .seq #[e.key, e.val] }).get? it = some { cls := .type "dict_itemiterator", dict := none, data := .fields #[f0, f1, .ref d, .int ((i + 1 : Nat) : Int) 0, .int es.size 0, .int ep 0, k, v], slots := #[] } := Heap.get?_push_of_some _ he₁
  have tup2 : (h₁.push { cls := .type "tuple", data := .seq #[e.key, e.val] }).get? h₁.objs.size = some { cls := .type "tuple", data := .seq #[e.key, e.val] } := Heap.get?_push_size _ rfl
  have kp2 : ∀ b o, b ≠ it → s.heap.get? b = some o → (h₁.push { cls := .type "tuple", data := .seq #[e.key, e.val] }).get? b = some o := fun b o nb eb => Heap.get?_push_of_some _ ((hs₁.2 b nb).trans eb)
  have nsz : h₁.objs.size ≠ it := by rw [sz1]; exact Nat.ne_of_gt lti
  dsimp only
  generalize (h₁.push { cls := .type "tuple", data := .seq #[e.key, e.val] }) = h₂ at he₂ tup2 kp2 ⊢
  rcases hf with rfl | ⟨a, oa, rfl, ha, na⟩
  · refine wpAny_bind ?_
    unfold Builtin.Dict_items.ownedTupleIsFree
    refine wpAny_bind (wpAny_field he₂ rfl (x := .none) rfl (wpAny_pure ?_))
    rw [if_pos rfl]
    refine wpAny_bind (wpAny_field he₂ rfl (x := k) rfl ?_)
    refine wpAny_bind (wpAny_field he₂ rfl (x := v) rfl ?_)
    refine wpAny_bind (wpAny_setField_rec he₂ (by simp) fun h₃ he₃ hs₃ => ?_)
    refine wpAny_bind (wpAny_setField_rec he₃ (by simp) fun h₄ he₄ hs₄ => ?_)
    refine wpAny_bind (wpAny_setField_rec he₄ (by simp) fun h₅ he₅ hs₅ => ?_)
    refine wpAny_bind (wpAny_setField_rec he₅ (by simp) fun h₆ he₆ hs₆ => ?_)
    refine wpAny_bind (wpAny_letGo (wpAny_pure (wpAny_pure ⟨_, rfl, wpAny_pure ?_⟩)))
    have up : ∀ b o, b ≠ it → h₂.get? b = some o → h₆.get? b = some o := fun b o nb eb => (hs₆.2 b nb).trans ((hs₅.2 b nb).trans ((hs₄.2 b nb).trans ((hs₃.2 b nb).trans eb)))
    rw [sz1] at tup2 nsz ⊢
    refine q h₆ ⟨rawInt ((s.heap.objs.size : Nat) : Int), .bool false, e.key, e.val, he₆.trans (by rw [sz1]; rfl), .inr ⟨s.heap.objs.size, _, rfl, up _ _ nsz tup2, nsz⟩⟩ (up _ _ nsz tup2) fun b o nb eb => up b o nb (kp2 b o nb eb)
  · refine wpAny_bind ?_
    unfold Builtin.Dict_items.ownedTupleIsFree
    refine wpAny_bind (wpAny_field he₂ rfl (x := rawInt (a : Int)) rfl ?_)
    have ha2 := kp2 a oa na ha
    show wpAny _ _ (loadIfAlive (a : Int).toNat >>= _) _ _ _
    rw [Int.toNat_natCast]
    refine wpAny_bind (PySem.W.kdx_alive ha2 ?_)
    rw [if_neg (by simp)]
    refine wpAny_bind (wpAny_field he₂ rfl (x := f1) rfl ?_)
    by_cases hf1 : (f1 != Value.bool true) = true
    · rw [if_pos hf1]
      refine wpAny_bind (wpAny_setField_rec he₂ (by simp) fun h₃ he₃ hs₃ => wpAny_pure ?_)
      rw [if_neg (by decide)]
      refine wpAny_pure (wpAny_pure ⟨_, rfl, wpAny_pure ?_⟩)
      have up : ∀ b o, b ≠ it → h₂.get? b = some o → h₃.get? b = some o := fun b o nb eb => (hs₃.2 b nb).trans eb
      rw [sz1] at tup2 nsz ⊢
      exact q h₃ ⟨rawInt (a : Int), .bool true, k, v, he₃, .inr ⟨a, oa, rfl, up _ _ na ha2, na⟩⟩ (up _ _ nsz tup2) fun b o nb eb => up b o nb (kp2 b o nb eb)
    · rw [if_neg hf1]
      refine wpAny_pure ?_
      rw [if_neg (by decide)]
      refine wpAny_pure (wpAny_pure ⟨_, rfl, wpAny_pure ?_⟩)
      rw [sz1] at tup2 nsz ⊢
      exact q h₂ ⟨rawInt (a : Int), f1, k, v, he₂, .inr ⟨a, oa, rfl, ha2, na⟩⟩ tup2 kp2
theorem ii_end {it d : Addr} {i ep : Nat} {od : Obj} {es : Array DictEntry} {Q : Option Value → Shared → Prop} (hh : A.handled = none) (hit : ItI s.heap it d i es.size ep) (hod : s.heap.get? d = some od) (hdd : od.data = .dict es ep) (hx : es[i]? = none)
    (q : ∀ h', Heap.ExtBut it s.heap h' → Q none { s with heap := h' }) : wpAny (model prog w) A (pyNext (.ref it)) Q E s := by
  obtain ⟨f0, f1, k, v, hi, hf⟩ := hit
  have hT : s.TypeIs (.ref it) "dict_itemiterator" := ⟨_, hi, rfl⟩
  have hown : Builtin.Dict_items.ownsTuple "dict_itemiterator" = true := by decide
  unfold pyNext
  refine wpAny_bind (wpAny_attempt (wpAny_callSpecial?_slot (name := Str.ofString "__next__") hT PySem.F.slot_dict_itemiterator_next (wpAny_call_entry PySem.F.slot_dict_itemiterator_next hT PySem.F.entry_dict_itemiterator_next ?_ (PySem.F.args_dict_itemiterator_next_1 _))))
  refine wpAny_bind (wpAny_pure ?_)
  refine wpAny_bind ?_
  refine wpAny_bind ?_
  refine wpAny_bind (wpAny_typeNameOfWhole_itemiter hT (wpAny_pure ?_))
  refine wpAny_bind (wpAny_fieldsOf hi rfl ?_)
  simp only [hown, if_true]
  show wpAny _ _ (if (Value.ref d == Value.none) = true then _ else _) _ _ _
  rw [if_neg (show ¬ ((Value.ref d == Value.none) = true) from Bool.false_ne_true)]
  refine wpAny_bind (wpAny_pure ?_)
  refine wpAny_bind (wpAny_dictEntries hod hdd ?_)
  rw [if_neg (by simp)]
  refine wpAny_bind (wpAny_pure ?_)
  refine wpAny_bind (wpAny_dictEpoch hod hdd ?_)
  rw [if_neg (by simp)]
  refine wpAny_pure ?_
  simp only [show ¬ ((i : Int) < 0) from by omega, if_false, Int.toNat_natCast, hx]
  refine wpAny_bind ?_
  refine wpAny_bind (wpAny_typeNameOfWhole_itemiter hT (wpAny_pure ?_))
  show wpAny _ _ (setField (.ref it) 2 .none >>= _) _ _ s
  refine wpAny_bind (wpAny_setField hi rfl (by simp) ?_)
  wp_walk
  simp only [raiseNew]; refine wpAny_bind (wpAny_handled ?_)
  rw [show A.in1.handled = none by simp [hh]]; refine wpAny_bind (wpAny_pure (wpAny_throw ?_))
  refine wpAny_bind (wpAny_isInstance (T := "StopIteration") (b := true) ⟨_, Heap.get?_push_size _ rfl, rfl⟩ isSubtype_stop (wpAny_pure (q _ ?_)))
  exact (((Heap.SameBut.update ..).extBut.push _).push _)
/-- the pairs met so far -/
noncomputable def GI (es : Array DictEntry) (I : Addr) (h : Heap) (as : List Addr) : Prop := ∀ (j : Nat) (a : Addr), as[j]? = some a → I < a ∧ ∃ e, es[j]? = some e ∧ h.get? a = some { cls := .type "tuple", data := .seq #[e.key, e.val] }
theorem ii_loop {S I d : Addr} {ep : Nat} {od : Obj} {es : Array DictEntry} {R : Result → Shared → Prop} (hh : A.handled = none) (hSI : S < I) (hSd : d ≠ S) (hId : d ≠ I) (hdd : od.data = .dict es ep) (hn : es.size ≤ sizeLine) (res : Value) {h₁ : Heap}
    (hR : ∀ h' tk acc c as, (∀ b o, b ≠ S → b ≠ I → h₁.get? b = some o → h'.get? b = some o) → h'.get? S = some { cls := .type "list", dict := none, data := .seq acc c, slots := #[] } → as.length = es.size → GI es I h' as → as.Nodup → acc.toList = as.map Value.ref → R (.ok (.ret res)) { s with heap := h', toks := tk }) :
    ∀ (k i : Nat) (h : Heap) (tk c : Nat) (acc : Array Value) (as : List Addr), es.size - i = k → i ≤ es.size → ItI h I d i es.size ep → h.get? d = some od → (∀ b o, b ≠ S → b ≠ I → h₁.get? b = some o → h.get? b = some o) →
      h.get? S = some { cls := .type "list", dict := none, data := .seq acc c, slots := #[] } → acc.toList = as.map Value.ref → as.length = i → GI es I h as → as.Nodup → I < h.objs.size →
      codeAny (model prog w) A (.builtin "list.extend.loop" ⟨[.ref S, .ref I, res], []⟩) R { s with heap := h, toks := tk } := by
  have hne : S ≠ I := Nat.ne_of_lt hSI
  intro k
  induction k with
  | zero =>
    intro i h tk c acc as hk hi hst hD hkeep hS hacc hal hG hnd hq
    refine codeAny_builtin PySem.F.entry_extend_loop ?_
    rw [Around.under_plainId PySem.F.plain_extend_loop _]
    show wpAny _ A.in1 (pyNext (.ref I) >>= _) _ _ _
    refine wpAny_bind (ii_end (s := { s with heap := h, toks := tk }) (A := A.in1) (by simp [hh]) hst hD hdd (Array.getElem?_eq_none (by omega)) fun h' he => ?_)
    refine wpAny_pure (hR h' tk acc c as (fun b o h1 h2 e => he b o h2 (hkeep b o h1 h2 e)) (he S _ hne hS) (by omega) (fun j a hj => ?_) hnd hacc)
    obtain ⟨e1, e, e2, e3⟩ := hG j a hj
    exact ⟨e1, e, e2, he a _ (Nat.ne_of_gt e1) e3⟩
  | succ k ih =>
    intro i h tk c acc as hk hi hst hD hkeep hS hacc hal hG hnd hIs
    have hlt : i < es.size := by omega
    have hx : es[i]? = some es[i] := Array.getElem?_eq_getElem hlt
    have hsz : acc.size = i := by rw [← Array.length_toList, hacc, List.length_map, hal]
    have hSl : S < h.objs.size := Heap.lt_size hS
    refine codeAny_builtin PySem.F.entry_extend_loop ?_
    rw [Around.under_plainId PySem.F.plain_extend_loop _]
    show wpAny _ A.in1 (pyNext (.ref I) >>= _) _ _ _
    refine wpAny_bind (ii_item (s := { s with heap := h, toks := tk }) hst hD hdd hx fun h' hst' ht hkp => ?_)
    dsimp only at ht hkp ⊢
    have hS' := hkp S _ hne hS
    have up : ∀ b o, b ≠ S → h'.get? b = some o → (h'.update S (Obj.mapSeq (·.push (Value.ref h.objs.size)))).get? b = some o := fun b o hb e => (Heap.get?_update_other _ _ (Ne.symm hb)).trans e
    have hSn := Heap.get?_update_self (Obj.mapSeq (·.push (Value.ref h.objs.size))) hS' rfl
    have st2 : ItI (h'.update S (Obj.mapSeq (·.push (Value.ref h.objs.size)))) I d (i + 1) es.size ep := by
      obtain ⟨f0, f1, kk, v, g1, g2⟩ := hst'
      refine ⟨f0, f1, kk, v, up _ _ (Ne.symm hne) g1, ?_⟩
      rcases g2 with g2 | ⟨a, o, e1, e2, e3⟩
      · exact .inl g2
      · by_cases ea : a = S
        · subst ea; exact .inr ⟨a, _, e1, hSn, e3⟩
        · exact .inr ⟨a, o, e1, up _ _ ea e2, e3⟩
    have nd2 : (as ++ [h.objs.size]).Nodup := by
      refine List.nodup_append.mpr ⟨hnd, by simp, fun x hx y hy => ?_⟩
      rw [List.mem_singleton] at hy
      subst hy
      obtain ⟨j, hj⟩ := List.mem_iff_getElem?.mp hx
      obtain ⟨_, e, _, e3⟩ := hG j x hj
      exact Nat.ne_of_lt (Heap.lt_size e3)
    show wpAny _ A.in1 (updateSeq S (·.push (Value.ref h.objs.size)) >>= _) _ _ _
    refine wpAny_bind ?_
    refine wpAny_updateSeq hS' rfl (wpAny_pure ⟨plainId_quiet PySem.F.plain_extend_loop _, ih (i + 1) _ tk _ (acc.push (Value.ref h.objs.size)) (as ++ [h.objs.size]) (by omega) hlt st2 (up d _ hSd (hkp d _ hId hD))
      (fun b o h1 h2 e => up b o h1 (hkp b o h2 (hkeep b o h1 h2 e))) hSn (by rw [Array.toList_push, hacc, List.map_append]; rfl) (by rw [List.length_append, hal]; rfl) (fun j b hj => ?_) nd2 (by obtain ⟨_, _, _, _, g1, _⟩ := st2; exact Heap.lt_size g1)⟩)
      (by rw [hsz]; omega) (by show (acc.push _).size ≤ sizeLine + 1; rw [Array.size_push, hsz]; omega)
    rcases Nat.lt_trichotomy j as.length with h1 | h1 | h1
    · rw [List.getElem?_append_left h1] at hj
      obtain ⟨e1, e, e2, e3⟩ := hG j b hj
      exact ⟨e1, e, e2, up b _ (Nat.ne_of_gt (Nat.lt_trans hSI e1)) (hkp b _ (Nat.ne_of_gt e1) e3)⟩
    · subst h1
      have hb : h.objs.size = b := by simpa using hj
      subst hb
      exact ⟨hIs, es[i], by rw [hal]; exact hx, up _ _ (Nat.ne_of_gt hSl) ht⟩
    · have hnone : (as ++ [h.objs.size])[j]? = none := List.getElem?_eq_none (by rw [List.length_append, List.length_singleton]; omega)
      rw [hnone] at hj; cases hj
theorem ii_iter {r d : Addr} {ep : Nat} {od : Obj} {es : Array DictEntry} {Q : Value → Shared → Prop} (hv : s.heap.IsItemsView r d) (hod : s.heap.get? d = some od) (hdd : od.data = .dict es ep)
    (q : ∀ h', ItI h' s.heap.objs.size d 0 es.size ep → (∀ b o, s.heap.get? b = some o → h'.get? b = some o) → s.heap.objs.size < h'.objs.size → Q (.ref s.heap.objs.size) { s with heap := h' }) : wpAny (model prog w) A (pyIter (.ref r)) Q E s := by
  obtain ⟨ov, hov, hcv, hdv⟩ := id hv
  refine wpAny_pyIter_slot hv.typeIs PySem.F.slot_dict_items_iter (wpAny_call_entry PySem.F.slot_dict_items_iter hv.typeIs PySem.F.entry_dict_items_iter ?_ (PySem.F.args_dict_items_iter_1 _))
  unfold Builtin.«dict_items.__iter__»
  refine wpAny_bind (wpAny_pure ?_)
  refine wpAny_bind ?_
  unfold Builtin.Dict_items.dictOf
  refine wpAny_bind (wpAny_field hov hdv (x := .ref d) rfl (wpAny_pure ?_))
  refine wpAny_bind ?_
  unfold Builtin.Dict_items.newIterator
  refine wpAny_bind (wpAny_dictEntries hod hdd ?_)
  refine wpAny_bind (wpAny_dictEpoch hod hdd ?_)
  have hown : Builtin.Dict_items.ownsTuple "dict_itemiterator" = true := by decide
  simp only [hown, if_true]
  have fin : (s.heap.push { cls := .type "dict_itemiterator", data := .fields #[.none, .bool false, .ref d, .int 0 0, .int es.size 0, .int ep 0, .none, .none] }).get? s.heap.objs.size = some { cls := .type "dict_itemiterator", dict := none, data := .fields #[.none, .bool false, .ref d, .int 0 0, .int es.size 0, .int ep 0, .none, .none], slots := #[] } := Heap.get?_push_size _ rfl
  refine wpAny_newObj_type (wpAny_pure ⟨_, rfl, "dict_itemiterator", _, ⟨_, Heap.get?_push_size _ rfl, rfl⟩, PySem.F.slot_dict_itemiterator_next.lookup, ?_⟩) (by simp only [sizeOk, Builtin.Dict_items.ownedTupleFields, List.size_toArray, List.length_append, List.length_cons, List.length_nil, sizeLine_eq]; omega)
  refine q _ ⟨.none, .bool false, .none, .none, fin, .inl rfl⟩ (fun b o e => Heap.get?_push_of_some _ e) (Heap.lt_size fin)
/-- d.items() -/
theorem items_call {d : Addr} {ep : Nat} {od : Obj} {es : Array DictEntry} {Q : Value → Shared → Prop} (hT : s.TypeIs (.ref d) "dict") (hd : (d == sysModules) = false)
    (q : Q (.ref s.heap.objs.size) { s with heap := s.heap.push { cls := .type "dict_items", data := .fields #[.ref d] } }) : wpAny (model prog w) A (call (.builtin "dict.items") [.ref d]) Q E s := by
  refine wpAny_call_entry PySem.F.slot_dict_items hT PySem.F.entry_dict_items ?_ (PySem.F.args_dict_items_1 _)
  unfold Builtin.«dict.items»
  refine wpAny_bind ?_
  unfold Builtin.Dict.noArgs
  refine wpAny_bind (wpAny_notOrdered_dict hT ?_)
  show wpAny _ _ (pure d) _ _ s
  refine wpAny_pure ?_
  show wpAny _ _ (Builtin.Dict.showsAll d >>= _) _ _ s
  unfold Builtin.Dict.showsAll
  rw [if_neg (by rw [hd]; exact Bool.false_ne_true)]
  refine wpAny_bind (wpAny_pure ?_)
  exact wpAny_bind (wpAny_newObj_type (wpAny_pure ⟨_, rfl, q⟩))
/-- list of a dict's items, to be sorted -/
theorem collect_items {r d : Addr} {ep : Nat} {od : Obj} {es : Array DictEntry} {Q : List Value → Shared → Prop} (hh : A.handled = none) (hv : s.heap.IsItemsView r d) (hod : s.heap.get? d = some od) (hdd : od.data = .dict es ep) (hn : es.size ≤ sizeLine)
    (hQ : ∀ h' tk as, (∀ b o, s.heap.get? b = some o → h'.get? b = some o) → as.length = es.size → GI es s.heap.objs.size h' as → as.Nodup → s.heap.objs.size < h'.objs.size → Q (as.map Value.ref) { s with heap := h', toks := tk }) : wpAny (model prog w) A (collect (.ref r)) Q E s := by
  obtain ⟨ov, hov, hcv, hdv⟩ := id hv
  have ltr := Heap.lt_size hov
  have ltd := Heap.lt_size hod
  have nr : s.heap.objs.size ≠ r := Nat.ne_of_gt ltr
  have h1 : Builtin.List.listSameRef (.ref s.heap.objs.size) (.ref r) = false := by simp [Builtin.List.listSameRef, nr]
  unfold collect; refine wpAny_bind (wpAny_runValue (codeAny_builtin F.entry_proto_collect ?_))
  rw [Around.under_plainId F.plain_proto_collect _]; show wpAny _ A.in1 (newList [] >>= fun l => again (.builtin "list.__iadd__" ⟨[l, .ref r], []⟩)) _ _ s
  refine wpAny_bind (wpAny_newObj_type (wpAny_pure ⟨plainId_quiet F.plain_list_iadd _, codeAny_builtin F.entry_list_iadd ?_⟩))
  rw [Around.under_plainId F.plain_list_iadd _]; show wpAny _ A.in1 (Builtin.List.listExtendWith (.ref s.heap.objs.size) (.ref r) (.ref s.heap.objs.size)) _ _ _
  generalize hL : ({ cls := .type "list", data := .seq ([] : List Value).toArray } : Obj) = L
  have l1 : (s.heap.push L).get? s.heap.objs.size = some L := Heap.get?_push_size _ (by rw [← hL]; rfl)
  have hv1 : (s.heap.push L).IsItemsView r d := ⟨ov, Heap.get?_push_of_some _ hov, hcv, hdv⟩
  have hod1 : (s.heap.push L).get? d = some od := Heap.get?_push_of_some _ hod
  have sz : (s.heap.push L).objs.size = s.heap.objs.size + 1 := by simp [Heap.push]
  have hT : Shared.TypeIs { s with heap := s.heap.push L } (.ref r) "dict_items" := ⟨ov, Heap.get?_push_of_some _ hov, hcv⟩
  unfold Builtin.List.listExtendWith; refine wpAny_bind (wpAny_typeOf hT ?_)
  rw [if_neg (by rw [h1]; decide)]
  refine wpAny_bind (ii_iter (s := { s with heap := s.heap.push L }) hv1 hod1 hdd fun h2 hit kp2 lt2 => ?_)
  dsimp only at hit kp2 lt2 ⊢
  refine wpAny_bind (wpAny_holding (PySem.W.kdx_hint (s := { s with heap := h2 }) ⟨ov, kp2 r _ (Heap.get?_push_of_some _ hov), hcv⟩ ?_))
  rw [if_pos (by decide)]
  have l2 : h2.get? s.heap.objs.size = some { cls := .type "list", data := .seq #[] } := by rw [kp2 _ _ l1, ← hL]
  refine wpAny_bind (wpAny_rule (wpAny_bind ?_))
  show wpAny _ A.in1 (updateSeq s.heap.objs.size (·.push .none) >>= fun _ => updateSeq s.heap.objs.size (·.pop)) _ _ _
  refine wpAny_bind (wpAny_updateSeq l2 rfl ?_)
  have l3 := Heap.get?_update_self (Obj.mapSeq (·.push Value.none)) l2 rfl
  refine wpAny_updateSeq l3 rfl ?_
  have l4 := Heap.get?_update_self (Obj.mapSeq (·.pop)) l3 rfl
  have kp4 : ∀ b o, b ≠ s.heap.objs.size → h2.get? b = some o → ((h2.update s.heap.objs.size (Obj.mapSeq (·.push Value.none))).update s.heap.objs.size (Obj.mapSeq (·.pop))).get? b = some o := fun b o nb e => (Heap.get?_update_other _ _ (Ne.symm nb)).trans ((Heap.get?_update_other _ _ (Ne.symm nb)).trans e)
  rw [sz] at hit lt2 ⊢
  have nI : s.heap.objs.size + 1 ≠ s.heap.objs.size := Nat.succ_ne_self _
  have hit4 : ItI ((h2.update s.heap.objs.size (Obj.mapSeq (·.push Value.none))).update s.heap.objs.size (Obj.mapSeq (·.pop))) (s.heap.objs.size + 1) d 0 es.size ep := by
    obtain ⟨f0, f1, kk, v, g1, g2⟩ := hit
    refine ⟨f0, f1, kk, v, kp4 _ _ nI g1, ?_⟩
    rcases g2 with g2 | ⟨a, o, e1, e2, e3⟩
    · exact .inl g2
    · by_cases ea : a = s.heap.objs.size
      · subst ea; exact .inr ⟨_, _, e1, l4, e3⟩
      · exact .inr ⟨a, o, e1, kp4 _ _ ea e2, e3⟩
  refine wpAny_pure ⟨plainId_quiet F.plain_extend_loop _, ?_⟩
  refine ii_loop (s := s) (S := s.heap.objs.size) (I := s.heap.objs.size + 1) (h₁ := s.heap) hh (Nat.lt_succ_self _) (Nat.ne_of_lt ltd) (Nat.ne_of_lt (Nat.lt_succ_of_lt ltd)) hdd hn _ (fun h' tk acc c as hk hS hal hG hnd hacc => ?_) es.size 0 _ s.toks _ #[] [] rfl (Nat.zero_le _) hit4 (kp4 _ _ (Nat.ne_of_lt ltd) (kp2 _ _ hod1)) (fun b o nb _ e => kp4 _ _ nb (kp2 _ _ (Heap.get?_push_of_some _ e))) l4 rfl rfl (fun j a hj => by simp at hj) List.nodup_nil (by obtain ⟨_, _, _, _, g1, _⟩ := hit4; exact Heap.lt_size g1)
  show wpAny _ A (load s.heap.objs.size >>= _) _ _ _
  refine wpAny_bind (wpAny_load hS (wpAny_pure ?_))
  rw [hacc]
  refine hQ h' tk as (fun b o e => hk b o (Nat.ne_of_lt (Heap.lt_size e)) (Nat.ne_of_lt (Nat.lt_succ_of_lt (Heap.lt_size e))) e) hal (fun j a hj => ?_) hnd (Heap.lt_size hS)
  obtain ⟨g1, g2⟩ := hG j a hj
  exact ⟨Nat.lt_of_succ_lt g1, g2⟩
end
end L2.PU

namespace L2.PU
open PySem PySem.Spec PyProof.Rows
/-! ### < of tuples of texts -/
noncomputable def lexS : List Str → List Str → Bool
  | [], [] => false
  | [], _ :: _ => true
  | _ :: _, [] => false
  | x :: xs, y :: ys => if x = y then lexS xs ys else decide (x.cps.toList < y.cps.toList)
/-- the values are those texts -/
noncomputable def TxA : List Value → List Str → Prop
  | [], [] => True
  | v :: vs, x :: xs => (∃ u, v = Value.str x u) ∧ TxA vs xs
  | _, _ => False
theorem TxA.length : ∀ {vs : List Value} {xs : List Str}, TxA vs xs → vs.length = xs.length
  | [], [], _ => rfl
  | _ :: _, _ :: _, h => by rw [List.length_cons, List.length_cons, TxA.length h.2]
  | [], _ :: _, h => h.elim
  | _ :: _, [], h => h.elim
theorem lexS_ends : ∀ {xs ys : List Str}, (xs = [] ∨ ys = []) → lexS xs ys = decide (xs.length < ys.length)
  | [], [], _ => rfl
  | [], _ :: _, _ => by simp [lexS]
  | _ :: _, [], _ => by simp [lexS]
  | _ :: _, _ :: _, h => by rcases h with h | h <;> cases h
section
variable {prog : Program} {w : World} {A : Around} {E : Value → Shared → Prop} {s : Shared}
theorem tup_lt_body {a b : Addr} {its jts : Array Value} {xs ys : List Str} {Q : Value → Shared → Prop} (ha : IsTup s.heap a its) (hb : IsTup s.heap b jts) (hx : TxA its.toList xs) (hy : TxA jts.toList ys) (q : Q (.bool (lexS xs ys)) s) :
    wpAny (model prog w) A (Builtin.«tuple.__lt__» ⟨[.ref a, .ref b], []⟩) (fun fin s' => ∃ r, fin = .done (.ret r) ∧ Q r s') E s := by
  obtain ⟨⟨c1, d1, x1, l1⟩, o1, k1, n1, e1⟩ := ha
  obtain ⟨⟨c2, d2, x2, l2⟩, o2, k2, n2, e2⟩ := hb
  dsimp only at k1 e1 k2 e2
  subst k1 e1 k2 e2
  have f2 := AutoSeq1.sub_tuple_tuple
  have z1 := hx.length
  have z2 := hy.length
  rw [Array.length_toList] at z1 z2
  unfold Builtin.«tuple.__lt__»
  wp_walk using AutoSeq1.wpAny_loadPart' o1, AutoSeq1.wpAny_loadPart' o2, wpAny_forIn_list _ (fun rest st s' => st.1 = none ∧ s' = s ∧ ∃ (vs ws : List Value) (zs us : List Str), rest = vs.zip ws ∧ TxA vs zs ∧ TxA ws us ∧ zs.length + ys.length = us.length + xs.length ∧ lexS zs us = lexS xs ys) _
  case turn =>
    rintro ⟨p, p'⟩ rest st s' ⟨g1, g2, vs, ws, zs, us, hz, hv, hw, hlen, hl⟩
    subst g2
    match vs, zs, ws, us, hv, hw with
    | v :: vs, z :: zs, y :: ws, u :: us, hv, hw =>
      rw [List.zip_cons_cons] at hz
      injection hz with hp hr
      injection hp with hp1 hp2
      obtain ⟨⟨t1, e1⟩, hv⟩ := hv
      obtain ⟨⟨t2, e2⟩, hw⟩ := hw
      subst hp1 hp2
      rw [e1, e2]
      rw [List.length_cons, List.length_cons] at hlen
      refine wpAny_bind (wpAny_eqBool_str ?_)
      by_cases ez : z = u
      · rw [lexS, if_pos ez] at hl
        rw [decide_eq_true ez]
        wp_walk
        exact ⟨rfl, rfl, vs, ws, zs, us, hr, hv, hw, by omega, hl⟩
      · rw [lexS, if_neg ez] at hl
        rw [decide_eq_false ez]
        have hri : ∀ (Q' : Value → Shared → Prop) (E' : Value → Shared → Prop), Q' (.bool (decide (z.cps.toList < u.cps.toList))) s' → wpAny (model prog w) A (richCompare .Lt (.str z t1) (.str u t2)) Q' E' s' := fun Q' E' h => (lt_str h : wpAny (model prog w) A (compareOp .Lt (.str z t1) (.str u t2)) Q' E' s')
        wp_walk using hri
        exact ⟨_, rfl, by rw [hl]; exact q⟩
    | [], [], _, _, _, _ => rw [List.zip_nil_left] at hz; cases hz
    | _ :: _, _ :: _, [], [], _, _ => rw [List.zip_nil_right] at hz; cases hz
  case fin =>
    rintro ⟨b1, b2⟩ s' ⟨g1, g2, vs, ws, zs, us, hz, hv, hw, hlen, hl⟩
    subst g2
    dsimp only at g1
    subst g1
    have hends : zs = [] ∨ us = [] := by
      match vs, zs, ws, us, hv, hw with
      | [], [], _, _, _, _ => exact .inl rfl
      | _ :: _, _ :: _, [], [], _, _ => exact .inr rfl
      | _ :: _, _ :: _, _ :: _, _ :: _, _, _ => rw [List.zip_cons_cons] at hz; cases hz
    have hv : lexS xs ys = decide (its.size < jts.size) := by
      rw [← hl, lexS_ends hends]
      by_cases h : zs.length < us.length
      · rw [decide_eq_true h, decide_eq_true (by omega)]
      · rw [decide_eq_false h, decide_eq_false (by omega)]
    rw [hv] at q
    wp_walk
    exact ⟨_, rfl, by simpa [Builtin.Tuple.tupleCompareSizes] using q⟩
  case h =>
    exact ⟨rfl, rfl, its.toList, jts.toList, xs, ys, rfl, hx, hy, by omega, rfl⟩
theorem lt_tup_txts {a b : Addr} {its jts : Array Value} {xs ys : List Str} {Q : Value → Shared → Prop} (ha : IsTup s.heap a its) (hb : IsTup s.heap b jts) (hx : TxA its.toList xs) (hy : TxA jts.toList ys) (hu : A.units < cLine) (q : Q (.bool (lexS xs ys)) s) :
    wpAny (model prog w) A (compareOp .Lt (.ref a) (.ref b)) Q E s := by
  have ta : s.TypeIs (.ref a) "tuple" := ha.typeIs
  have tb : s.TypeIs (.ref b) "tuple" := hb.typeIs
  show wpAny _ _ (richCompare .Lt (.ref a) (.ref b)) _ _ _
  refine wpAny_richCompare_same_room ta tb PySem.F.slot_tuple_lt (wpAny_call_entry PySem.F.slot_tuple_lt ta PySem.F.entry_tuple_lt (tup_lt_body ha hb hx hy ?_) (PySem.F.args_tuple_lt_2 _ _)) hu
  exact And.intro (fun z => nomatch z) q
end
end L2.PU

namespace L2.PU
open PySem PySem.Spec PyProof.Rows PySem.W
/-! ### a sort whose comparisons are known -/
noncomputable def runT {α : Type} (lt : Nat → Nat → Bool) : KasT α → α
  | .ret a => a
  | .ask i j k => runT lt (k (lt i j))
/-- all places asked for are below n, what is told keeps R -/
noncomputable def okP {α : Type} (n : Nat) (R : α → Prop) : KasT α → Prop
  | .ret a => R a
  | .ask i j k => i < n ∧ j < n ∧ ∀ b, okP n R (k b)
theorem okP.bind {α β : Type} {n : Nat} {R : α → Prop} {S : β → Prop} {f : α → KasT β} (hf : ∀ a, R a → okP n S (f a)) : ∀ (t : KasT α), okP n R t → okP n S (t.bind f)
  | .ret a, h => hf a h
  | .ask i j k, h => ⟨h.1, h.2.1, fun b => okP.bind hf (k b) (h.2.2 b)⟩
theorem runT_wp {n : Nat} {R : Array Nat → Prop} {lt : Nat → Nat → Bool} {cmp : Nat → Nat → (Bool → Shared → Prop) → Shared → Prop} {Q : Array Nat → Shared → Prop} {s : Shared} (hc : ∀ i j C, i < n → j < n → C (lt i j) s → cmp i j C s) : ∀ (t : KasT (Array Nat)), okP n R t → Q (runT lt t) s → t.kasWp cmp Q s
  | .ret _, _, h => h
  | .ask i j k, o, h => hc i j _ o.1 o.2.1 (runT_wp hc (k (lt i j)) (o.2.2 _) h)
theorem runT_R {α : Type} {n : Nat} {R : α → Prop} {lt : Nat → Nat → Bool} : ∀ (t : KasT α), okP n R t → R (runT lt t)
  | .ret _, o => o
  | .ask i j k, o => runT_R (k (lt i j)) (o.2.2 _)
/-- the places from 0 on, in some order -/
noncomputable def Plc (n : Nat) (p : Array Nat) : Prop := p.toList.Perm (List.range n)
theorem Plc.lt {n : Nat} {p : Array Nat} (h : Plc n p) (hn : 0 < n) (k : Nat) : p.getD k 0 < n := by
  by_cases hk : k < p.size
  · have e : p.getD k 0 = p[k] := by simp [Array.getD, hk]
    rw [e]
    have := (h.mem_iff (a := p[k])).mp (by simp)
    exact List.mem_range.mp this
  · have e : p.getD k 0 = 0 := by simp [Array.getD, hk]
    rw [e]; exact hn
theorem Plc.of {n : Nat} {p p' : Array Nat} (h : Plc n p) (q : p'.Perm p) : Plc n p' := (Array.perm_iff_toList_perm.mp q).trans h
theorem Plc.rev {n : Nat} {p : Array Nat} (h : Plc n p) (i j : Nat) : Plc n (kas_rev p i j) := h.of (mirror_perm _ _ _ _)
theorem ok_asc {n : Nat} {p : Array Nat} (hn : 0 < n) (h : Plc n p) : ∀ f m, okP n (fun _ => True) (kas_asc p f m)
  | 0, _ => trivial
  | f + 1, m => ⟨h.lt hn _, h.lt hn _, fun b => by
    cases b
    · exact ok_asc hn h f (m + 1)
    · exact trivial⟩
theorem ok_desc {n : Nat} (hn : 0 < n) : ∀ f (p : Array Nat) m q, Plc n p → okP n (fun r => Plc n r.1) (kas_desc f p m q)
  | 0, _, _, _, h => h
  | f + 1, p, m, q, h => ⟨h.lt hn _, h.lt hn _, fun b => by
    cases b
    · refine ⟨h.lt hn _, h.lt hn _, fun d => ?_⟩
      cases d
      · exact ok_desc hn f p (m + 1) (q + 1) h
      · exact h
    · show okP n _ (if q > 0 then kas_desc f (kas_rev p (m - (q + 1)) m) (m + 1) 0 else kas_desc f p (m + 1) 0)
      split
      · exact ok_desc hn f _ _ _ (h.rev _ _)
      · exact ok_desc hn f _ _ _ h⟩
theorem ok_tail3 {n : Nat} {p : Array Nat} (hn : 0 < n) (h : Plc n p) (m r : Nat) : okP n (fun x => Plc n x.2) (kas_tail3 m r p) := by
  unfold kas_tail3
  refine okP.bind (R := fun _ => True) (fun a _ => ?_) _ (ok_asc hn (h.rev 0 m) _ _)
  exact h.rev 0 m
theorem ok_descPart {n : Nat} {p : Array Nat} (hn : 0 < n) (h : Plc n p) (m r : Nat) : okP n (fun x => Plc n x.2) (kas_descPart m r p) := by
  refine okP.bind (fun x hx => ?_) _ (ok_desc hn _ _ _ _ h)
  split
  · exact ok_tail3 hn (hx.rev _ _) _ _
  · exact ok_tail3 hn hx _ _
theorem ok_count {n : Nat} {p : Array Nat} (hn : 0 < n) (h : Plc n p) (r : Nat) : okP n (fun x => Plc n x.2) (kas_count r p) := by
  refine okP.bind (fun m _ => ?_) _ (ok_asc hn h _ _)
  split
  · exact h
  · split
    · refine ⟨h.lt hn _, h.lt hn _, fun c => ?_⟩
      cases c
      · exact ok_descPart hn (h.rev _ _) _ _
      · exact h
    · exact ok_descPart hn h _ _
theorem ok_place {n : Nat} {p : Array Nat} (hn : 0 < n) (h : Plc n p) (k : Nat) : ∀ f l r, okP n (fun _ => True) (kas_place p k f l r)
  | 0, _, _ => trivial
  | f + 1, l, r => by
    unfold kas_place
    split
    · exact trivial
    · refine ⟨h.lt hn _, h.lt hn _, fun c => ?_⟩
      cases c
      · exact ok_place hn h k f _ _
      · exact ok_place hn h k f _ _
theorem ok_bin {n : Nat} (hn : 0 < n) : ∀ f (p : Array Nat) k, Plc n p → okP n (Plc n) (kas_bin f p k)
  | 0, _, _, h => h
  | f + 1, p, k, h => okP.bind (fun l _ => ok_bin hn f _ _ (h.of (bubble_perm _ _ _))) _ (ok_place hn h k _ _ _)
theorem ok_sort {n : Nat} (hn : 0 < n) : okP n (Plc n) (kas_sort n) := by
  refine okP.bind (fun x hx => ?_) _ (ok_count hn (p := List.toArray (List.range n)) (List.Perm.refl _) _)
  split
  · exact ok_bin hn _ _ _ hx
  · exact hx
noncomputable def outT (lt : Nat → Nat → Bool) (n : Nat) : List Nat := if n < 2 then List.range n else (runT lt (kas_sort n)).toList
theorem outT_perm (lt : Nat → Nat → Bool) (n : Nat) : (outT lt n).Perm (List.range n) := by
  unfold outT
  split
  · exact List.Perm.refl _
  · exact runT_R _ (ok_sort (by omega))
section
variable {prog : Program} {w : World} {A : Around} {E : Value → Shared → Prop} {s : Shared}
theorem sort_T {a : Addr} {vs : List Value} {n : Nat} {lt : Nat → Nat → Bool} {P : PySem.Fin → Shared → Prop} (ho : s.heap.get? a = some (seqObj "list" vs.toArray n)) (h64 : vs.length < 64)
    (hc : 2 ≤ vs.length → ∀ s' : Shared, (∀ b o, b ≠ a → s.heap.get? b = some o → s'.heap.get? b = some o) → wpAny (model prog w) A (keyKind' vs.toArray) (fun κ s'' => s'' = s' ∧ ∀ i j C, i < vs.length → j < vs.length → C (lt i j) s' → kas_ask prog w A κ vs i j C s') (fun _ _ => False) s')
    (h : P (.done (.ret .none)) { s with heap := sortedHeap s.heap a vs ((outT lt vs.length).map fun i => vs.getD i Value.none).toArray }) :
    wpAny (model prog w) A (Builtin.«list.sort» ⟨[.ref a], []⟩) P E s := by
  rw [list_sort_plain]
  have ha : a < s.heap.objs.size := Heap.lt_size ho
  refine wpAny_bind (listItems_at ho rfl ?_)
  refine wpAny_bind (listUpdate_at ho rfl ?_)
  obtain ⟨e1, ho1⟩ : ∃ e1, (s.heap.update a (Obj.mapSeq fun _ => #[])).get? a = some (seqObj "list" #[] e1) := ⟨_, get?_update_seq ho (fun _ => #[])⟩
  refine wpAny_bind (seqEpoch_at ho1 rfl ?_)
  refine wpAny_bind (wpAny_newTuple ?_)
  refine wpAny_bind (wpAny_newList ?_)
  refine wpAny_holding ?_
  have hk6 : ∀ b o, b ≠ a → s.heap.get? b = some o → (((s.heap.update a (Obj.mapSeq fun _ => #[])).push (seqObj "tuple" vs.toArray 0)).push (seqObj "list" #[] 0)).get? b = some o := fun b o nb e => Heap.get?_push_of_some _ (Heap.get?_push_of_some _ ((Heap.get?_update_other _ _ (Ne.symm nb)).trans e))
  have ho6 : (((s.heap.update a (Obj.mapSeq fun _ => #[])).push (seqObj "tuple" vs.toArray 0)).push (seqObj "list" #[] 0)).get? a = some (seqObj "list" #[] e1) := Heap.get?_push_of_some _ (Heap.get?_push_of_some _ ho1)
  show wpAny (model prog w) A _ P E { s with heap := ((s.heap.update a (Obj.mapSeq fun _ => #[])).push (seqObj "tuple" vs.toArray 0)).push (seqObj "list" #[] 0) }
  dsimp only
  have hsz : vs.toArray.size = vs.length := by simp
  by_cases h2 : vs.toArray.size < 2
  · rw [if_pos h2, if_pos h2]
    refine wpAny_bind (wpAny_pure ?_)
    rw [StateT.run_pure]
    refine wpAny_bind (wpAny_pure ?_)
    dsimp only
    refine wpAny_bind (seqEpoch_at ho6 rfl ?_)
    refine wpAny_bind (listUpdate_at ho6 rfl ?_ (hsz2 := by rw [Array.size_map]; show (pairsOf vs).size ≤ _; rw [pairsOf_size, sizeLine_eq]; omega))
    simp only [bne_self_eq_false, Bool.false_eq_true, if_false]
    refine wpAny_pure ?_
    have eo : ((outT lt vs.length).map fun i => vs.getD i Value.none).toArray = Array.map (fun x => x.2) (arrOf (SortSt.mk' general' (vs.toArray.zip vs.toArray) #[] 7 none)) := by
      unfold outT
      rw [if_pos (by rw [hsz] at h2; exact h2)]
      have hl : vs.length < 2 := by rw [hsz] at h2; exact h2
      show _ = Array.map (fun x => x.2) (vs.toArray.zip vs.toArray)
      apply Array.ext
      · simp
      · intro i h1 h3
        simp at h1
        simp [h1]
    rw [eo] at h
    exact h
  · rw [if_neg h2, if_neg h2]
    have h2' : 2 ≤ vs.length := by rw [hsz] at h2; omega
    refine wpAny_bind (wpAny_mono (hc h2' { s with heap := ((s.heap.update a (Obj.mapSeq fun _ => #[])).push (seqObj "tuple" vs.toArray 0)).push (seqObj "list" #[] 0) } hk6) (fun κ s0 hs0 => ?_) fun _ _ x => x.elim)
    obtain ⟨e0, ask⟩ := hs0
    subst e0
    refine wpAny_bind (wpAny_mono (kat_run (ks := vs) (vs := vs) (κ := κ) (G := fun p s' => p = runT lt (kas_sort vs.length) ∧ s' = { s with heap := ((s.heap.update a (Obj.mapSeq fun _ => #[])).push (seqObj "tuple" vs.toArray 0)).push (seqObj "list" #[] 0) })
      (Q := fun st' s' => s' = { s with heap := ((s.heap.update a (Obj.mapSeq fun _ => #[])).push (seqObj "tuple" vs.toArray 0)).push (seqObj "list" #[] 0) } ∧ failedOf st' = none ∧ (runT lt (kas_sort vs.length)).size = vs.length ∧ arrOf st' = (runT lt (kas_sort vs.length)).map (kas_item (vs.toArray.zip vs.toArray)))
      rfl h2' h64 (fun p st' s' a1 a2 a3 a4 => ⟨a4.2, a3, by rw [← a4.1]; exact a1, by rw [← a4.1]; exact a2⟩) (runT_wp ask _ (ok_sort (by omega)) ⟨rfl, rfl⟩)) ?_ fun _ _ e => e)
    rintro ⟨⟨⟩, st'⟩ s' ⟨rfl, hf, hp, har⟩
    dsimp only
    have hout := kat_snds (ks := vs) (vs := vs) rfl har
    rw [hout]
    refine wpAny_bind (seqEpoch_at ho6 rfl ?_)
    refine wpAny_bind (listUpdate_at ho6 rfl ?_ (hsz2 := by rw [List.size_toArray, List.length_map, Array.length_toList, hp, sizeLine_eq]; omega))
    rw [hf]
    simp only [bne_self_eq_false, Bool.false_eq_true, if_false]
    refine wpAny_pure ?_
    unfold outT at h
    rw [if_neg (by omega)] at h
    exact h
end
end L2.PU

namespace L2.PU
open PySem PySem.Spec PyProof.Rows PySem.W
/-! ### sorted(d.items()): keys tuples of texts, values ints -/
noncomputable def ltI (p q : List Str × Int) : Bool := if p.1 = q.1 then (if p.2 = q.2 then false else decide (p.2 < q.2)) else lexS p.1 q.1
noncomputable abbrev ixP (l : List (List Str × Int)) (i : Nat) : List Str × Int := l.getD i ([], 0)
noncomputable def ordI (l : List (List Str × Int)) : List Nat := outT (fun i j => ltI (ixP l i) (ixP l j)) l.length
section
variable {prog : Program} {w : World} {A : Around} {E : Value → Shared → Prop} {s : Shared}
theorem tx_of : ∀ {xs : List Str} {vs : List Value}, ItemsAre (mixKind prog w) (xs.map .inr) vs → TxA vs xs
  | [], _, .nil => trivial
  | x :: xs, _, .cons (v := v) h r => by
    refine ⟨?_, tx_of r⟩
    rcases keyIs_shape (show keyIs (Sum.inr x) v = true from h) with ⟨i, u, e, _⟩ | ⟨y, u, e, ev⟩
    · cases e
    · cases e; exact ⟨u, ev⟩
theorem tup_of {h : Heap} {xs : List Str} {a : Addr} (k : IsTupleKey (mixKind prog w) h (xs.map .inr) a) : ∃ its, IsTup h a its ∧ TxA its.toList xs := by
  obtain ⟨o, items, n, h1, h2, h3, h4⟩ := k
  exact ⟨items, ⟨o, h1, h2, n, h3⟩, tx_of h4⟩
theorem inr_inj {xs ys : List Str} : (xs.map (Sum.inr : Str → Key) = ys.map .inr) ↔ xs = ys :=
  ⟨fun h => by
    have := congrArg (List.map fun k : Key => match k with | .inr x => x | .inl _ => Str.empty) h
    simpa [List.map_map, Function.comp_def] using this, fun h => by rw [h]⟩
/-- what stands at the j-th pair -/
noncomputable def PairAt (prog : Program) (w : World) (h : Heap) (a : Addr) (p : List Str × Int) : Prop := ∃ ka t, h.get? a = some { cls := .type "tuple", data := .seq #[.ref ka, .int p.2 t] } ∧ IsTupleKey (mixKind prog w) h (p.1.map .inr) ka
theorem ask_pairs {a b : Addr} {p q : List Str × Int} {C : Bool → Shared → Prop} (hu : A.units < cLine) (ha : PairAt prog w s.heap a p) (hb : PairAt prog w s.heap b q) (h : C (ltI p q) s) : wpAny (model prog w) A (keyLt' (tuples' false) (.ref a) (.ref b)) C E s := by
  obtain ⟨ka, t, h1, k1⟩ := ha
  obtain ⟨kb, u, h2, k2⟩ := hb
  refine kat_lt h1 rfl h2 rfl ?_
  refine kat_cons (p := .ref ka) (q := .ref kb) (wpAny_eqBool_tuple hu k1 k2 ?_)
  unfold ltI at h
  by_cases e : p.1 = q.1
  · rw [if_pos e] at h
    rw [decide_eq_true (inr_inj.mpr e)]
    refine kat_yes (kat_cons (p := .int p.2 t) (q := .int q.2 u) (wpAny_eqBool_int ?_))
    by_cases e2 : p.2 = q.2
    · rw [if_pos e2] at h
      rw [show (p.2 == q.2) = true by simpa using e2]
      exact kat_yes (kat_nil h)
    · rw [if_neg e2] at h
      rw [show (p.2 == q.2) = false by simpa using e2]
      exact kat_no (kat_one _ _ (lt_int (show W.BoolBack C (.bool _) s from h)))
  · rw [if_neg e] at h
    rw [decide_eq_false (fun z => e (inr_inj.mp z))]
    obtain ⟨its, t1, x1⟩ := tup_of k1
    obtain ⟨jts, t2, x2⟩ := tup_of k2
    exact kat_no (kat_one _ _ (lt_tup_txts t1 t2 x1 x2 hu (show W.BoolBack C (.bool _) s from h)))
theorem firsts {h : Heap} : ∀ (as : List Addr), (∀ a ∈ as, ∃ p, PairAt prog w h a p) → ∃ fs, KatTups h (as.map Value.ref) fs ∧ fs.length = as.length ∧ ∀ v ∈ fs, ∃ ka o, v = Value.ref ka ∧ h.get? ka = some o ∧ o.cls = .type "tuple"
  | [], _ => ⟨[], trivial, rfl, fun v hv => by simp at hv⟩
  | a :: as, hp => by
    obtain ⟨fs, h1, h2, h3⟩ := firsts as fun b hb => hp b (List.mem_cons_of_mem _ hb)
    obtain ⟨p, ka, t, g1, o, items, n, g2, g3, g4⟩ := hp a List.mem_cons_self
    refine ⟨.ref ka :: fs, ⟨⟨a, _, _, _, rfl, g1, rfl, rfl, rfl⟩, h1⟩, by rw [List.length_cons, List.length_cons, h2], fun v hv => ?_⟩
    rcases List.mem_cons.mp hv with e | e
    · exact ⟨ka, o, e, g2, g3⟩
    · exact h3 v e
theorem sorted_items {r d : Addr} {ep : Nat} {od : Obj} {es : Array DictEntry} {l : List (List Str × Int)} {Q : Value → Shared → Prop} (hh : A.handled = none) (hu : A.units + 64 < cLine) (hv : s.heap.IsItemsView r d) (hod : s.heap.get? d = some od) (hdd : od.data = .dict es ep) (h3 : l.length < 64) (hl : l.length = es.size)
    (hk : ∀ (j : Nat) (e : DictEntry), es[j]? = some e → ∃ ka t, e.key = .ref ka ∧ e.val = .int (ixP l j).2 t ∧ IsTupleKey (mixKind prog w) s.heap ((ixP l j).1.map .inr) ka)
    (q : ∀ h' tk lst m (as : List Addr), (∀ b o, s.heap.get? b = some o → h'.get? b = some o) → as.length = l.length → as.Nodup → (∀ (j : Nat) (a : Addr), as[j]? = some a → s.heap.objs.size ≤ a ∧ ∃ e : DictEntry, es[j]? = some e ∧ h'.get? a = some { cls := .type "tuple", data := .seq #[e.key, e.val] }) → s.heap.objs.size ≤ lst → lst ∉ as →
      h'.get? lst = some { cls := .type "list", data := .seq ((ordI l).map fun i => (as.map Value.ref).getD i Value.none).toArray m } → Q (.ref lst) { s with heap := h', toks := tk }) :
    wpAny (model prog w) A (call (.builtin "sorted") [.ref r]) Q E s := by
  refine Calls.call_function_entry kind_sorted plain_sorted entry_sorted (args_sorted1 _) ?_
  unfold Builtin.«sorted»
  refine wpAny_bind (m := checkCount "sorted" 1 1 _) (wpAny_pure ?_)
  refine wpAny_bind (collect_items (A := A.in1) (by simp [hh]) hv hod hdd (by rw [← hl, sizeLine_eq]; omega) fun h1 tk as hkp hal hG hnd le0 => ?_)
  refine wpAny_bind (wpAny_newList ?_)
  have hoL : (h1.push (seqObj "list" (as.map Value.ref).toArray 0)).get? h1.objs.size = some (seqObj "list" (as.map Value.ref).toArray 0) := Heap.get?_push_size _ rfl
  show wpAny _ _ _ _ _ { s with heap := h1.push (seqObj "list" (as.map Value.ref).toArray 0), toks := tk }
  have al : as.length = l.length := by rw [hal, hl]
  have vl : (as.map Value.ref).length = l.length := by rw [List.length_map, al]
  have nas : ∀ a ∈ as, a ≠ h1.objs.size := fun a ha => by
    obtain ⟨j, hj⟩ := List.mem_iff_getElem?.mp ha
    obtain ⟨_, e, _, g⟩ := hG j a hj
    exact Nat.ne_of_lt (Heap.lt_size g)
  have prs : ∀ (s' : Shared), (∀ b o, b ≠ h1.objs.size → (h1.push (seqObj "list" (as.map Value.ref).toArray 0)).get? b = some o → s'.heap.get? b = some o) → ∀ (j : Nat) (a : Addr), as[j]? = some a → PairAt prog w s'.heap a (ixP l j) := fun s' kp j a hj => by
    obtain ⟨_, e, e1, e2⟩ := hG j a hj
    obtain ⟨ka, t, k1, k2, o, items, n, g1, g2, g3, g4⟩ := hk j e e1
    rw [k1, k2] at e2
    refine ⟨ka, t, kp a _ (nas a (List.mem_of_getElem? hj)) (Heap.get?_push_of_some _ e2), o, items, n, ?_, g2, g3, g4⟩
    have g5 := hkp _ _ g1
    exact kp ka _ (Nat.ne_of_lt (Heap.lt_size g5)) (Heap.get?_push_of_some _ g5)
  refine wpAny_bind (wpAny_holding (wpAny_call_entry slot_list_sort ⟨_, hoL, rfl⟩ entry_list_sort (sort_T (lt := fun i j => ltI (ixP l i) (ixP l j)) hoL (by rw [vl]; omega) (fun h2 s' kp => ?_) ⟨_, rfl, ?_⟩) (args_list_sort _)))
  · have P := prs s' kp
    obtain ⟨fs, t1, t2, t3⟩ := firsts as (fun a ha => by obtain ⟨j, hj⟩ := List.mem_iff_getElem?.mp ha; exact ⟨_, P j a hj⟩)
    rw [vl] at h2
    refine kat_kind (M := model prog w) (T := .type "tuple") t1 (by rw [t2, al]; omega) (fun v hv => ?_) rfl ⟨rfl, fun i j C hi hj hC => ?_⟩
    · obtain ⟨ka, o, rfl, g1, g2⟩ := t3 v hv
      exact g2 ▸ (show Looks (model prog w) _ (typeOf (.ref ka)) o.cls from (Looks.ld g1).andThen .now)
    · rw [vl, ← al] at hi hj
      have ei : (as.map Value.ref).getD i Value.none = .ref as[i] := by rw [List.getD_eq_getElem?_getD, List.getElem?_map, List.getElem?_eq_getElem hi]; rfl
      have ej : (as.map Value.ref).getD j Value.none = .ref as[j] := by rw [List.getD_eq_getElem?_getD, List.getElem?_map, List.getElem?_eq_getElem hj]; rfl
      unfold kas_ask
      rw [ei, ej]
      exact ask_pairs (by simp; omega) (P i _ (List.getElem?_eq_getElem hi)) (P j _ (List.getElem?_eq_getElem hj)) hC
  · refine wpAny_pure ⟨_, rfl, ?_⟩
    rw [vl]
    have k1 := get?_update_seq hoL (fun _ => #[])
    have k2 := get?_update_seq (Heap.get?_push_of_some (seqObj "list" #[] 0) (Heap.get?_push_of_some (seqObj "tuple" (as.map Value.ref).toArray 0) k1)) (fun _ => ((ordI l).map fun i => (as.map Value.ref).getD i Value.none).toArray)
    have keep : ∀ b o, b ≠ h1.objs.size → h1.get? b = some o → (sortedHeap (h1.push (seqObj "list" (as.map Value.ref).toArray 0)) h1.objs.size (as.map Value.ref) ((ordI l).map fun i => (as.map Value.ref).getD i Value.none).toArray).get? b = some o := fun b o nb e => by
      unfold sortedHeap
      rw [Heap.get?_update_other _ _ (Ne.symm nb)]
      refine Heap.get?_push_of_some _ (Heap.get?_push_of_some _ ?_)
      rw [Heap.get?_update_other _ _ (Ne.symm nb)]
      exact Heap.get?_push_of_some _ e
    have le1 : s.heap.objs.size ≤ h1.objs.size := Nat.le_of_lt le0
    refine q _ tk h1.objs.size _ as (fun b o e => keep b o (Nat.ne_of_lt (Heap.lt_size (hkp b o e))) (hkp b o e)) al hnd (fun j a hj => ?_) le1 (fun h => nas _ h rfl) k2
    obtain ⟨g1, e, e1, e2⟩ := hG j a hj
    exact ⟨Nat.le_of_lt g1, e, e1, keep a _ (nas a (List.mem_of_getElem? hj)) e2⟩
end
end L2.PU

namespace L2.PU
open PySem PySem.Spec PyProof.Rows
/-! ### dicts of one's own -/
section
variable {K : PySem.W.Frag} {H₀ H : Hp} {ρ : Rho} {σ : St}
theorem Rel.ow_new {i : Nat} {a : Addr} {o : DO} {w : HO} (r : Rel K H₀ ρ σ H) (hf : H a = none) (iv : ∀ H', Same H H' → IsO K H' o w) (hI : ∀ O : Nat → Option Addr, OwnK (upd H a w) O → IsO K (Off (upd H a w) O) o w) : Rel K H₀ (ρ.set i (some (.ow o))) (σ.set i (some (.ref a))) (upd H a w) := by
  obtain ⟨O, h1, ho, h2, hl, h3⟩ := r
  have mu : mutO w = true := (iv H (Same.refl H)).mut
  have na : ∀ j b, O j = some b → b ≠ a := fun j b q e => by
    subst e
    obtain ⟨u, z, m⟩ := ho j b q; rw [z] at hf; cases hf
  let O' : Nat → Option Addr := fun j => if j = i then some a else O j
  have Oi : O' i = some a := if_pos rfl
  have On : ∀ j, j ≠ i → O' j = O j := fun j e => if_neg e
  have hO' : OwnK (upd H a w) O' := fun j b q => by
    by_cases e : j = i
    · subst e
      rw [Oi] at q
      cases q
      exact ⟨_, upd_same, mu⟩
    · rw [On j e] at q
      have nb := na j b q
      obtain ⟨u, z, m⟩ := ho j b q
      exact ⟨u, by rw [upd_ne nb]; exact z, m⟩
  have sm : Same (Off H O) (Off (upd H a w) O') := fun b o q => by
    have qh := Off.same H O b o q
    have nb : b ≠ a := fun e => by subst e; rw [hf] at qh; cases qh
    refine Off.of (by rw [upd_ne nb]; exact qh) fun j z => ?_
    by_cases e : j = i
    · subst e
      rw [Oi] at z
      cases z
      exact nb rfl
    · rw [On j e] at z
      exact Off.not q j z
  refine ⟨O', fun j k b q1 q2 => ?_, hO', h2.trans sm, by rw [List.length_set, List.length_set, hl], fun j sv q => ?_⟩
  · by_cases e1 : j = i
    · by_cases e2 : k = i
      · rw [e1, e2]
      · subst e1
        rw [Oi] at q1
        cases q1
        rw [On k e2] at q2
        exact absurd rfl (na k _ q2)
    · by_cases e2 : k = i
      · subst e2
        rw [Oi] at q2
        cases q2
        rw [On j e1] at q1
        exact absurd rfl (na j _ q1)
      · rw [On j e1] at q1
        rw [On k e2] at q2
        exact h1 j k b q1 q2
  · by_cases e : j = i
    · subst e
      have hj : j < ρ.length := by
        have := (List.getElem?_eq_some_iff.mp q).1
        rwa [List.length_set] at this
      rw [List.getElem?_set_self hj] at q
      have q' := Option.some.inj (Option.some.inj q)
      subst q'
      exact ⟨a, w, Oi, List.getElem?_set_self (by rw [← hl]; exact hj), upd_same, hI O' hO'⟩
    · rw [List.getElem?_set_ne (Ne.symm e)] at q
      have z := h3 j sv q
      cases sv with
      | sh d' => obtain ⟨v', e1, e2⟩ := z; exact ⟨v', by rw [List.getElem?_set_ne (Ne.symm e)]; exact e1, e2.mono sm⟩
      | own ds' =>
        obtain ⟨b, ws, e1, e2, e3, e4⟩ := z
        exact ⟨b, ws, by rw [On j e]; exact e1, by rw [List.getElem?_set_ne (Ne.symm e)]; exact e2, by rw [upd_ne (na j b e1)]; exact e3, e4.mono sm⟩
      | oin b C dx fs =>
        obtain ⟨e1, e2, e3, ws, e4, e5⟩ := z
        exact ⟨by rw [On j e]; exact e1, by rw [List.getElem?_set_ne (Ne.symm e)]; exact e2, e3, ws, by rw [upd_ne (na j b e1)]; exact e4, e5.mono sm⟩
      | ow o' =>
        obtain ⟨b, u, e1, e2, e3, e4⟩ := z
        exact ⟨b, u, by rw [On j e]; exact e1, by rw [List.getElem?_set_ne (Ne.symm e)]; exact e2, by rw [upd_ne (na j b e1)]; exact e3, e4.mono sm⟩
      | tk ks => obtain ⟨b, e1, e2⟩ := z; exact ⟨b, by rw [List.getElem?_set_ne (Ne.symm e)]; exact e1, sm _ _ e2⟩
theorem Rel.ow_put {i : Nat} {a : Addr} {o o' : DO} {w' : HO} (O : Nat → Option Addr) (h1 : ∀ i j a, O i = some a → O j = some a → i = j) (ho : OwnK H O) (h2 : Same H₀ (Off H O)) (hl : ρ.length = σ.length)
    (h3 : ∀ i sv, ρ[i]? = some (some sv) → Slot K H O σ i sv) (q : ρ[i]? = some (some (.ow o))) (z1 : O i = some a) (z2 : σ[i]? = some (some (.ref a))) (iv : IsO K (Off H O) o' w') : Rel K H₀ (ρ.set i (some (.ow o'))) σ (upd H a w') := by
  have eo : Off (upd H a w') O = Off H O := Off.upd z1
  refine ⟨O, h1, fun j b qj => ?_, by rw [eo]; exact h2, by rw [List.length_set, hl], fun j sv qj => ?_⟩
  · by_cases e : b = a
    · subst e; exact ⟨_, upd_same, iv.mut⟩
    · obtain ⟨u, w, m⟩ := ho j b qj
      exact ⟨u, by rw [upd_ne e]; exact w, m⟩
  · by_cases e : j = i
    · subst e
      have hj : j < ρ.length := (List.getElem?_eq_some_iff.mp q).1
      rw [List.getElem?_set_self hj] at qj
      have q' := Option.some.inj (Option.some.inj qj)
      subst q'
      exact ⟨a, w', z1, z2, upd_same, by rw [eo]; exact iv⟩
    · rw [List.getElem?_set_ne (Ne.symm e)] at qj
      have z := h3 j sv qj
      cases sv with
      | sh d' => obtain ⟨v', e1, e2⟩ := z; exact ⟨v', e1, by rw [eo]; exact e2⟩
      | own es =>
        obtain ⟨b, ws, e1, e2, e3, e4⟩ := z
        have nb : b ≠ a := fun w => e (h1 j i a (by rw [← w]; exact e1) z1)
        exact ⟨b, ws, e1, e2, by rw [upd_ne nb]; exact e3, by rw [eo]; exact e4⟩
      | oin b C' dx' fs' =>
        obtain ⟨e1, e2, e3, ws, e4, e5⟩ := z
        have nb : b ≠ a := fun w => e (h1 j i a (by rw [← w]; exact e1) z1)
        exact ⟨e1, e2, e3, ws, by rw [upd_ne nb]; exact e4, by rw [eo]; exact e5⟩
      | ow o'' =>
        obtain ⟨b, u, e1, e2, e3, e4⟩ := z
        have nb : b ≠ a := fun w => e (h1 j i a (by rw [← w]; exact e1) z1)
        exact ⟨b, u, e1, e2, by rw [upd_ne nb]; exact e3, by rw [eo]; exact e4⟩
      | tk ks => obtain ⟨b, e1, e2⟩ := z; exact ⟨b, e1, by rw [eo]; exact e2⟩
end
/-- the keys that data are -/
noncomputable def keyOf : D → Option Key
  | .int i => some (.inl i)
  | .str x => some (.inr x)
  | _ => none
noncomputable def keysOf : List D → Option (List Key)
  | [] => some []
  | d :: ds => match keyOf d, keysOf ds with | some k, some ks => some (k :: ks) | _, _ => none
theorem keyOf_V {K : PySem.W.Frag} {H : Hp} {d : D} {v : V} {k : Key} (i : Is K H d v) (h : keyOf d = some k) : v = kV k := by
  cases i <;> first | (cases h; done) | (cases h; rfl)
theorem keysOf_V {K : PySem.W.Frag} {H : Hp} : ∀ {ds : List D} {vs : List V} {ks : List Key}, IsL K H ds vs → keysOf ds = some ks → vs = ks.map kV
  | _, _, _, .nil, h => by cases h; rfl
  | _, _, _, .cons i r, h => by
    unfold keysOf at h
    split at h
    · rename_i k ks h1 h2
      cases h
      rw [keyOf_V i h1, keysOf_V r h2]
      rfl
    · cases h
theorem keysOf_strs (xs : List Str) : keysOf (xs.map D.str) = some (xs.map .inr) := by
  induction xs with
  | nil => rfl
  | cons x xs ih => rw [List.map_cons, keysOf, ih]; rfl
section
variable {X : Cx} {B : Hp} {e : Expr} {fa : Rho → M D} {pos pos' p pos2 : Pos} {x : Str} {i j : Nat}
/-- x = {}, a dict by tuples -/
noncomputable def sNewT (i : Nat) : Rho → Option Out := fun ρ => some (.nx (ρ.set i (some (.ow (.t [])))))
theorem pds_newT (hN : X.N.Nodup) (hi : X.N[i]? = some x) (hx : Loc X.env.scope x) (hs : swapsWith (.Dict [] [] p) (some (.Name x pos')) pos.line X.env = pure false := by rfl) (hf : X.fn x = true ∨ X.env.scope.names.lookup x = some .local := by first | exact .inl rfl | exact .inr rfl | assumption) :
    PDS X B (.Assign [.Name x pos'] (.Dict [] [] p) pos) (sNewT i) := by
  refine PS.of (ps_set hN hi hx pe_dnewT hs hf) fun E σ H h => ?_
  obtain ⟨ρ, r, h⟩ := h
  intro l hl
  exact h _ _ (r.ow_new (o := .t []) hl (fun _ _ => IsT.nil) (fun _ _ => IsT.nil))
end
end L2.PU

namespace L2.PU
open PySem PySem.Spec PyProof.Rows
/-! ### a dict of one's own by tuples: get, store -/
section
variable {κ : Type} [DecidableEq κ]
noncomputable def valD (kvs : List (κ × D)) (k : κ) : Option D := (kvs.find? fun kv => decide (kv.1 = k)).map (·.2)
noncomputable def putT (kvs : List (κ × D)) (k : κ) (d : D) : List (κ × D) :=
  if (kvs.any fun kv => decide (kv.1 = k)) = true then kvs.map (fun kv => if kv.1 = k then (kv.1, d) else kv) else kvs ++ [(k, d)]
end
section
variable {K : PySem.W.Frag} {H : Hp}
theorem isT_length : ∀ {kvs : List (List Key × D)} {vs : List (List Key × V)}, IsT K H kvs vs → kvs.length = vs.length
  | _, _, .nil => rfl
  | _, _, .cons _ r => by rw [List.length_cons, List.length_cons, isT_length r]
theorem isT_val {k : List Key} : ∀ {kvs : List (List Key × D)} {vs : List (List Key × V)}, IsT K H kvs vs → (valD kvs k = none ∧ valV vs k = none) ∨ ∃ d v, valD kvs k = some d ∧ valV vs k = some v ∧ Is K H d v
  | _, _, .nil => .inl ⟨rfl, rfl⟩
  | _, _, .cons (x := x) (d := d) (v := v) i r => by
    by_cases e : x = k
    · exact .inr ⟨d, v, by simp [valD, e], by simp [valV, e], i⟩
    · have h1 : ∀ ds, valD ((x, d) :: ds) k = valD ds k := fun ds => by simp [valD, List.find?_cons, e]
      have h2 : ∀ ds, valV ((x, v) :: ds) k = valV ds k := fun ds => by simp [valV, List.find?_cons, e]
      rw [h1, h2]
      exact isT_val r
theorem isT_any {k : List Key} : ∀ {kvs : List (List Key × D)} {vs : List (List Key × V)}, IsT K H kvs vs → (kvs.any fun kv => decide (kv.1 = k)) = (vs.any fun kv => decide (kv.1 = k))
  | _, _, .nil => rfl
  | _, _, .cons _ r => by rw [List.any_cons, List.any_cons, isT_any r]
theorem isT_map {k : List Key} {d : D} {v : V} (i : Is K H d v) : ∀ {kvs : List (List Key × D)} {vs : List (List Key × V)}, IsT K H kvs vs → IsT K H (kvs.map fun kv => if kv.1 = k then (kv.1, d) else kv) (vs.map fun kv => if kv.1 = k then (kv.1, v) else kv)
  | _, _, .nil => .nil
  | _, _, .cons (x := x) i' r => by
    rw [List.map_cons, List.map_cons]
    by_cases e : x = k
    · rw [if_pos e, if_pos e]; exact .cons i (isT_map i r)
    · rw [if_neg e, if_neg e]; exact .cons i' (isT_map i r)
theorem isT_snoc {k : List Key} {d : D} {v : V} (i : Is K H d v) : ∀ {kvs : List (List Key × D)} {vs : List (List Key × V)}, IsT K H kvs vs → IsT K H (kvs ++ [(k, d)]) (vs ++ [(k, v)])
  | _, _, .nil => .cons i .nil
  | _, _, .cons i' r => .cons i' (isT_snoc i r)
theorem isT_put {k : List Key} {d : D} {v : V} (i : Is K H d v) {kvs : List (List Key × D)} {vs : List (List Key × V)} (r : IsT K H kvs vs) : IsT K H (putT kvs k d) (putK vs k v) := by
  unfold putT putK
  rw [isT_any (k := k) r]
  split
  · exact isT_map i r
  · exact isT_snoc i r
end
section
variable {X : Cx} {B : Hp} {e : Expr} {fa : Rho → M D} {pos pos' p p2 tpos cpos apos : Pos} {x y : Str} {i j : Nat}
/-- the key that a slot holds -/
noncomputable def keyAt (ρ : Rho) (j : Nat) : Option (List Key) := match ρ[j]? with
  | some (some (.tk ks)) => some ks
  | some (some (.sh (.tup ds))) => keysOf ds
  | _ => none
theorem Rel.key {K : PySem.W.Frag} {B H : Hp} {ρ : Rho} {σ : St} {ks : List Key} (r : Rel K B ρ σ H) (qj : keyAt ρ j = some ks) : ∃ b, σ[j]? = some (some (.ref b)) ∧ H b = some (.tup (ks.map kV)) := by
  obtain ⟨O, h1, ho, h2, hl, h3⟩ := r
  unfold keyAt at qj
  split at qj
  · rename_i ks' q
    cases qj
    obtain ⟨b, y1, y2⟩ := (show Slot K H O σ j (.tk ks) from h3 j _ q)
    exact ⟨b, y1, Off.same _ _ _ _ y2⟩
  · rename_i ds q
    obtain ⟨v, y1, y2⟩ := (show Slot K H O σ j (.sh (.tup ds)) from h3 j _ q)
    cases y2 with
    | tup hh rr =>
      have ev := keysOf_V rr qj
      subst ev
      exact ⟨_, y1, Off.same _ _ _ _ hh⟩
  · cases qj
/-- x.get(k, e) -/
noncomputable def dGet2 (i j : Nat) (f : Rho → M D) : Rho → M D := fun ρ => match ρ[i]?, keyAt ρ j with
  | some (some (.ow (.t kvs))), some ks => bnd (f ρ) fun d => ok ((valD kvs ks).getD d)
  | _, _ => none
theorem Rel.two {K : PySem.W.Frag} {B H : Hp} {ρ : Rho} {σ : St} {kvs : List (List Key × D)} {ks : List Key} (r : Rel K B ρ σ H) (qi : ρ[i]? = some (some (.ow (.t kvs)))) (qj : keyAt ρ j = some ks) :
    ∃ (O : Nat → Option Addr) (a b : Addr) (vs : List (List Key × V)), (∀ i j a, O i = some a → O j = some a → i = j) ∧ OwnK H O ∧ Same B (Off H O) ∧ ρ.length = σ.length ∧ (∀ i sv, ρ[i]? = some (some sv) → Slot K H O σ i sv) ∧
      O i = some a ∧ σ[i]? = some (some (.ref a)) ∧ H a = some (.dT vs) ∧ IsT K (Off H O) kvs vs ∧ σ[j]? = some (some (.ref b)) ∧ H b = some (.tup (ks.map kV)) := by
  obtain ⟨b, y1, y2⟩ := r.key qj
  obtain ⟨O, h1, ho, h2, hl, h3⟩ := r
  obtain ⟨a, w, z1, z2, z3, z4⟩ := (show Slot K H O σ i (.ow (.t kvs)) from h3 i _ qi)
  cases w <;> first | exact False.elim z4 | skip
  exact ⟨O, a, b, _, h1, ho, h2, hl, h3, z1, z2, z3, z4, y1, y2⟩
theorem pd_get2T {k : Nat} (hr : Room k X.A) (i j : Nat) {x y : Str} (he : PD X B e fa) (hst : nostar e = true := by rfl) (hN : X.N[i]? = some x := by rfl) (hv : Vis X.env.scope x := by first | exact Or.inl rfl | exact Or.inr (Or.inl rfl) | exact Or.inr (Or.inr rfl)) (hN2 : X.N[j]? = some y := by rfl) (hv2 : Vis X.env.scope y := by first | exact Or.inl rfl | exact Or.inr (Or.inl rfl) | exact Or.inr (Or.inr rfl))
    (hd : (x == ("__debug__" : Str)) = false := by decide) (hcd : (x == ("__classdict__" : Str)) = false := by decide) (hd2 : (y == ("__debug__" : Str)) = false := by decide) (hcd2 : (y == ("__classdict__" : Str)) = false := by decide)
    (hline : (apos.endLine == cpos.line) = true := by rfl) (hfew : ((backTo cpos (starEach [.Name y p2, e] X.env)).all (fun x => !x.1) && (backToKw cpos (keywordEach [] X.env)).all (fun x => x.1.isSome)
    && decide (([.Name y p2, e] : List Expr).length + ([] : List Keyword).length + (if ([] : List Keyword).isEmpty then 0 else 1) < 30)) = true := by rfl) (htr : backTo cpos (starEach [.Name y p2, e] X.env) = [(false, eval (.Name y p2) X.env), (false, eval e X.env)] := by rfl) :
    PD X B (.Call (.Attribute (.Name x p) "get" apos) [.Name y p2, e] [] cpos) (dGet2 i j fa) := by
  refine PE.of (pe_dget2 (hu_of hr) (pe_var hN hv hd hcd) (pe_var hN2 hv2 hd2 hcd2) he ⟨rfl, hfew, hline, htr⟩) fun σ H Q h => ?_
  obtain ⟨ρ, r, h⟩ := h
  unfold dGet2 at h
  split at h
  · rename_i kvs ks qi qj
    obtain ⟨O, a, b, vs, h1, ho, h2, hl, h3, z1, z2, z3, z4, y1, y2⟩ := r.two qi qj
    refine ⟨.ref a, z2, a, rfl, .inr ⟨vs, .inl z3⟩, .ref b, y1, ρ, r, (Res.bind h).imp fun d h1 v H1 s1 i1 => ⟨valV vs ks, DGet.t (s1 _ _ z3) (s1 _ _ y2), ?_⟩⟩
    rcases isT_val (k := ks) z4 with ⟨e1, e2⟩ | ⟨d', v', e1, e2, i'⟩
    · rw [e2]
      refine h1 _ H1 s1 ?_
      rw [e1]
      exact i1
    · rw [e2]
      refine h1 _ H1 s1 ?_
      rw [e1]
      exact (i'.mono (Off.same _ _)).mono s1
  · exact False.elim h
/-- x[k] = e -/
noncomputable def sPutT (i j : Nat) (f : Rho → M D) : Rho → Option Out := fun ρ => match ρ[i]?, keyAt ρ j with
  | some (some (.ow (.t kvs))), some ks => lft (f ρ) ρ fun d => if d.imm = true ∧ kvs.length < 100000 then some (.nx (ρ.set i (some (.ow (.t (putT kvs ks d)))))) else none
  | _, _ => none
theorem pds_putT {k : Nat} (hr : Room k X.A) (i j : Nat) {x y : Str} (he : PD X B e fa) (hN : X.N[i]? = some x := by rfl) (hv : Vis X.env.scope x := by first | exact Or.inl rfl | exact Or.inr (Or.inl rfl) | exact Or.inr (Or.inr rfl)) (hN2 : X.N[j]? = some y := by rfl) (hv2 : Vis X.env.scope y := by first | exact Or.inl rfl | exact Or.inr (Or.inl rfl) | exact Or.inr (Or.inr rfl))
    (hd : (x == ("__debug__" : Str)) = false := by decide) (hcd : (x == ("__classdict__" : Str)) = false := by decide) (hd2 : (y == ("__debug__" : Str)) = false := by decide) (hcd2 : (y == ("__classdict__" : Str)) = false := by decide)
    (hs : swapsWith e (some (.Subscript (.Name x p) (.Name y p2) pos')) pos.line X.env = pure false := by rfl) :
    PDS X B (.Assign [.Subscript (.Name x p) (.Name y p2) pos'] e pos) (sPutT i j fa) := by
  refine PS.of (ps_dput (hu_of hr) (pe_var hN hv hd hcd) (pe_var hN2 hv2 hd2 hcd2) he hs) fun E σ H h => ?_
  obtain ⟨ρ, r, h⟩ := h
  unfold sPutT at h
  split at h
  · rename_i kvs ks qi qj
    refine ⟨ρ, r, (lft_red r h).imp fun d h1 v H1 s1 i1 => ?_⟩
    obtain ⟨O, a, b, vs, g1, go, g2, gl, g3, z1, z2, z3, z4, y1, y2⟩ := (r.mono s1).two qi qj
    split at h1
    · rename_i hh
      refine ⟨.ref a, z2, .ref b, y1, a, _, rfl, DPut.t z3 y2 (by rw [← isT_length z4]; exact Nat.lt_trans hh.2 (by decide)), ?_⟩
      exact h1 _ _ (Rel.ow_put O g1 go g2 gl g3 qi z1 z2 (o' := .t (putT kvs ks d)) (w' := .dT (putK vs ks v)) (isT_put (off_imm go hh.1 i1) z4))
    · exact False.elim h1
  · exact False.elim h
end
end L2.PU

namespace L2.PU
open PySem PySem.Spec PyProof.Rows
/-! ### t.count(x): texts -/
section
variable {X : Cx} {B : Hp} {e a b : Expr} {fa fb : Rho → M D} {pos p apos cpos : Pos}
end
end L2.PU

namespace L2.PU
open PySem PySem.Spec PyProof.Rows
/-! ### many new objects at once -/
open Classical in
theorem Inv.many {X : Cx} {pins : List (Addr × Obj)} {σ : St} {H : Hp} {s : Shared} {h' : Heap} {t' : Nat} (I : Inv X pins σ H s) (k : ∀ b u, s.heap.get? b = some u → h'.get? b = some u) (P : Addr → HO → Prop) (un : ∀ b o o', P b o → P b o' → o = o') (hi : ∀ b o, P b o → s.heap.objs.size ≤ b)
    (new : ∀ H', Same H H' → (∀ b o, P b o → H' b = some o) → ∀ b o, P b o → ObjOk X.prog X.w H' h' b o) : ∃ H', Same H H' ∧ (∀ b o, P b o → H' b = some o) ∧ Inv X pins σ H' { s with heap := h', toks := t' } := by
  let H' : Hp := fun b => match H b with | some o => some o | none => if h : ∃ o, P b o then some (Classical.choose h) else none
  have sm : Same H H' := fun b o e => by show (match H b with | some o => some o | none => _) = some o; rw [e]
  have fr : ∀ b o, P b o → H b = none := fun b o p => I.hok.fresh (hi b o p)
  have at_ : ∀ b o, P b o → H' b = some o := fun b o p => by
    show (match H b with | some o => some o | none => if h : ∃ o, P b o then some (Classical.choose h) else none) = some o
    rw [fr b o p]
    have hx : ∃ o, P b o := ⟨o, p⟩
    show (if h : ∃ o, P b o then some (Classical.choose h) else none) = some o
    rw [dif_pos hx, un b _ o (Classical.choose_spec hx) p]
  have back : ∀ b o, H' b = some o → H b = some o ∨ (H b = none ∧ P b o) := fun b o e => by
    have e' : (match H b with | some o => some o | none => if h : ∃ o, P b o then some (Classical.choose h) else none) = some o := e
    cases q : H b with
    | some u => rw [q] at e'; exact .inl e'
    | none =>
      rw [q] at e'
      have e2 : (if h : ∃ o, P b o then some (Classical.choose h) else none) = some o := e'
      split at e2
      · rename_i hx; cases e2; exact .inr ⟨rfl, Classical.choose_spec hx⟩
      · cases e2
  refine ⟨H', sm, at_, I.un ⟨fun b u q _ _ _ => k b u q, fun b u q _ _ _ => ⟨u.slots, k b u q⟩, fun b u q n _ => ?_, fun b u q _ => ⟨u, k b u q⟩, fun b xs q => sm _ _ q, fun b o u q => sm _ _ q, fun b ps q => ⟨#[], by rw [sm _ _ q]; simp⟩⟩ fun b o e => ?_⟩
  · cases q2 : H' b with
    | none => rfl
    | some o =>
      rcases back b o q2 with z | ⟨_, z⟩
      · rw [n] at z; cases z
      · exact absurd (Heap.lt_size q) (Nat.not_lt.mpr (hi b o z))
  · rcases back b o e with z | ⟨_, z⟩
    · exact (I.hok b o z).stay (fun c v _ q => k c v q) (fun c q => sm _ _ q) fun c xs q => sm _ _ q
    · exact new H' sm at_ b o z
noncomputable def strK : List Key → Option (List Str)
  | [] => some []
  | .inr x :: ks => match strK ks with | some xs => some (x :: xs) | none => none
  | .inl _ :: _ => none
theorem strK_eq : ∀ {ks : List Key} {xs : List Str}, strK ks = some xs → ks = xs.map .inr
  | [], xs, h => by cases h; rfl
  | .inr x :: ks, xs, h => by
    unfold strK at h
    split at h
    · rename_i ys e; cases h; rw [strK_eq e]; rfl
    · cases h
  | .inl _ :: _, _, h => by cases h
theorem strK_inr (xs : List Str) : strK (xs.map .inr) = some xs := by
  induction xs with
  | nil => rfl
  | cons x xs ih => rw [List.map_cons, strK, ih]
noncomputable def decI : List (List Key × D) → Option (List (List Str × Int))
  | [] => some []
  | (ks, .int n) :: r => match strK ks, decI r with | some xs, some l => some ((xs, n) :: l) | _, _ => none
  | _ :: _ => none
noncomputable def pD (p : List Str × Int) : D := .tup [.tup (p.1.map D.str), .int p.2]
/-- the dict by tuples that a slot holds: one's own, or a shared one -/
noncomputable def dictAt (ρ : Rho) (i : Nat) : Option (List (List Key × D)) := match ρ[i]? with
  | some (some (.ow (.t kvs))) => some kvs
  | some (some (.sh (.dt kvs))) => some kvs
  | _ => none
theorem Rel.dict {K : PySem.W.Frag} {B H : Hp} {ρ : Rho} {σ : St} {kvs : List (List Key × D)} {i : Nat} (r : Rel K B ρ σ H) (qi : dictAt ρ i = some kvs) : ∃ a vs, σ[i]? = some (some (.ref a)) ∧ H a = some (.dT vs) ∧ IsT K H kvs vs := by
  obtain ⟨O, h1, ho, h2, hl, h3⟩ := r
  unfold dictAt at qi
  split at qi
  · rename_i q
    cases qi
    obtain ⟨a, w, z1, z2, z3, z4⟩ := (show Slot K H O σ i (.ow (.t kvs)) from h3 i _ q)
    cases w <;> first | exact False.elim z4 | skip
    exact ⟨a, _, z2, z3, IsT.mono (Off.same _ _) z4⟩
  · rename_i q
    cases qi
    obtain ⟨v, z1, z2⟩ := (show Slot K H O σ i (.sh (.dt kvs)) from h3 i _ q)
    cases z2 with
    | dt hh rr => exact ⟨_, _, z1, Off.same _ _ _ _ hh, IsT.mono (Off.same _ _) rr⟩
  · cases qi
noncomputable def dSrtI (i : Nat) : Rho → M D := fun ρ => match dictAt ρ i with
  | some kvs => (match decI kvs with | some l => if l.length < 64 then ok (.lst ((ordI l).map fun j => pD (ixP l j))) else none | none => none)
  | _ => none
noncomputable abbrev KR (H : Hp) (p : List Key × V) (q : List Key × Addr × Value) : Prop := p.1 = q.1 ∧ H q.2.1 = some (.tup (p.1.map kV)) ∧ RelV p.2 q.2.2
theorem decI_cons {ks : List Key} {d : D} {r : List (List Key × D)} {l : List (List Str × Int)} (h : decI ((ks, d) :: r) = some l) : ∃ xs n l', d = .int n ∧ strK ks = some xs ∧ decI r = some l' ∧ l = (xs, n) :: l' := by
  cases d <;> first | (cases h; done) | skip
  rename_i n
  unfold decI at h
  split at h
  · rename_i xs l' e1 e2
    cases h
    exact ⟨xs, n, l', rfl, e1, e2, rfl⟩
  · cases h
theorem decI_at {K : PySem.W.Frag} {H H₂ : Hp} : ∀ {kvs : List (List Key × D)} {l : List (List Str × Int)} {vs : List (List Key × V)} {xs : List (List Key × Addr × Value)}, decI kvs = some l → IsT K H kvs vs → Paired (KR H₂) vs xs →
    l.length = xs.length ∧ ∀ (j : Nat) (q : List Key × Addr × Value), xs[j]? = some q → ∃ t, q.2.2 = Value.int (ixP l j).2 t ∧ H₂ q.2.1 = some (.tup ((ixP l j).1.map V.str))
  | [], l, _, _, h, .nil, .nil => by cases h; exact ⟨rfl, fun j q e => by simp at e⟩
  | (ks, d) :: r, l, _, _, h, .cons i r', .cons hp r2 => by
    obtain ⟨zs, n, l', rfl, e1, e2, rfl⟩ := decI_cons h
    obtain ⟨g1, g2⟩ := decI_at e2 r' r2
    have ek := strK_eq e1
    subst ek
    cases i
    obtain ⟨p1, p2, p3⟩ := hp
    refine ⟨by rw [List.length_cons, List.length_cons, g1], fun j q e => ?_⟩
    cases j with
    | zero =>
      cases e
      obtain ⟨t, ht⟩ := p3
      refine ⟨t, ht, ?_⟩
      dsimp only at p2
      rw [p2, List.map_map]
      rfl
    | succ j => exact g2 j q e
section
variable {X : Cx} {B : Hp} {pos p p2 apos cpos : Pos} {i : Nat} {x : Str}
theorem is_strs {K : PySem.W.Frag} {H : Hp} : ∀ (xs : List Str), IsL K H (xs.map D.str) (xs.map V.str)
  | [] => .nil
  | x :: xs => .cons (.str x) (is_strs xs)
theorem ordI_perm (l : List (List Str × Int)) : (ordI l).Perm (List.range l.length) := outT_perm _ _
theorem ordI_lo (l : List (List Str × Int)) : ∀ j ∈ ordI l, j < l.length := fun j hj => List.mem_range.mp ((ordI_perm l).mem_iff.mp hj)
theorem ordI_len (l : List (List Str × Int)) : (ordI l).length = l.length := by rw [(ordI_perm l).length_eq, List.length_range]
theorem pd_sortedI {k : Nat} (hr : Room k X.A) (hc : X.calm = true) (hg : Gl X "sorted") (hm : X.mg "sorted" = none) (i : Nat) {x : Str} (hN : X.N[i]? = some x := by rfl) (hv : Vis X.env.scope x := by first | exact Or.inl rfl | exact Or.inr (Or.inl rfl) | exact Or.inr (Or.inr rfl))
    (hd : (x == ("__debug__" : Str)) = false := by decide) (hcd : (x == ("__classdict__" : Str)) = false := by decide) (hline : (apos.endLine == cpos.line) = true := by rfl) :
    PD X B (.Call (.Name "sorted" p) [.Call (.Attribute (.Name x p2) "items" apos) [] [] cpos] [] pos) (dSrtI i) := by
  intro pins s σ H Q I h
  obtain ⟨ρ, r, h⟩ := h
  unfold dSrtI at h
  split at h
  · rename_i kvs qi
    split at h
    · rename_i l hl
      split at h
      · rename_i h3
        obtain ⟨a, vs, z2, z3, z4⟩ := r.dict qi
        obtain ⟨lz, nsys, xs, rel, od, es, ep, o1, o2, o3, o4, o5⟩ := (show ObjOk X.prog X.w H s.heap a (.dT vs) from I.hok a _ z3)
        obtain ⟨ll, ent⟩ := decI_at hl z4 rel
        have hT : s.TypeIs (.ref a) "dict" := ⟨od, o1, o2.1⟩
        refine wpAny_Call_Name_kw (ld_blt I hg hm boot_sorted ?_ (by decide) (by decide))
        refine PyProof.Rows.callWith_builtin1 ?_ (star_ok rfl) rfl
        show wpAny _ _ (spliced [(false, eval (.Call (.Attribute (.Name x p2) "items" apos) [] [] cpos) X.env)]) _ _ s
        refine Calls.spliced_cons ?_
        refine wpAny_Call_method0_late rfl hline (thn (pe_var hN hv hd hcd pins s σ H (fun v H1 => v = .ref a ∧ H1 = H) I ⟨.ref a, z2, rfl, rfl⟩) fun v s1 hs1 => ?_)
        obtain ⟨y, H1, I1, ry, ey, eH⟩ := hs1
        subst ey eH
        cases ry
        obtain ⟨lz, nsys, xs, rel, od, es, ep, o1, o2, o3, o4, o5⟩ := (show ObjOk X.prog X.w H1 s1.heap a (.dT vs) from I1.hok a _ z3)
        obtain ⟨ll, ent⟩ := decI_at hl z4 rel
        have hT : s1.TypeIs (.ref a) "dict" := ⟨od, o1, o2.1⟩
        refine ⟨"dict", "dict.items", PySem.F.plainAttrs_dict, PySem.F.slot_dict_items, PySem.F.type_dict_items, hT, fun b e => by cases e; exact ⟨od, o1, o2.2.1⟩, Calls.callWith_builtin rfl (PySem.evalArgs_none (items_call (ep := ep) (od := od) (es := es) hT nsys ?_))⟩
        refine Calls.spliced_nil ?_
        have kp0 : ∀ b o, s1.heap.get? b = some o → (s1.heap.push { cls := .type "dict_items", data := .fields #[.ref a] }).get? b = some o := fun b o e => Heap.get?_push_of_some _ e
        have esz : l.length = es.size := by rw [ll, ← Array.length_toList, o4, List.length_map]
        have entry : ∀ (j : Nat) (e : DictEntry), es[j]? = some e → ∃ q, xs[j]? = some q ∧ e.key = .ref q.2.1 ∧ e.val = q.2.2 := fun j e he => by
          rw [entry_at o4 j] at he
          obtain ⟨q, e1, e2⟩ := Option.map_eq_some_iff.mp he
          exact ⟨q, e1, by rw [← e2]; rfl, by rw [← e2]; rfl⟩
        have v2 : ∀ zs : List Str, zs.map V.str = (zs.map (Sum.inr : Str → Key)).map kV := fun zs => by rw [List.map_map]; rfl
        refine sorted_items (s := { s1 with heap := s1.heap.push { cls := .type "dict_items", data := .fields #[.ref a] } }) (l := l) (I1.ok.hd hc) hr.units ⟨_, Heap.get?_push_size _ rfl, rfl, rfl⟩ (kp0 _ _ o1) o3 h3 esz (fun j e he => ?_) fun h' tk lst m as hkp hal hnd hpr hle hna hls => ?_
        · obtain ⟨q, e1, e2, e3⟩ := entry j e he
          obtain ⟨t, f1, f2⟩ := ent j q e1
          rw [v2] at f2
          exact ⟨q.2.1, t, e2, by rw [e3, f1], key_of (I1.hok.kept kp0) f2⟩
        · have asz : ∀ (j : Nat) (b : Addr), as[j]? = some b → ∃ q t, xs[j]? = some q ∧ h'.get? b = some { cls := .type "tuple", data := .seq #[.ref q.2.1, .int (ixP l j).2 t] } ∧ H1 q.2.1 = some (.tup ((ixP l j).1.map V.str)) := fun j b hj => by
            obtain ⟨_, e, e1, e2⟩ := hpr j b hj
            obtain ⟨q, q1, q2, q3⟩ := entry j e e1
            obtain ⟨t, f1, f2⟩ := ent j q q1
            exact ⟨q, t, q1, by rw [e2, q2, q3, f1], f2⟩
          have sz2 : s1.heap.objs.size ≤ (s1.heap.push { cls := .type "dict_items", data := .fields #[.ref a] }).objs.size := by simp [Heap.push]
          let PP : Addr → HO → Prop := fun b o => (b = lst ∧ o = .lst ((ordI l).map fun j => V.ref (as.getD j 0))) ∨ ∃ j q, as[j]? = some b ∧ xs[j]? = some q ∧ o = .tup [.ref q.2.1, .int (ixP l j).2]
          have un : ∀ b o o', PP b o → PP b o' → o = o' := by
            intro b o o' h1 h2
            rcases h1 with ⟨e1, e2⟩ | ⟨j, q, e1, e2, e3⟩
            · rcases h2 with ⟨f1, f2⟩ | ⟨j', q', f1, f2, f3⟩
              · rw [e2, f2]
              · subst e1; exact absurd (List.mem_of_getElem? f1) hna
            · rcases h2 with ⟨f1, f2⟩ | ⟨j', q', f1, f2, f3⟩
              · subst f1; exact absurd (List.mem_of_getElem? e1) hna
              · have : j = j' := (List.getElem?_inj (List.getElem?_eq_some_iff.mp e1).1 hnd).mp (e1.trans f1.symm)
                subst this
                rw [e2] at f2
                cases f2
                rw [e3, f3]
          have hi : ∀ b o, PP b o → s1.heap.objs.size ≤ b := by
            intro b o h1
            rcases h1 with ⟨e1, e2⟩ | ⟨j, q, e1, e2, e3⟩
            · subst e1; exact Nat.le_trans sz2 hle
            · exact Nat.le_trans sz2 (hpr j b e1).1
          have new : ∀ H', Same H1 H' → (∀ b o, PP b o → H' b = some o) → ∀ b o, PP b o → ObjOk X.prog X.w H' h' b o := by
            intro H' sm at_ b o h1
            rcases h1 with ⟨e1, e2⟩ | ⟨j, q, e1, e2, e3⟩
            · subst e1 e2
              refine ⟨by rw [List.length_map, ordI_len l, sizeLine_eq]; omega, (ordI l).map fun i => (as.map Value.ref).getD i Value.none, m, ?_, hls⟩
              have go : ∀ (ix : List Nat), (∀ j ∈ ix, j < l.length) → Vals (ix.map fun j => V.ref (as.getD j 0)) (ix.map fun i => (as.map Value.ref).getD i Value.none) := by
                intro ix
                induction ix with
                | nil => intro _; exact .nil
                | cons j ix ih =>
                  intro hj
                  refine .cons ?_ (ih fun j' h' => hj j' (List.mem_cons_of_mem _ h'))
                  have jl : j < as.length := by rw [hal]; exact hj j List.mem_cons_self
                  show (as.map Value.ref).getD j Value.none = .ref (as.getD j 0)
                  rw [List.getD_eq_getElem?_getD, List.getD_eq_getElem?_getD, List.getElem?_map, List.getElem?_eq_getElem jl]
                  rfl
              exact go (ordI l) (ordI_lo l)
            · subst e3
              obtain ⟨q', t, q1, q2, q3⟩ := asz j b e1
              rw [e2] at q1
              cases q1
              exact ⟨(by decide : 2 ≤ sizeLine), [.ref q.2.1, .int (ixP l j).2 t], .cons rfl (.cons ⟨t, rfl⟩ .nil), _, q2, rfl, ⟨_, rfl⟩, rfl⟩
          obtain ⟨H', sm, at_, I'⟩ := Inv.many (t' := tk) I1 (h' := h') (fun b u e => hkp b u (kp0 b u e)) PP un hi new
          refine ⟨.ref lst, H', I', rfl, h _ H' sm (.lst (SqL.of (at_ lst _ (.inl ⟨rfl, rfl⟩))) ?_)⟩
          have go : ∀ (ix : List Nat), (∀ j ∈ ix, j < l.length) → IsL X.K H' (ix.map fun j => pD (ixP l j)) (ix.map fun j => V.ref (as.getD j 0)) := by
            intro ix
            induction ix with
            | nil => intro _; exact .nil
            | cons j ix ih =>
              intro hj
              refine .cons ?_ (ih fun j' h' => hj j' (List.mem_cons_of_mem _ h'))
              have jl : j < as.length := by rw [hal]; exact hj j List.mem_cons_self
              have ja : as[j]? = some (as.getD j 0) := by rw [List.getD_eq_getElem?_getD, List.getElem?_eq_getElem jl]; rfl
              obtain ⟨q, t, q1, q2, q3⟩ := asz j _ ja
              exact .tup (TQ.of (at_ _ _ (.inr ⟨j, q, ja, q1, rfl⟩))) (.cons (.tup (TQ.of (sm _ _ q3)) (is_strs _)) (.cons (.int _) .nil))
          exact go (ordI l) (ordI_lo l)
      · exact False.elim h
    · exact False.elim h
  · exact False.elim h
end
end L2.PU

namespace L2.PU
open PySem PySem.Spec PyProof.Rows

section
variable {X : Cx} {B : Hp} {scope : Scope} {cl : List (Str × Addr)} {y : Str} {N' : List Str} {m : Nat}
variable {x : Str} {tg iter elt : Expr} {ifs : List Expr} {pos : Pos} {ks : List Nat} {G : D → Option (List D)} {ft : Rho → M Bool} {fe : Rho → M D} {it : Rho → M (List D)}
end
end L2.PU

namespace L2.PU
open PySem PySem.Spec PyProof.Rows
/-! ### x.extend(y), x a list of one's own, y a list or a tuple -/
section
variable {X : Cx} {B : Hp} {e : Expr} {fa : Rho → M D} {pos p apos cpos : Pos} {x : Str} {i : Nat}
end
/-! ### lists of a told length -/
theorem ar1 (us : List Value) (hl : us.length = 1) : ∃ a, us = [a] := by
  cases us with
  | nil => exact absurd hl (by simp)
  | cons a us =>
    cases us with
    | nil => exact ⟨a, rfl⟩
    | cons z us => exact absurd hl (by simp)
theorem ar2 (us : List Value) (hl : us.length = 2) : ∃ a b, us = [a, b] := by
  cases us with
  | nil => exact absurd hl (by simp)
  | cons a us =>
    cases us with
    | nil => exact absurd hl (by simp)
    | cons b us =>
      cases us with
      | nil => exact ⟨a, b, rfl⟩
      | cons z us => exact absurd hl (by simp)
theorem ar3 (us : List Value) (hl : us.length = 3) : ∃ a b c, us = [a, b, c] := by
  cases us with
  | nil => exact absurd hl (by simp)
  | cons a us =>
    cases us with
    | nil => exact absurd hl (by simp)
    | cons b us =>
      cases us with
      | nil => exact absurd hl (by simp)
      | cons c us =>
        cases us with
        | nil => exact ⟨a, b, c, rfl⟩
        | cons z us => exact absurd hl (by simp)
end L2.PU

namespace L2.PU
open PySem PySem.Spec PyProof.Rows

/-! ### dict(x) of a tuple of pairs, the keys tuples, unlike each other -/
theorem entry_update_loop : entryFor table "dict.update.loop" = some Builtin.«dict.update.loop» := entryFor_of_tree (by kernel_rfl)
theorem plain_update_loop : plainId "dict.update.loop" = true := by decide +kernel
noncomputable def Kps (h h' : Heap) : Prop := ∀ b u, h.get? b = some u → h'.get? b = some u
section
variable {prog : Program} {w : World} {A : Around} {E : Value → Shared → Prop} {s : Shared} {κ : Type} [DecidableEq κ] {knd : HeapKind prog w κ}
theorem dictH_kept {h h' : Heap} {a : Addr} {xs : List (κ × Addr × Value)} (z : h.DictOfH knd a xs) (e : ∀ o, h.get? a = some o → h'.get? a = some o) (k : ∀ x ∈ xs, knd.is h' x.1 x.2.1) : h'.DictOfH knd a xs := by
  obtain ⟨o, es, ep, ho, hc, hd, he, his, hn⟩ := z
  exact ⟨o, es, ep, e o ho, hc, hd, he, k, hn⟩
theorem pair_items {c : Addr} {its : Array Value} {Q : List Value → Shared → Prop} (h : s.heap.IsTuple c its) (q : Q its.toList s) : wpAny (model prog w) A (Builtin.Dict.pairItems (.ref c)) Q E s := by
  obtain ⟨o, ho, hc, n, hd⟩ := h
  have t : s.TypeIs (.ref c) "tuple" := ⟨o, ho, hc⟩
  unfold Builtin.Dict.pairItems
  refine wpAny_bind (wpAny_typeOf t ?_)
  rw [if_pos (by decide)]
  exact wpAny_bind (wpAny_seqItems ho hd (wpAny_pure q))
theorem dict_loop {R : Result → Shared → Prop} {I S : Addr} {fp wr : List Addr} {n : Nat} {St : Nat → Heap → Prop} {items : Array Value} (W : Walks prog w A.in1 I fp wr n (fun i v => items[i]? = some v) St) (hS : S ∉ fp) (h0 : Heap) (hw : ∀ b ∈ wr, h0.get? b = none) (hS0 : h0.get? S = none)
    (ps : List (κ × Addr × Value)) (hn : ps.length = n) (nd : (ps.map (·.1)).Nodup) (hu : knd.room A.in1)
    (hp : ∀ (i : Nat) (v : Value), items[i]? = some v → ∃ (c : Addr) (q : κ × Addr × Value), v = Value.ref c ∧ ps[i]? = some q ∧ ∀ h', Kps h0 h' → h'.IsTuple c #[Value.ref q.2.1, q.2.2])
    (hk : ∀ q ∈ ps, ∀ h', Kps h0 h' → knd.is h' q.1 q.2.1) (hb : n ≤ sizeLine) :
    ∀ (k i : Nat) (j : Int) (t : Nat) (s : Shared), n - i = k → i ≤ n → St i s.heap → s.heap.DictOfH knd S (ps.take i) → Kps h0 s.heap →
      (∀ h' tk, h'.DictOfH knd S ps → Kps h0 h' → R (.ok (.ret .none)) { s with heap := h', toks := tk }) →
      codeAny (model prog w) A (.builtin "dict.update.loop" ⟨[.ref S, .ref I, .int j t, .none], []⟩) R s := by
  have nw : S ∉ wr := fun z => hS (W.sub _ z)
  have kw : ∀ {h h' : Heap}, (∀ b o, b ∉ wr → h.get? b = some o → h'.get? b = some o) → Kps h0 h → Kps h0 h' := fun {h h'} m z b u q => m b u (fun hbw => by rw [hw b hbw] at q; cases q) (z b u q)
  intro k
  induction k with
  | zero =>
    intro i j t s hk' hi st zS zK q
    have ei : i = n := by omega
    subst ei
    rw [← hn, List.take_length] at zS
    refine codeAny_builtin entry_update_loop ?_
    rw [Around.under_plainId plain_update_loop _]
    show wpAny _ A.in1 (pyNext (.ref I) >>= _) _ _ s
    refine wpAny_bind (W.done s _ _ st fun h' tk m => ?_)
    have zK' := kw m zK
    exact wpAny_bind (wpAny_pure (wpAny_pure (q h' tk (dictH_kept zS (fun o e => m S o nw e) fun x hx => hk x hx h' zK') zK')))
  | succ k ih =>
    intro i j t s hk' hi st zS zK q
    have lt : i < n := by omega
    refine codeAny_builtin entry_update_loop ?_
    rw [Around.under_plainId plain_update_loop _]
    show wpAny _ A.in1 (pyNext (.ref I) >>= _) _ _ s
    refine wpAny_bind (W.item i s _ _ lt st fun v h' tk hP st' m => ?_)
    obtain ⟨c, x, rfl, hx, ht⟩ := hp i v hP
    have zK' := kw m zK
    have zS' : h'.DictOfH knd S (ps.take i) := dictH_kept zS (fun o e => m S o nw e) fun y hy => hk y (List.mem_of_mem_take hy) h' zK'
    show wpAny _ A.in1 (holding [Value.ref c] _ >>= _) _ _ _
    refine wpAny_bind (wpAny_holding ?_)
    refine wpAny_bind (wpAny_tryCatch (pair_items (s := { s with heap := h', toks := tk }) (ht h' zK') ?_))
    show wpAny _ A.in1 (holding [Value.ref x.2.1, x.2.2] (dictSet S (.ref x.2.1) x.2.2)) _ _ _
    refine wpAny_holding ?_
    have hmem : x ∈ ps := List.mem_of_getElem? hx
    refine wpAny_dictSet_heap (s := { s with heap := h', toks := tk }) (k := x.1) (xs := ps.take i) (knd := knd) hu (hk x hmem h' zK') zS' (fun h2 z2 sb => ?_) (by rw [List.length_take]; omega)
    have hno : atKey (ps.take i) x.1 = none := by
      refine atKey_none_of_get fun j p hj => ?_
      obtain ⟨jl, je⟩ := List.getElem?_eq_some_iff.mp hj
      have jlt : j < i := by rw [List.length_take] at jl; omega
      have e1 : ps[j]? = some (x.1, p) := by
        rw [List.getElem?_take_of_lt jlt] at hj
        exact hj
      have e2 : (ps.map (·.1))[j]? = (ps.map (·.1))[i]? := by rw [List.getElem?_map, List.getElem?_map, e1, hx]; rfl
      have := (List.getElem?_inj (by rw [List.length_map]; omega) nd).mp e2
      omega
    have es : ps.take (i + 1) = storedH (ps.take i) x.1 x.2.1 x.2.2 := by
      rw [storedH_new hno, List.take_succ, hx]
      rfl
    rw [← es] at z2
    have zK2 : Kps h0 h2 := fun b u e => (sb.2 b (fun z => by rw [z, hS0] at e; cases e)).trans (zK' b u e)
    refine wpAny_pure ⟨plainId_quiet plain_update_loop _, ih (i + 1) _ _ _ (by omega) lt (W.frame _ h' h2 st' fun b hb' o e => ?_) z2 zK2 fun h3 tk3 z3 k3 => ?_⟩
    · exact (sb.2 b (fun z : b = S => hS (by rw [← z]; exact hb'))).trans e
    · exact q h3 tk3 z3 k3
end
theorem tuple_no_keys : typeLookup (.type "tuple") "keys" = pure none := by rw [typeLookup_type, builtinLookup_eq_fast]; kernel_rfl
theorem tuple_no_getattr : typeLookup (.type "tuple") "__getattr__" = pure none := by rw [typeLookup_type, builtinLookup_eq_fast]; kernel_rfl
section
variable {prog : Program} {w : World} {A : Around} {E : Value → Shared → Prop} {h : Heap} {g : Array GenState} {d : Drawn} {t : Nat} {os : OsState} {a : Addr} {o : Obj}
theorem keys_entry {tk : Tok} {Q : Fin → Shared → Prop} {E : Value → Shared → Prop} (hx : h.get? a = some o) (hc : o.cls = .type "tuple") (hdi : o.dict = none) {its : Array Value} {nn : Nat} (hdt : o.data = .seq its nn) (hh : A.handled = none) (hE : ∀ h' t' e, Heap.NewAttrErr h h' e (.ref a) "keys" → E (.ref e) ⟨h', g, d, t', os⟩) :
    wpAny (model prog w) A (Builtin.«object.__getattribute__» ⟨[.ref a, .str "keys" tk], []⟩) Q E ⟨h, g, d, t, os⟩ := by
  have hT : (⟨h, g, d, t, os⟩ : Shared).TypeIs (.ref a) "tuple" := ⟨_, hx, hc⟩
  have f4 := tuple_no_keys
  obtain ⟨c, dd, dt, sl⟩ := o
  dsimp only at hc hdi hdt
  subst hc hdi hdt
  unfold Builtin.«object.__getattribute__»
  repeat (any_goals (first | assumption | wp_step))
  exact wpAny_raiseAttrError hh hE (attrMsg_fits (by decide +kernel) (by decide +kernel))
theorem keys_call {tk : Tok} {R : Result → Shared → Prop} {its : Array Value} {nn : Nat} (hx : h.get? a = some o) (hc : o.cls = .type "tuple") (hdi : o.dict = none) (hdt : o.data = .seq its nn) (hh : A.handled = none)
    (hR : ∀ h' t' e, Heap.NewAttrErr h h' e (.ref a) "keys" → R (.error (.ref e)) ⟨h', g, d, t', os⟩) :
    codeAny (model prog w) A (.call (.builtin "tuple.__getattribute__") ⟨[.ref a, .str "keys" tk], []⟩) R ⟨h, g, d, t, os⟩ :=
  codeAny_call_builtin PySem.F.slot_tuple_getattribute.plain PySem.F.entry_tuple_ga (PySem.F.slot_tuple_getattribute.check _ _ _ _ _ _ _ _ (show (⟨h, g, d, t, os⟩ : Shared).TypeIs (.ref a) "tuple" from ⟨_, hx, hc⟩) (PySem.F.args_tuple_getattribute_2 _ _) (keys_entry hx hc hdi hdt (by simp [hh]) hR))
theorem keys_by {tk : Tok} {Q : Value → Shared → Prop} {E : Value → Shared → Prop} {its : Array Value} {nn : Nat} (hx : h.get? a = some o) (hc : o.cls = .type "tuple") (hdi : o.dict = none) (hdt : o.data = .seq its nn) (hh : A.handled = none)
    (hE : ∀ h' t' e, Heap.NewAttrErr h h' e (.ref a) "keys" → E (.ref e) ⟨h', g, d, t', os⟩) : wpAny (model prog w) A (getAttrBy (.ref a) (.str "keys" tk) false) Q E ⟨h, g, d, t, os⟩ := by
  have hT : (⟨h, g, d, t, os⟩ : Shared).TypeIs (.ref a) "tuple" := ⟨_, hx, hc⟩
  have f2 := PySem.F.slot_tuple_getattribute.lookup
  have f3 := PySem.F.slot_tuple_getattribute.bind (.ref a)
  have f5 := tuple_no_getattr
  repeat (any_goals (first | assumption | wp_step))
  refine keys_call hx hc hdi hdt hh fun h' t' e n => ?_
  have f1 := sub_AttributeError
  have kk := hE h' t' e n
  obtain ⟨t2, u, he⟩ := n.there
  have hT' : (⟨h', g, d, t', os⟩ : Shared).TypeIs (.ref e) "AttributeError" := ⟨_, he, rfl⟩
  repeat (any_goals (first | assumption | wp_step))
theorem keys_none {Q : Option Value → Shared → Prop} {its : Array Value} {nn : Nat} (hx : h.get? a = some o) (hc : o.cls = .type "tuple") (hdi : o.dict = none) (hdt : o.data = .seq its nn) (hh : A.handled = none)
    (hq : ∀ h' t', Kps h h' → Q none ⟨h', g, d, t', os⟩) : wpAny (model prog w) A (getAttr? (.ref a) "keys") Q E ⟨h, g, d, t, os⟩ := by
  have f1 := sub_AttributeError
  unfold getAttr? getAttrBy?
  refine wpAny_bind (wpAny_mkText ?_)
  refine wpAny_bind (wpAny_attempt ?_)
  refine keys_by hx hc hdi hdt hh fun h' t' e n => ?_
  obtain ⟨t2, u, he⟩ := n.there
  have hT' : (⟨h', g, d, t', os⟩ : Shared).TypeIs (.ref e) "AttributeError" := ⟨_, he, rfl⟩
  have kk := hq h' t' n.keeps
  repeat (any_goals (first | assumption | wp_step))
end
section
variable {prog : Program} {w : World} {A : Around} {E : Value → Shared → Prop} {s : Shared} {κ : Type} [DecidableEq κ] {knd : HeapKind prog w κ}
theorem call_dict_pairs {l : Addr} {items : Array Value} {o : Obj} {nn : Nat} {Q : Value → Shared → Prop} (hh : A.handled = none) (ho : s.heap.get? l = some o) (hc : o.cls = .type "tuple") (hdi : o.dict = none) (hd : o.data = .seq items nn)
    (ps : List (κ × Addr × Value)) (hn : ps.length = items.size) (nd : (ps.map (·.1)).Nodup) (hu : knd.room A.in1.in1)
    (hp : ∀ (i : Nat) (v : Value), items[i]? = some v → ∃ (c : Addr) (q : κ × Addr × Value), v = Value.ref c ∧ ps[i]? = some q ∧ ∀ h', Kps s.heap h' → h'.IsTuple c #[Value.ref q.2.1, q.2.2])
    (hk : ∀ q ∈ ps, ∀ h', Kps s.heap h' → knd.is h' q.1 q.2.1) (hb : items.size ≤ sizeLine)
    (h : ∀ h' tk, h'.DictOfH knd s.heap.objs.size ps → Kps s.heap h' → Q (.ref s.heap.objs.size) { s with heap := h', toks := tk }) :
    wpAny (model prog w) A (call (.type "dict") [.ref l]) Q E s := by
  have lt : l < s.heap.objs.size := Heap.lt_size ho
  refine callType_codes (Q₁ := fun obj s₁ => obj = .ref s.heap.objs.size ∧ s₁ = { s with heap := s.heap.push { cls := .type "dict", data := .dict #[] } }) PySem.F.kt_called_dict (PySem.F.kt_typeCall_dict_1 _) PySem.F.entry_dict_init (kt_code_dict_new _ ⟨rfl, rfl⟩) ?_
  rintro obj s₁ ⟨rfl, rfl⟩
  have hnew : (s.heap.push { cls := .type "dict", data := .dict #[] }).DictOfH knd s.heap.objs.size [] := Heap.DictOfH.new s.heap
  have k1 : Kps s.heap (s.heap.push { cls := .type "dict", data := .dict #[] }) := fun b u e => Heap.get?_push_of_some _ e
  have ho' := k1 _ _ ho
  have tL : Shared.TypeIs { s with heap := s.heap.push { cls := .type "dict", data := .dict #[] } } (.ref l) "tuple" := ⟨o, ho', hc⟩
  refine ⟨hnew.typeIs, PySem.F.args_dict_init_2 _ _, ?_⟩
  unfold Builtin.«dict.__init__»
  refine wpAny_bind ?_
  unfold Builtin.Dict.selfAndRest
  refine wpAny_bind (wpAny_notOrdered_dict hnew.typeIs ?_)
  show wpAny _ _ (pure (s.heap.objs.size, [Value.ref l])) _ _ _
  refine wpAny_pure ?_
  show wpAny _ _ (Builtin.Dict.updateFrom "dict.__init__" s.heap.objs.size (.ref l) [] .none) _ _ _
  unfold Builtin.Dict.updateFrom
  refine wpAny_bind (wpAny_typeOf tL ?_)
  rw [if_pos (by decide)]
  obtain ⟨hp0, g, d, tk, os⟩ := s
  refine wpAny_bind (keys_none ho' hc hdi hd (by simp [hh]) fun h1 t1 kk1 => ?_)
  rw [if_pos (show (none : Option Value).isNone = true from rfl)]
  refine wpAny_bind (wpAny_rule ?_)
  have k2 : Kps hp0 h1 := fun b u e => kk1 b u (k1 b u e)
  have ho1 := k2 _ _ ho
  refine wpAny_bind (seq_walk (T := "tuple") (.inr rfl) (by simp [hh]) ho1 hc hd fun ob St W st0 => ?_)
  have k3 : Kps h1 (h1.push ob) := fun b u e => Heap.get?_push_of_some _ e
  have sz1 : hp0.objs.size < h1.objs.size := by
    have := Heap.lt_size (kk1 _ _ (Heap.get?_push_size hp0 (o := { cls := .type "dict", data := .dict #[] }) rfl))
    exact this
  have h1n : hp0.get? h1.objs.size = none := Heap.get?_none_of_le (Nat.le_of_lt sz1)
  refine wpAny_pure ⟨plainId_quiet plain_update_loop _, ?_⟩
  refine dict_loop (R := _) (W _ (by simp [hh])) ?_ hp0 ?_ (Heap.get?_none_of_le (Nat.le_refl _)) ps hn nd hu hp hk hb (items.size - 0) 0 _ _ _ (by omega) (Nat.zero_le _) st0 ?_ (fun b u e => k3 b u (k2 b u e)) fun h' tk z k => ?_
  · simp only [List.mem_cons, List.not_mem_nil, or_false, not_or]
    exact ⟨Nat.ne_of_lt sz1, Nat.ne_of_gt lt⟩
  · intro b hb'
    simp only [List.mem_cons, List.not_mem_nil, or_false] at hb'
    rw [hb']
    exact h1n
  · exact dictH_kept hnew (fun o e => k3 _ _ (kk1 _ _ e)) fun x hx => by simp at hx
  · exact ⟨rfl, h h' tk z k⟩
end
end L2.PU

namespace L2.PU
open PySem PySem.Spec PyProof.Rows PySem.W
/-! ### what comes out of the sort is in order, where the order is a strict one of all -/
structure Tot (n : Nat) (lt : Nat → Nat → Bool) : Prop where
  ir : ∀ i, lt i i = false
  tr : ∀ i j k, lt i j = true → lt j k = true → lt i k = true
  to : ∀ i j, i < n → j < n → i ≠ j → lt i j = false → lt j i = true
theorem runT_bind {α β : Type} {lt : Nat → Nat → Bool} {f : α → KasT β} : ∀ (t : KasT α), runT lt (t.bind f) = runT lt (f (runT lt t))
  | .ret _ => rfl
  | .ask i j k => runT_bind (k (lt i j))
noncomputable abbrev gt0 (p : Array Nat) (i : Nat) : Nat := p.getD i 0
theorem Plc.size {n : Nat} {p : Array Nat} (h : Plc n p) : p.size = n := by
  have := h.length_eq
  rw [Array.length_toList, List.length_range] at this
  exact this
theorem Plc.ne {n : Nat} {p : Array Nat} (h : Plc n p) {i j : Nat} (hi : i < n) (hj : j < n) (e : i ≠ j) : gt0 p i ≠ gt0 p j := by
  have hs := h.size
  have nd : p.toList.Nodup := h.nodup_iff.mpr List.nodup_range
  intro q
  have e1 : p.toList[i]? = some (gt0 p i) := by
    have : i < p.toList.length := by rw [Array.length_toList]; omega
    rw [List.getElem?_eq_getElem this]
    simp [gt0, Array.getD, show i < p.size by omega]
  have e2 : p.toList[j]? = some (gt0 p j) := by
    have : j < p.toList.length := by rw [Array.length_toList]; omega
    rw [List.getElem?_eq_getElem this]
    simp [gt0, Array.getD, show j < p.size by omega]
  exact e ((List.getElem?_inj (by rw [Array.length_toList]; omega) nd).mp (by rw [e1, e2, q]))
section
variable {n : Nat} {lt : Nat → Nat → Bool} (T : Tot n lt)
noncomputable def Asc (lt : Nat → Nat → Bool) (p : Array Nat) (a b : Nat) : Prop := ∀ i, a ≤ i → i + 1 < b → lt (gt0 p i) (gt0 p (i + 1)) = true
include T
theorem asc_pw {p : Array Nat} {a b : Nat} (h : Asc lt p a b) : ∀ (d i : Nat), a ≤ i → i + d + 1 < b → lt (gt0 p i) (gt0 p (i + d + 1)) = true
  | 0, i, hi, hb => h i hi hb
  | d + 1, i, hi, hb => T.tr _ _ _ (asc_pw h d i hi (by omega)) (h (i + d + 1) (by omega) (by omega))
theorem run_asc {p : Array Nat} (hp : Plc n p) : ∀ (f m : Nat), 1 ≤ m → m + f ≤ n → Asc lt p 0 m → ∃ m', runT lt (kas_asc p f m) = m' ∧ m ≤ m' ∧ m' ≤ m + f ∧ Asc lt p 0 m' ∧ (m' < m + f → lt (gt0 p m') (gt0 p (m' - 1)) = true)
  | 0, m, h1, h2, ha => ⟨m, rfl, Nat.le_refl _, Nat.le_refl _, ha, fun z => by omega⟩
  | f + 1, m, h1, h2, ha => by
    have e : runT lt (kas_asc p (f + 1) m) = runT lt (if lt (gt0 p m) (gt0 p (m - 1)) = true then .ret m else kas_asc p f (m + 1)) := rfl
    cases c : lt (gt0 p m) (gt0 p (m - 1)) with
    | true => exact ⟨m, by rw [e, if_pos c]; rfl, Nat.le_refl _, by omega, ha, fun _ => c⟩
    | false =>
      obtain ⟨m', g1, g2, g3, g4, g5⟩ := run_asc hp f (m + 1) (by omega) (by omega) (fun i hi hb => by
        by_cases q : i + 1 < m
        · exact ha i hi q
        · have : i = m - 1 := by omega
          subst this
          rw [show m - 1 + 1 = m by omega]
          exact T.to _ _ (hp.lt (by omega) _) (hp.lt (by omega) _) (hp.ne (by omega) (by omega) (by omega)) c)
      exact ⟨m', by rw [e, if_neg (by rw [c]; exact Bool.false_ne_true)]; exact g1, by omega, by omega, g4, fun z => g5 (by omega)⟩
/-- a falling run: no two are alike, so nothing is turned round within it -/
noncomputable def Des (lt : Nat → Nat → Bool) (p : Array Nat) (b : Nat) : Prop := ∀ i, i + 1 < b → lt (gt0 p (i + 1)) (gt0 p i) = true
theorem run_desc {p : Array Nat} (hp : Plc n p) : ∀ (f m : Nat), 1 ≤ m → m + f ≤ n → Des lt p m → ∃ m', runT lt (kas_desc f p m 0) = (p, m', 0) ∧ m ≤ m' ∧ m' ≤ m + f ∧ Des lt p m'
  | 0, m, h1, h2, ha => ⟨m, rfl, Nat.le_refl _, Nat.le_refl _, ha⟩
  | f + 1, m, h1, h2, ha => by
    have e : runT lt (kas_desc (f + 1) p m 0) = runT lt (if lt (gt0 p m) (gt0 p (m - 1)) = true then (if 0 > 0 then kas_desc f (kas_rev p (m - (0 + 1)) m) (m + 1) 0 else kas_desc f p (m + 1) 0)
      else .ask (gt0 p (m - 1)) (gt0 p m) fun d => if d = true then .ret (p, m, 0) else kas_desc f p (m + 1) (0 + 1)) := rfl
    cases c : lt (gt0 p m) (gt0 p (m - 1)) with
    | true =>
      obtain ⟨m', g1, g2, g3, g4⟩ := run_desc hp f (m + 1) (by omega) (by omega) (fun i hb => by
        by_cases q : i + 1 < m
        · exact ha i q
        · have : i = m - 1 := by omega
          subst this
          rw [show m - 1 + 1 = m by omega]
          exact c)
      exact ⟨m', by rw [e, if_pos c, if_neg (by omega)]; exact g1, by omega, by omega, g4⟩
    | false =>
      have d := T.to _ _ (hp.lt (by omega) _) (hp.lt (by omega) _) (hp.ne (i := m) (j := m - 1) (by omega) (by omega) (by omega)) c
      refine ⟨m, ?_, Nat.le_refl _, by omega, ha⟩
      rw [e, if_neg (by rw [c]; exact Bool.false_ne_true)]
      show runT lt (if lt (gt0 p (m - 1)) (gt0 p m) = true then .ret (p, m, 0) else kas_desc f p (m + 1) (0 + 1)) = _
      rw [if_pos d]
      rfl
omit T in
theorem gt0_rev {p : Array Nat} {m : Nat} (hm : m ≤ p.size) {i : Nat} : gt0 (kas_rev p 0 m) i = if i < m then gt0 p (m - 1 - i) else gt0 p i := by
  have e := getElem?_mirror_all (xs := p) (i := 0) (j := m) hm i
  have g : ∀ (q : Array Nat) (k : Nat), gt0 q k = (q[k]?).getD 0 := fun q k => by simp [gt0, Array.getD, getElem?_def]; split <;> rfl
  rw [g, show kas_rev p 0 m = mirror p 0 m ((m - 0) / 2) from rfl, e]
  by_cases q : i < m
  · rw [if_pos ⟨Nat.zero_le _, q⟩, if_pos q, g, show 0 + m - 1 - i = m - 1 - i by omega]
  · rw [if_neg (fun z => q z.2), if_neg q, g]
theorem run_tail {p : Array Nat} (hp : Plc n p) {m : Nat} (h1 : 1 ≤ m) (h2 : m ≤ n) (hd : Des lt p m) : ∃ m' p', runT lt (kas_tail3 m n p) = (m', p') ∧ Plc n p' ∧ 1 ≤ m' ∧ m' ≤ n ∧ Asc lt p' 0 m' := by
  have hr := hp.rev 0 m
  obtain ⟨m', g1, g2, g3, g4, _⟩ := run_asc T hr (n - m) m h1 (by omega) (fun i _ hb => by
    rw [gt0_rev (by rw [hp.size]; exact h2), gt0_rev (by rw [hp.size]; exact h2), if_pos (by omega), if_pos hb]
    have := hd (m - 1 - (i + 1)) (by omega)
    rwa [show m - 1 - (i + 1) + 1 = m - 1 - i by omega] at this)
  refine ⟨m', kas_rev p 0 m, ?_, hr, by omega, by omega, g4⟩
  unfold kas_tail3
  rw [runT_bind, g1]
  rfl
theorem run_count {p : Array Nat} (hp : Plc n p) (hn : 2 ≤ n) : ∃ m p', runT lt (kas_count n p) = (m, p') ∧ Plc n p' ∧ 1 ≤ m ∧ m ≤ n ∧ Asc lt p' 0 m := by
  obtain ⟨m, g1, g2, g3, g4, g5⟩ := run_asc T hp (n - 1) 1 (Nat.le_refl _) (by omega) (fun i _ hb => by omega)
  unfold kas_count
  rw [runT_bind, g1]
  by_cases q : m = n
  · rw [if_pos (by simpa using q)]
    exact ⟨m, p, rfl, hp, g2, by omega, g4⟩
  · rw [if_neg (by simpa using q)]
    by_cases q2 : m > 1
    · rw [if_pos q2]
      have c := asc_pw T g4 (m - 2) 0 (Nat.le_refl _) (by omega)
      rw [show 0 + (m - 2) + 1 = m - 1 by omega] at c
      refine ⟨m, p, ?_, hp, g2, by omega, g4⟩
      show runT lt (if lt (gt0 p 0) (gt0 p (m - 1)) = true then .ret (m, p) else kas_descPart m n (kas_rev p 0 m)) = _
      rw [if_pos c]
      rfl
    · rw [if_neg q2]
      have em : m = 1 := by omega
      subst em
      have c := g5 (by omega)
      obtain ⟨m', k1, k2, k3, k4⟩ := run_desc T hp (n - (1 + 1)) (1 + 1) (by omega) (by omega) (fun i hb => by
        have : i = 0 := by omega
        subst this
        exact c)
      unfold kas_descPart
      rw [runT_bind, k1]
      show ∃ m p', runT lt (if 0 > 0 then kas_tail3 m' n (kas_rev p (m' - (0 + 1)) m') else kas_tail3 m' n p) = (m, p') ∧ _
      rw [if_neg (by omega)]
      exact run_tail T hp (by omega) (by omega) k4
theorem run_place {p : Array Nat} (hp : Plc n p) {k : Nat} (hk : k < n) (ha : Asc lt p 0 k) : ∀ (f l r : Nat), r ≤ l + f → r ≤ k → l ≤ r → (∀ i, i < l → lt (gt0 p i) (gt0 p k) = true) → (∀ i, r ≤ i → i < k → lt (gt0 p k) (gt0 p i) = true) →
    ∃ l', runT lt (kas_place p k f l r) = l' ∧ l' ≤ k ∧ (∀ i, i < l' → lt (gt0 p i) (gt0 p k) = true) ∧ (∀ i, l' ≤ i → i < k → lt (gt0 p k) (gt0 p i) = true)
  | 0, l, r, h1, h2, h3, hl, hr => ⟨l, rfl, by omega, hl, fun i hi hk => hr i (by omega) hk⟩
  | f + 1, l, r, h1, h2, h3, hl, hr => by
    unfold kas_place
    by_cases q : l ≥ r
    · rw [if_pos q]
      exact ⟨l, rfl, by omega, hl, fun i hi hk => hr i (by omega) hk⟩
    · rw [if_neg q]
      have pw : ∀ i j, i < j → j < k → lt (gt0 p i) (gt0 p j) = true := fun i j hij hjk => by
        have := asc_pw T ha (j - i - 1) i (Nat.zero_le _) (by omega)
        rwa [show i + (j - i - 1) + 1 = j by omega] at this
      show ∃ l', runT lt (if lt (gt0 p k) (gt0 p ((l + r) / 2)) = true then kas_place p k f l ((l + r) / 2) else kas_place p k f ((l + r) / 2 + 1) r) = l' ∧ _
      cases c : lt (gt0 p k) (gt0 p ((l + r) / 2)) with
      | true =>
        rw [if_pos rfl]
        refine run_place hp hk ha f l ((l + r) / 2) (by omega) (by omega) (by omega) hl fun i hi hik => ?_
        by_cases e : i = (l + r) / 2
        · rw [e]; exact c
        · exact T.tr _ _ _ c (pw _ _ (by omega) hik)
      | false =>
        rw [if_neg Bool.false_ne_true]
        have d := T.to _ _ (hp.lt (by omega) _) (hp.lt (by omega) _) (hp.ne (i := k) (j := (l + r) / 2) hk (by omega) (by omega)) c
        refine run_place hp hk ha f ((l + r) / 2 + 1) r (by omega) h2 (by omega) (fun i hi => ?_) hr
        by_cases e : i = (l + r) / 2
        · rw [e]; exact d
        · exact T.tr _ _ _ (pw _ _ (by omega) (by omega)) d
omit T in
theorem gt0_bub {p : Array Nat} {k d : Nat} (hk : k < p.size) (hd : d ≤ k) {i : Nat} : gt0 (bubble p k d) i = if i = k - d then gt0 p k else if k - d < i ∧ i ≤ k then gt0 p (i - 1) else gt0 p i := by
  have g : ∀ (q : Array Nat) (k : Nat), gt0 q k = (q[k]?).getD 0 := fun q k => by simp [gt0, Array.getD, getElem?_def]; split <;> rfl
  have b := getElem?_bubble hk d hd i
  rw [g, g p k, g p (i - 1), g p i, b]
  by_cases c1 : i = k - d
  · rw [if_pos c1, if_pos c1]
  · rw [if_neg c1, if_neg c1]
    by_cases c2 : k - d < i ∧ i ≤ k
    · rw [if_pos c2, if_pos c2]
    · rw [if_neg c2, if_neg c2]
theorem run_bin : ∀ (f : Nat) (p : Array Nat) (k : Nat), Plc n p → 1 ≤ k → k + f = n → Asc lt p 0 k → ∃ p', runT lt (kas_bin f p k) = p' ∧ Plc n p' ∧ Asc lt p' 0 n
  | 0, p, k, hp, h1, h2, ha => ⟨p, rfl, hp, by rw [← h2]; exact ha⟩
  | f + 1, p, k, hp, h1, h2, ha => by
    obtain ⟨l, g1, g2, g3, g4⟩ := run_place T hp (k := k) (by omega) ha k 0 k (by omega) (Nat.le_refl _) (Nat.zero_le _) (fun i hi => by omega) (fun i hi hk => by omega)
    have e : runT lt (kas_bin (f + 1) p k) = runT lt (kas_bin f (bubble p k (k - l)) (k + 1)) := by
      show runT lt ((kas_place p k k 0 k).bind fun l => kas_bin f (bubble p k (k - l)) (k + 1)) = _
      rw [runT_bind, g1]
    rw [e]
    have hs := hp.size
    refine run_bin f _ (k + 1) (hp.of (bubble_perm _ _ _)) (by omega) (by omega) fun i _ hb => ?_
    rw [gt0_bub (by omega) (by omega), gt0_bub (by omega) (by omega)]
    have kl : k - (k - l) = l := by omega
    rw [kl]
    by_cases c1 : i = l
    · rw [if_pos c1, if_neg (by omega), if_pos (by omega), show i + 1 - 1 = i by omega]
      exact g4 i (by omega) (by omega)
    · rw [if_neg c1]
      by_cases c2 : l < i
      · rw [if_pos (by omega), if_neg (by omega), if_pos (by omega), show i + 1 - 1 = i - 1 + 1 by omega]
        exact ha (i - 1) (Nat.zero_le _) (by omega)
      · rw [if_neg (by omega)]
        by_cases c3 : i + 1 = l
        · rw [if_pos c3]
          exact g3 i (by omega)
        · rw [if_neg c3, if_neg (by omega)]
          exact ha i (Nat.zero_le _) (by omega)
theorem run_sort (hn : 2 ≤ n) : ∃ p, runT lt (kas_sort n) = p ∧ Plc n p ∧ Asc lt p 0 n := by
  obtain ⟨m, p, g1, g2, g3, g4, g5⟩ := run_count T (p := List.toArray (List.range n)) (List.Perm.refl _) hn
  unfold kas_sort
  rw [runT_bind, g1]
  show ∃ p', runT lt (if m < n then kas_bin (n - max m 1) p (max m 1) else .ret p) = p' ∧ _
  rw [show max m 1 = m by omega]
  by_cases q : m < n
  · rw [if_pos q]
    exact run_bin T (n - m) p m g2 g3 (by omega) g5
  · rw [if_neg q]
    refine ⟨p, rfl, g2, ?_⟩
    rw [show n = m by omega]
    exact g5
/-- the outcome, in order -/
theorem outT_asc : (outT lt n).Pairwise fun i j => lt i j = true := by
  unfold outT
  by_cases h : n < 2
  · rw [if_pos h]
    rcases (show n = 0 ∨ n = 1 by omega) with e | e <;> subst e
    · exact .nil
    · exact List.pairwise_singleton _ _
  · rw [if_neg h]
    obtain ⟨p, g1, g2, g3⟩ := run_sort T (by omega)
    rw [g1, List.pairwise_iff_getElem]
    intro i j hi hj hij
    rw [Array.length_toList] at hi hj
    have e : ∀ k (h : k < p.size), p.toList[k]'(by rw [Array.length_toList]; exact h) = gt0 p k := fun k h => by simp [gt0, Array.getD, h]
    rw [e i hi, e j hj]
    have hs := g2.size
    have := asc_pw T g3 (j - i - 1) i (Nat.zero_le _) (by omega)
    rwa [show i + (j - i - 1) + 1 = j by omega] at this
end
end L2.PU

namespace L2.PU
open PySem PySem.Spec PyProof.Rows
/-! ### x = dict(e), e a tuple of pairs whose keys are tuples, unlike each other -/
noncomputable abbrev PairV (H : Hp) (y : V) (kv : List Key × V) : Prop := ∃ c b, y = .ref c ∧ H c = some (.tup [.ref b, kv.2]) ∧ H b = some (.tup (kv.1.map kV))
noncomputable def rDictP : List V → Hp → VK → Prop := fun xs H Q => ∃ (p : Addr) (ys : List V) (kvs : List (List Key × V)), xs = [.ref p] ∧ H p = some (.tup ys) ∧ Paired (PairV H) ys kvs ∧ (kvs.map (·.1)).Nodup ∧ kvs.length ≤ 1000 ∧ ∀ l, H l = none → Q (.ref l) (upd H l (.dT kvs))
theorem Paired.len {α β : Type} {F : α → β → Prop} : ∀ {l₁ : List α} {l₂ : List β}, Paired F l₁ l₂ → l₁.length = l₂.length
  | _, _, .nil => rfl
  | _, _, .cons _ t => congrArg (· + 1) (Paired.len t)
theorem pairs_at {P : Program} {w : World} {H : Hp} {h : Heap} (ok : HOk P w H h) : ∀ {ys : List V} {kvs : List (List Key × V)} {its : List Value}, Paired (PairV H) ys kvs → Vals ys its →
    ∃ ps : List (List Key × Addr × Value), ps.map (·.1) = kvs.map (·.1) ∧ Paired (KR H) kvs ps ∧ Paired (fun (v : Value) (q : List Key × Addr × Value) => ∃ c, v = .ref c ∧ TupD h c #[.ref q.2.1, q.2.2]) its ps
  | _, _, _, .nil, .nil => ⟨[], rfl, .nil, .nil⟩
  | _, _, _, .cons (b := kv) ⟨c, b, e1, e2, e3⟩ r, .cons rx t => by
    obtain ⟨ps, g1, g2, g3⟩ := pairs_at ok r t
    subst e1
    cases rx
    obtain ⟨_, its, r', td⟩ := (show ObjOk P w H h c (.tup [.ref b, kv.2]) from ok c _ e2)
    cases r' with
    | cons rb r2 =>
      cases rb
      cases r2 with
      | cons rv r3 =>
        cases r3
        exact ⟨(kv.1, b, _) :: ps, by rw [List.map_cons, List.map_cons, g1], .cons ⟨rfl, e3, rv⟩ g2, .cons ⟨c, rfl, td⟩ g3⟩
theorem Paired.at {α β : Type} {F : α → β → Prop} : ∀ {l₁ : List α} {l₂ : List β} {i : Nat} {a : α}, Paired F l₁ l₂ → l₁[i]? = some a → ∃ b, l₂[i]? = some b ∧ F a b
  | _, _, _, _, .nil, e => by simp at e
  | _, _, 0, _, .cons h _, e => by simp at e; subst e; exact ⟨_, rfl, h⟩
  | _, _, i + 1, a, .cons _ t, e => by
    obtain ⟨b, h1, h2⟩ := Paired.at (i := i) (a := a) t (by simpa using e)
    exact ⟨b, by simpa using h1, h2⟩
theorem Paired.mem {α β : Type} {F : α → β → Prop} {b : β} : ∀ {l₁ : List α} {l₂ : List β}, Paired F l₁ l₂ → b ∈ l₂ → ∃ a ∈ l₁, F a b
  | _, _, .nil, e => by simp at e
  | _, _, .cons h t, e => by
    rcases List.mem_cons.mp e with e | e
    · subst e; exact ⟨_, List.mem_cons_self, h⟩
    · obtain ⟨a, m, f⟩ := Paired.mem t e; exact ⟨a, List.mem_cons_of_mem _ m, f⟩
section
variable {X : Cx} {B : Hp} {e : Expr} {fa : Rho → M D} {pos pos' p pos2 : Pos} {x : Str} {i j : Nat}
theorem call_dict_of {k : Nat} (hr : Room k X.A) : CallR X (.type "dict") rDictP := by
  intro pins s σ H xs us Q I r h
  obtain ⟨p, ys, kvs, rfl, hp, pr, nd, hl, q⟩ := h
  obtain ⟨u, rfl, rx⟩ := vals1 r
  cases rx
  obtain ⟨hz, its, r', td⟩ := (show ObjOk X.prog X.w H s.heap p (.tup ys) from I.hok p _ hp)
  obtain ⟨ps, g1, g2, g3⟩ := pairs_at I.hok pr r'
  obtain ⟨o, ho, hc, ⟨n, hd⟩, hdi⟩ := td
  have l1 := Paired.len g3
  have l2 := Paired.len g2
  refine call_dict_pairs (knd := tupleKind (mixKind X.prog X.w)) hr.hd ho hc hdi hd ps (by rw [List.size_toArray]; exact l1.symm) (by rw [g1]; exact nd) ?_ (fun i v hv => ?_) (fun y hy h' kp => ?_) (by rw [List.size_toArray, l1, ← l2]; exact le_line hl) fun h' tk dd kp => ?_
  · show X.A.units + 1 + 1 < cLine
    have := hr.un
    omega
  · rw [List.getElem?_toArray] at hv
    obtain ⟨y, e1, c, e2, o2, f1, f2, ⟨m, f3⟩, f4⟩ := Paired.at g3 hv
    exact ⟨c, y, e2, e1, fun h' kp => ⟨o2, kp _ _ f1, f2, m, f3⟩⟩
  · obtain ⟨kv, _, e1, e2, _⟩ := Paired.mem g2 hy
    have := key_of (I.hok.kept kp) e2
    rw [e1] at this
    exact this
  · obtain ⟨od, es, ep, o1, o2, o3, o4, _, o5⟩ := dd
    have hf : H s.heap.objs.size = none := I.hok.fresh (Nat.le_refl _)
    obtain ⟨_, hsys, _⟩ := dt_empty (P := X.prog) (w := X.w) (H := H) s.heap I.big
    refine ⟨.ref s.heap.objs.size, _, I.laid (a := s.heap.objs.size) (o := .dT kvs) (t' := tk) kp (Nat.le_refl _) ⟨le_line hl, hsys, ps, ?_, od, es, ep, o1, o2, o3, o4, o5⟩, rfl, q _ hf⟩
    exact Paired.mapP g2 fun a b ⟨z1, z2, z3⟩ => ⟨z1, by rw [upd_ne (fun e => by rw [e, hf] at z2; cases z2)]; exact z2, z3⟩
/-- the pairs that a datum is -/
noncomputable def pairsL : List D → Option (List (List Key × D))
  | [] => some []
  | .tup [.tup kd, v] :: r => match keysOf kd, pairsL r with | some ks, some l => some ((ks, v) :: l) | _, _ => none
  | _ :: _ => none
theorem pairsL_cons {d : D} {r : List D} {l : List (List Key × D)} (h : pairsL (d :: r) = some l) : ∃ kd v ks l', d = .tup [.tup kd, v] ∧ keysOf kd = some ks ∧ pairsL r = some l' ∧ l = (ks, v) :: l' := by
  unfold pairsL at h
  split at h
  · rename_i e; cases e
  · rename_i kd v r' e
    cases e
    split at h
    · rename_i ks l' e1 e2
      cases h
      exact ⟨kd, v, ks, l', rfl, e1, e2, rfl⟩
    · cases h
  · cases h
theorem pairsL_V {K : PySem.W.Frag} {H : Hp} : ∀ {ds : List D} {ys : List V} {l : List (List Key × D)}, pairsL ds = some l → IsL K H ds ys → ∃ kvs : List (List Key × V), Paired (PairV H) ys kvs ∧ IsT K H l kvs ∧ kvs.map (·.1) = l.map (·.1)
  | [], _, l, h, .nil => by cases h; exact ⟨[], .nil, .nil, rfl⟩
  | d :: r, _, l, h, .cons i t => by
    obtain ⟨kd, v, ks, l', rfl, e1, e2, rfl⟩ := pairsL_cons h
    obtain ⟨kvs, g1, g2, g3⟩ := pairsL_V e2 t
    cases i with
    | tup hh rr =>
      cases rr with
      | cons ik rr =>
        cases rr with
        | cons iv rr =>
          cases rr
          cases ik with
          | tup hk rk =>
            have ev := keysOf_V rk e1
            subst ev
            exact ⟨(ks, _) :: kvs, .cons ⟨_, _, rfl, hh, hk⟩ g1, .cons iv g2, by rw [List.map_cons, List.map_cons, g3]⟩
noncomputable def immT : List (List Key × D) → Bool
  | [] => true
  | kv :: r => kv.2.imm && immT r
theorem isT_off {K : PySem.W.Frag} {H : Hp} {O : Nat → Option Addr} (ho : OwnK H O) : ∀ {l : List (List Key × D)} {kvs : List (List Key × V)}, immT l = true → IsT K H l kvs → IsT K (Off H O) l kvs
  | _, _, _, .nil => .nil
  | _, _, q, .cons i r => by
    unfold immT at q
    rw [Bool.and_eq_true] at q
    exact .cons (off_imm ho q.1 i) (isT_off ho q.2 r)
noncomputable def sNewD (i : Nat) (f : Rho → M D) : Rho → Option Out := fun ρ => lft (f ρ) ρ fun d => match d with
  | .tup ds => (match pairsL ds with | some l => if immT l = true ∧ (l.map (·.1)).Nodup ∧ l.length ≤ 1000 then some (.nx (ρ.set i (some (.ow (.t l))))) else none | none => none)
  | _ => none
theorem pds_newD {k : Nat} (hr : Room k X.A) (hg : Gl X "dict") (hm : X.mg "dict" = none) (hN : X.N.Nodup) (hi : X.N[i]? = some x) (hx : Loc X.env.scope x) (he : PD X B e fa) (hst : nostar e = true := by rfl) (hs : swapsWith (.Call (.Name "dict" p) [e] [] pos2) (some (.Name x pos')) pos.line X.env = pure false := by rfl) (hf : X.fn x = true ∨ X.env.scope.names.lookup x = some .local := by first | exact .inl rfl | exact .inr rfl | assumption) :
    PDS X B (.Assign [.Name x pos'] (.Call (.Name "dict" p) [e] [] pos2) pos) (sNewD i fa) := by
  refine PS.of (ps_set hN hi hx (pe_callTy (call_dict_of hr) hg hm boot_dict (pa_cons he pa_nil (star_ok hst)) (he := star_ok hst) (hpl := by rfl)) hs hf) fun E σ H h => ?_
  obtain ⟨ρ, r, h⟩ := h
  refine ⟨ρ, r, (lft_red r h).imp fun d h1 v H1 e1 i1 => ?_⟩
  split at h1
  · rename_i ds
    split at h1
    · rename_i l hl
      split at h1
      · rename_i hh
        cases i1 with
        | tup hq rr =>
          obtain ⟨kvs, g1, g2, g3⟩ := pairsL_V hl rr
          refine ⟨_, _, kvs, rfl, hq, g1, by rw [g3]; exact hh.2.1, by rw [← isT_length g2]; exact hh.2.2, fun a ha => ?_⟩
          exact h1 _ _ ((r.mono e1).ow_new (o := .t l) (w := .dT kvs) ha (fun H' s' => IsT.mono s' g2) (fun O ho => isT_off ho hh.1 (IsT.mono (same_new ha _) g2)))
      · exact False.elim h1
    · exact False.elim h1
  · exact False.elim h1
end
/-! ### < of texts and of tuples of texts, <= of texts -/
noncomputable def txtsD : List D → Option (List Str)
  | [] => some []
  | .str x :: r => match txtsD r with | some l => some (x :: l) | none => none
  | _ :: _ => none
theorem txtsD_map (xs : List Str) : txtsD (xs.map D.str) = some xs := by
  induction xs with
  | nil => rfl
  | cons x xs ih => rw [List.map_cons, txtsD, ih]
theorem txtsD_V {K : PySem.W.Frag} {H : Hp} : ∀ {ds : List D} {vs : List V} {xs : List Str}, txtsD ds = some xs → IsL K H ds vs → vs = xs.map V.str
  | [], _, _, h, .nil => by cases h; rfl
  | d :: r, _, xs, h, .cons i t => by
    unfold txtsD at h
    split at h
    · rename_i e; cases e
    · rename_i x r' e
      cases e
      split at h
      · rename_i l e1
        cases h
        cases i
        rw [txtsD_V e1 t]
        rfl
      · cases h
    · cases h
theorem txA_of : ∀ {xs : List Str} {its : List Value}, Vals (xs.map V.str) its → TxA its xs
  | [], _, .nil => trivial
  | _ :: _, _, .cons r t => ⟨r, txA_of t⟩
noncomputable def rLtU : R2 := fun x y H Q => (∃ i j, x = .str i ∧ y = .str j ∧ Q (.bl (decide (i.cps.toList < j.cps.toList))) H) ∨ (∃ (a b : Addr) (xs ys : List Str), x = .ref a ∧ y = .ref b ∧ H a = some (.tup (xs.map V.str)) ∧ H b = some (.tup (ys.map V.str)) ∧ Q (.bl (lexS xs ys)) H)
noncomputable def gLtU : D → D → M D
  | .str i, .str j => ok (.bl (decide (i.cps.toList < j.cps.toList)))
  | .tup xs, .tup ys => match txtsD xs, txtsD ys with | some xs, some ys => ok (.bl (lexS xs ys)) | _, _ => none
  | _, _ => none
noncomputable def gLeS : D → D → M D
  | .str i, .str j => ok (.bl (!decide (j.cps.toList < i.cps.toList)))
  | _, _ => none
section
variable {X : Cx} {B : Hp} {a b : Expr} {fa fb : Rho → M D} {pos : Pos}
theorem op_lt_tup {k : Nat} (hr : Room k X.A) : OpR X (compareOp .Lt) rLtU := by
  intro pins s σ H x y v u Q I rx ry h
  rcases h with ⟨i, j, rfl, rfl, q⟩ | ⟨a, b, xs, ys, rfl, rfl, ha, hb, q⟩
  · obtain ⟨t, rfl⟩ := rx
    obtain ⟨t', rfl⟩ := ry
    exact lt_str (fin_bl I q rfl)
  · cases rx; cases ry
    obtain ⟨_, its, r1, td1⟩ := (show ObjOk X.prog X.w H s.heap a (.tup (xs.map V.str)) from I.hok a _ ha)
    obtain ⟨_, jts, r2, td2⟩ := (show ObjOk X.prog X.w H s.heap b (.tup (ys.map V.str)) from I.hok b _ hb)
    exact lt_tup_txts td1.tup td2.tup (txA_of r1) (txA_of r2) (by have := hr.un; omega) (fin_bl I q rfl)
theorem pd_ltU {k : Nat} (hr : Room k X.A) (ha : PD X B a fa) (hb : PD X B b fb) : PD X B (.Compare a [.Lt] [b] pos) (b2 gLtU fa fb) :=
  pd_cmp (op_lt_tup hr) (by
    intro H x y dx dy d Q ix iy e q
    unfold gLtU at e
    split at e
    · cases ix; cases iy; cases e
      exact .inl ⟨_, _, rfl, rfl, q _ H (Same.refl H) (.bl _)⟩
    · split at e
      · rename_i xs ys e1 e2
        cases ix with
        | tup h1 r1 =>
          cases iy with
          | tup h2 r2 =>
            cases e
            have v1 := txtsD_V e1 r1
            have v2 := txtsD_V e2 r2
            subst v1 v2
            exact .inr ⟨_, _, _, _, rfl, rfl, h1, h2, q _ H (Same.refl H) (.bl _)⟩
      · cases e
    · cases e) (by
    intro x y c h
    unfold gLtU at h
    split at h
    · cases h
    · split at h <;> cases h
    · cases h) ha hb (nomark _)
theorem op_le_str : OpR X (compareOp .LtE) (fun x y H Q => ∃ i j, x = .str i ∧ y = .str j ∧ Q (.bl (!decide (j.cps.toList < i.cps.toList))) H) := by
  intro pins s σ H x y v u Q I rx ry h
  obtain ⟨i, j, rfl, rfl, q⟩ := h
  obtain ⟨t, rfl⟩ := rx
  obtain ⟨t', rfl⟩ := ry
  exact PySem.P.le_str (fin_bl I q rfl)
theorem pd_leS (ha : PD X B a fa) (hb : PD X B b fb) : PD X B (.Compare a [.LtE] [b] pos) (b2 gLeS fa fb) :=
  pd_cmp op_le_str (by
    intro H x y dx dy d Q ix iy e q
    cases ix <;> cases iy <;> first | (cases e; done) | skip
    cases e
    exact ⟨_, _, rfl, rfl, q _ H (Same.refl H) (.bl _)⟩) (by intro x y c; cases x <;> cases y <;> (intro h; exact nomatch h)) ha hb (nomark _)
end
end L2.PU

namespace L2.PU
open PySem PySem.Spec PyProof.Rows
/-! ### sums: pairs of texts and a number -/
noncomputable abbrev Sm := List (List Str × Int)
/-- < of texts and of lists of texts is a strict order of all -/
theorem ltc_iff (a b : Str) : decide (a.cps.toList < b.cps.toList) = !leS b a := by
  rw [Bool.eq_iff_iff, decide_eq_true_eq, Bool.not_eq_true', ← Bool.not_eq_true, leS_iff]
  exact List.not_le.symm
theorem ltc_ir (a : Str) : decide (a.cps.toList < a.cps.toList) = false := by
  rw [ltc_iff]
  have := leS_total a a
  rw [Bool.or_self] at this
  rw [this]
  rfl
theorem ltc_tr {a b c : Str} (h1 : decide (a.cps.toList < b.cps.toList) = true) (h2 : decide (b.cps.toList < c.cps.toList) = true) : decide (a.cps.toList < c.cps.toList) = true :=
  decide_eq_true (List.lt_trans (of_decide_eq_true h1) (of_decide_eq_true h2))
theorem ltc_to {a b : Str} (ne : a ≠ b) (h : decide (a.cps.toList < b.cps.toList) = false) : decide (b.cps.toList < a.cps.toList) = true := by
  rw [ltc_iff] at h ⊢
  cases q : leS a b with
  | false => rfl
  | true =>
    have q2 : leS b a = true := by cases z : leS b a <;> simp_all
    exact absurd (leS_anti a b q q2) ne
theorem lex_ir : ∀ (xs : List Str), lexS xs xs = false
  | [] => rfl
  | x :: xs => by unfold lexS; rw [if_pos rfl]; exact lex_ir xs
theorem lex_tr : ∀ {xs ys zs : List Str}, lexS xs ys = true → lexS ys zs = true → lexS xs zs = true
  | [], [], _, h, _ => by cases h
  | [], _ :: _, [], _, h => by cases h
  | [], _ :: _, _ :: _, _, _ => rfl
  | _ :: _, [], _, h, _ => by cases h
  | _ :: _, _ :: _, [], _, h => by cases h
  | x :: xs, y :: ys, z :: zs, h1, h2 => by
    unfold lexS at h1 h2 ⊢
    by_cases e1 : x = y
    · subst e1
      rw [if_pos rfl] at h1
      by_cases e2 : x = z
      · subst e2
        rw [if_pos rfl] at h2 ⊢
        exact lex_tr h1 h2
      · rw [if_neg e2] at h2 ⊢
        exact h2
    · rw [if_neg e1] at h1
      by_cases e2 : y = z
      · subst e2
        rw [if_neg e1]
        exact h1
      · rw [if_neg e2] at h2
        have t := ltc_tr h1 h2
        rw [if_neg (fun e => by rw [e, ltc_ir] at t; cases t)]
        exact t
theorem lex_to : ∀ {xs ys : List Str}, xs ≠ ys → lexS xs ys = false → lexS ys xs = true
  | [], [], n, _ => absurd rfl n
  | [], _ :: _, _, h => by cases h
  | _ :: _, [], _, _ => rfl
  | x :: xs, y :: ys, n, h => by
    unfold lexS at h ⊢
    by_cases e : x = y
    · subst e
      rw [if_pos rfl] at h ⊢
      exact lex_to (fun z => n (by rw [z])) h
    · rw [if_neg e] at h
      rw [if_neg (Ne.symm e)]
      exact ltc_to e h
theorem ltI_ir (p : List Str × Int) : ltI p p = false := by unfold ltI; rw [if_pos rfl, if_pos rfl]
theorem ltI_ne {p q : List Str × Int} (n : p.1 ≠ q.1) : ltI p q = lexS p.1 q.1 := by unfold ltI; rw [if_neg n]
theorem ltI_tr {p q r : List Str × Int} (h1 : ltI p q = true) (h2 : ltI q r = true) : ltI p r = true := by
  unfold ltI at h1 h2 ⊢
  by_cases e1 : p.1 = q.1
  · rw [if_pos e1] at h1
    by_cases e2 : q.1 = r.1
    · rw [if_pos e2] at h2
      rw [if_pos (e1.trans e2)]
      split at h1
      · cases h1
      · split at h2
        · cases h2
        · have a := of_decide_eq_true h1
          have b := of_decide_eq_true h2
          rw [if_neg (by omega)]
          exact decide_eq_true (by omega)
    · rw [if_neg e2] at h2
      rw [if_neg (fun e => e2 (e1.symm.trans e)), e1]
      exact h2
  · rw [if_neg e1] at h1
    by_cases e2 : q.1 = r.1
    · rw [if_pos e2] at h2
      rw [if_neg (fun e => e1 (e.trans e2.symm)), ← e2]
      exact h1
    · rw [if_neg e2] at h2
      have t := lex_tr h1 h2
      rw [if_neg (fun e => by rw [e, lex_ir] at t; cases t)]
      exact t
/-! the keys of a sum -/
noncomputable abbrev kys (l : Sm) : List (List Str) := l.map (·.1)
theorem ix_get {l : Sm} {i : Nat} (h : i < l.length) : l[i]? = some (ixP l i) := by
  show l[i]? = some (l.getD i ([], 0))
  rw [List.getD_eq_getElem?_getD, List.getElem?_eq_getElem h]
  rfl
theorem tot_of {l : Sm} (nd : (kys l).Nodup) : Tot l.length fun i j => ltI (ixP l i) (ixP l j) where
  ir := fun i => ltI_ir _
  tr := fun i j k h1 h2 => ltI_tr h1 h2
  to := fun i j hi hj ne h => by
    have nk : (ixP l i).1 ≠ (ixP l j).1 := fun e => ne ((List.getElem?_inj (l := kys l) (by rw [List.length_map]; exact hi) nd).mp (by rw [List.getElem?_map, List.getElem?_map, ix_get hi, ix_get hj]; exact congrArg some e))
    rw [ltI_ne nk] at h
    rw [ltI_ne (Ne.symm nk)]
    exact lex_to nk h
/-- sorted(x.items()) -/
noncomputable def srtP (l : Sm) : Sm := (ordI l).map (ixP l)
theorem range_map (l : Sm) : (List.range l.length).map (ixP l) = l := by
  apply List.ext_getElem?
  intro i
  rw [List.getElem?_map]
  by_cases h : i < l.length
  · rw [List.getElem?_range h, ix_get h]; rfl
  · rw [List.getElem?_eq_none (by rw [List.length_range]; omega), List.getElem?_eq_none (by omega)]; rfl
theorem srtP_perm (l : Sm) : (srtP l).Perm l := by
  have := (ordI_perm l).map (ixP l)
  rw [range_map] at this
  exact this
theorem srtP_len (l : Sm) : (srtP l).length = l.length := (srtP_perm l).length_eq
theorem srtP_pair {l : Sm} (nd : (kys l).Nodup) : (srtP l).Pairwise fun p q => ltI p q = true := by
  unfold srtP
  rw [List.pairwise_map]
  exact outT_asc (tot_of nd)
theorem srtP_of_perm {a b : Sm} (na : (kys a).Nodup) (h : a.Perm b) : srtP a = srtP b :=
  List.Perm.eq_of_pairwise (fun p q _ _ h1 h2 => by have := ltI_tr h1 h2; rw [ltI_ir] at this; cases this) (srtP_pair na) (srtP_pair ((h.map (·.1)).nodup_iff.mp na)) (((srtP_perm a).trans h).trans (srtP_perm b).symm)
theorem srtP_keys {l : Sm} (nd : (kys l).Nodup) : (kys (srtP l)).Pairwise fun x y => lexS x y = true := by
  have nd2 : (kys (srtP l)).Nodup := ((srtP_perm l).map (·.1)).nodup_iff.mpr nd
  unfold kys at nd2 ⊢
  rw [List.pairwise_map]
  rw [List.Nodup, List.pairwise_map] at nd2
  refine List.Pairwise.imp₂ ?_ (srtP_pair nd) nd2
  intro p q h1 h2
  rw [ltI_ne h2] at h1
  exact h1
/-! ### numbers put to each other by their keys -/
noncomputable def valS (l : Sm) (k : List Str) : Int := ((l.find? fun p => decide (p.1 = k)).map (·.2)).getD 0
noncomputable def putS (l : Sm) (k : List Str) (v : Int) : Sm := if (l.any fun p => decide (p.1 = k)) = true then l.map (fun p => if p.1 = k then (p.1, v) else p) else l ++ [(k, v)]
noncomputable def addP (l : Sm) (p : List Str × Int) : Sm := putS l p.1 (valS l p.1 + p.2)
noncomputable def accS (c l : Sm) : Sm := c.foldl addP l
noncomputable def tot : Sm → List Str → Int
  | [], _ => 0
  | p :: c, k => (if p.1 = k then p.2 else 0) + tot c k
theorem tot_perm {a b : Sm} (h : a.Perm b) (k : List Str) : tot a k = tot b k := by
  induction h with
  | nil => rfl
  | cons x _ ih => rw [tot, tot, ih]
  | swap x y l => rw [tot, tot, tot, tot]; omega
  | trans _ _ h1 h2 => rw [h1, h2]
theorem any_key {l : Sm} {k : List Str} : (l.any fun p => decide (p.1 = k)) = true ↔ k ∈ kys l := by
  rw [List.any_eq_true, List.mem_map]
  constructor
  · rintro ⟨p, hp, e⟩; exact ⟨p, hp, of_decide_eq_true e⟩
  · rintro ⟨p, hp, e⟩; exact ⟨p, hp, decide_eq_true e⟩
theorem val_none {l : Sm} {k : List Str} (h : k ∉ kys l) : valS l k = 0 := by
  unfold valS
  rw [List.find?_eq_none.mpr fun p hp e => h (List.mem_map.mpr ⟨p, hp, of_decide_eq_true e⟩)]
  rfl
theorem val_mem {l : Sm} (nd : (kys l).Nodup) {p : List Str × Int} (hp : p ∈ l) : valS l p.1 = p.2 := by
  induction l with
  | nil => cases hp
  | cons q l ih =>
    rw [show kys (q :: l) = q.1 :: kys l from rfl, List.nodup_cons] at nd
    unfold valS
    rw [List.find?_cons]
    rcases List.mem_cons.mp hp with e | e
    · subst e; simp
    · have ne : ¬ q.1 = p.1 := fun z => nd.1 (by rw [z]; exact List.mem_map_of_mem e)
      rw [decide_eq_false ne]
      exact ih nd.2 e
theorem mem_val {l : Sm} (nd : (kys l).Nodup) {k : List Str} {v : Int} : (k, v) ∈ l ↔ k ∈ kys l ∧ valS l k = v := by
  constructor
  · intro h; exact ⟨List.mem_map_of_mem (f := Prod.fst) h, val_mem nd h⟩
  · rintro ⟨h1, h2⟩
    obtain ⟨p, hp, e⟩ := List.mem_map.mp h1
    have := val_mem nd hp
    rw [e, h2] at this
    rw [show (k, v) = p from Prod.ext e.symm this]
    exact hp
theorem tot_val {l : Sm} (nd : (kys l).Nodup) (k : List Str) : tot l k = valS l k := by
  induction l with
  | nil => rfl
  | cons q l ih =>
    have nd' := nd
    rw [show kys (q :: l) = q.1 :: kys l from rfl, List.nodup_cons] at nd
    rw [tot, ih nd.2]
    by_cases e : q.1 = k
    · subst e
      rw [if_pos rfl, val_none nd.1, val_mem nd' List.mem_cons_self]
      omega
    · rw [if_neg e]
      have : valS (q :: l) k = valS l k := by unfold valS; rw [List.find?_cons, decide_eq_false e]
      rw [this]
      omega
theorem put_keys (l : Sm) (k : List Str) (v : Int) : kys (putS l k v) = if k ∈ kys l then kys l else kys l ++ [k] := by
  unfold putS
  by_cases h : k ∈ kys l
  · rw [if_pos (any_key.mpr h), if_pos h]
    unfold kys
    rw [List.map_map]
    apply List.map_congr_left
    intro p _
    show (if p.1 = k then (p.1, v) else p).1 = p.1
    split <;> rfl
  · rw [if_neg (fun z => h (any_key.mp z)), if_neg h]
    unfold kys
    rw [List.map_append]
    rfl
theorem put_val {l : Sm} {k : List Str} {v : Int} (k' : List Str) : valS (putS l k v) k' = if k' = k then v else valS l k' := by
  unfold putS
  by_cases h : k ∈ kys l
  · rw [if_pos (any_key.mpr h)]
    induction l with
    | nil => cases h
    | cons q l ih =>
      rw [List.map_cons]
      unfold valS
      rw [List.find?_cons, List.find?_cons]
      by_cases e : q.1 = k
      · rw [if_pos e]
        by_cases e2 : k' = k
        · rw [if_pos e2, decide_eq_true (e.trans e2.symm)]
          rfl
        · rw [if_neg e2, decide_eq_false (fun z : q.1 = k' => e2 (z.symm.trans e))]
          by_cases h2 : k ∈ kys l
          · have := ih h2
            rw [if_neg e2] at this
            exact this
          · have : l.map (fun p => if p.1 = k then (p.1, v) else p) = l := by
              conv => rhs; rw [← List.map_id l]
              apply List.map_congr_left
              intro p hp
              exact if_neg fun z => h2 (by rw [← z]; exact List.mem_map_of_mem hp)
            rw [this]
      · rw [if_neg e]
        have h2 : k ∈ kys l := by
          rcases List.mem_cons.mp h with z | z
          · exact absurd z.symm e
          · exact z
        by_cases e3 : q.1 = k'
        · rw [decide_eq_true e3, if_neg (fun z => e (e3.trans z))]
        · rw [decide_eq_false e3]
          exact ih h2
  · rw [if_neg (fun z => h (any_key.mp z))]
    unfold valS
    rw [List.find?_append]
    by_cases e : k' = k
    · rw [if_pos e, List.find?_eq_none.mpr fun p hp z => h (List.mem_map.mpr ⟨p, hp, (of_decide_eq_true z).trans e⟩)]
      simp [e]
    · rw [if_neg e]
      cases q : l.find? fun p => decide (p.1 = k') with
      | some p => rfl
      | none => simp [Ne.symm e]
theorem add_nodup {l : Sm} (nd : (kys l).Nodup) (p : List Str × Int) : (kys (addP l p)).Nodup := by
  unfold addP
  rw [put_keys]
  split
  · exact nd
  · rename_i h
    rw [List.nodup_append]
    exact ⟨nd, by simp, fun x hx y hy => by rw [List.mem_singleton] at hy; subst hy; exact fun e => h (e ▸ hx)⟩
theorem add_keys (l : Sm) (p : List Str × Int) (k : List Str) : k ∈ kys (addP l p) ↔ k ∈ kys l ∨ k = p.1 := by
  unfold addP
  rw [put_keys]
  split
  · rename_i h
    constructor
    · exact .inl
    · rintro (z | z)
      · exact z
      · rw [z]; exact h
  · rw [List.mem_append, List.mem_singleton]
theorem add_val (l : Sm) (p : List Str × Int) (k : List Str) : valS (addP l p) k = valS l k + (if p.1 = k then p.2 else 0) := by
  unfold addP
  rw [put_val]
  by_cases e : k = p.1
  · rw [if_pos e, if_pos e.symm, e]
  · rw [if_neg e, if_neg (Ne.symm e)]; omega
theorem acc_nodup : ∀ (c : Sm) {l : Sm}, (kys l).Nodup → (kys (accS c l)).Nodup
  | [], _, h => h
  | p :: c, _, h => acc_nodup c (add_nodup h p)
theorem acc_keys : ∀ (c l : Sm) (k : List Str), k ∈ kys (accS c l) ↔ k ∈ kys l ∨ k ∈ kys c
  | [], l, k => by simp [accS]
  | p :: c, l, k => by
    show k ∈ kys (accS c (addP l p)) ↔ _
    rw [acc_keys c, add_keys, show kys (p :: c) = p.1 :: kys c from rfl, List.mem_cons]
    constructor
    · rintro ((h | h) | h)
      · exact .inl h
      · exact .inr (.inl h)
      · exact .inr (.inr h)
    · rintro (h | h | h)
      · exact .inl (.inl h)
      · exact .inl (.inr h)
      · exact .inr h
theorem acc_val : ∀ (c l : Sm) (k : List Str), valS (accS c l) k = valS l k + tot c k
  | [], l, k => by simp [accS, tot]
  | p :: c, l, k => by
    show valS (accS c (addP l p)) k = _
    rw [acc_val c, add_val, tot]
    omega
theorem nodup_of_keys {l : Sm} (h : (kys l).Nodup) : l.Nodup := by
  unfold kys at h
  rw [List.Nodup, List.pairwise_map] at h
  exact h.imp fun hn e => hn (by rw [e])
theorem acc_same {c l c' l' : Sm} (n : (kys l).Nodup) (n' : (kys l').Nodup) (hk : ∀ k, (k ∈ kys l ∨ k ∈ kys c) ↔ (k ∈ kys l' ∨ k ∈ kys c')) (hv : ∀ k, valS l k + tot c k = valS l' k + tot c' k) : (accS c l).Perm (accS c' l') := by
  have d1 := acc_nodup c n
  have d2 := acc_nodup c' n'
  refine (List.perm_ext_iff_of_nodup (nodup_of_keys d1) (nodup_of_keys d2)).mpr fun p => ?_
  obtain ⟨k, v⟩ := p
  rw [mem_val d1, mem_val d2, acc_keys, acc_keys, acc_val, acc_val, hk k, hv k]
/-- plus, times -/
noncomputable def plusF (a b : Sm) : Sm := srtP (accS b a)
noncomputable def prodC (a b : Sm) : Sm := a.flatMap fun p => b.map fun q => (srtS (p.1 ++ q.1), p.2 * q.2)
noncomputable def timesF (a b : Sm) : Sm := srtP (accS (prodC a b) [])
theorem plus_comm {a b : Sm} (na : (kys a).Nodup) (nb : (kys b).Nodup) : plusF a b = plusF b a :=
  srtP_of_perm (acc_nodup b na) (acc_same na nb (fun k => or_comm) fun k => by rw [← tot_val na, ← tot_val nb]; omega)
theorem flat_swap {α β γ : Type} (f : α → β → γ) : ∀ (a : List α) (b : List β), (a.flatMap fun x => b.map fun y => f x y).Perm (b.flatMap fun y => a.map fun x => f x y)
  | [], b => by
    have : (b.flatMap fun y => ([] : List α).map fun x => f x y) = [] := by induction b with | nil => rfl | cons y b ih => simp
    rw [this]
    exact .nil
  | x :: a, b => by
    rw [List.flatMap_cons]
    have g : ∀ (b : List β) (h : β → List γ), (b.flatMap fun y => f x y :: h y).Perm (b.map (f x) ++ b.flatMap h) := by
      intro b h
      induction b with
      | nil => exact .nil
      | cons y b ih =>
        rw [List.flatMap_cons, List.map_cons, List.flatMap_cons, List.cons_append, List.cons_append]
        refine .cons _ ?_
        have := ih.append_left (h y)
        refine this.trans ?_
        rw [← List.append_assoc, ← List.append_assoc]
        exact (List.perm_append_comm).append_right _
    refine ((flat_swap f a b).append_left _).trans ?_
    exact (g b fun y => a.map fun x => f x y).symm
theorem srtS_of_perm {a b : List Str} (h : a.Perm b) : srtS a = srtS b :=
  List.Perm.eq_of_pairwise (fun a b _ _ h1 h2 => leS_anti a b h1 h2) (srtS_pair a) (srtS_pair b) (((srtS_perm a).trans h).trans (srtS_perm b).symm)
theorem prod_perm (a b : Sm) : (prodC a b).Perm (prodC b a) := by
  have := flat_swap (fun (p q : List Str × Int) => (srtS (p.1 ++ q.1), p.2 * q.2)) a b
  refine this.trans (List.Perm.of_eq ?_)
  unfold prodC
  congr 1
  funext q
  apply List.map_congr_left
  intro p _
  rw [srtS_of_perm List.perm_append_comm, Int.mul_comm]
theorem times_comm (a b : Sm) : timesF a b = timesF b a :=
  srtP_of_perm (acc_nodup _ .nil) (acc_same .nil .nil (fun k => by rw [((prod_perm a b).map (·.1)).mem_iff]) fun k => by rw [tot_perm (prod_perm a b)])
end L2.PU

namespace L2.PU
open PySem PySem.Spec PyProof.Rows
/-! ### sums as data, dicts of sums -/
noncomputable def sD (l : Sm) : D := .tup (l.map pD)
noncomputable def kvD (p : List Str × Int) : List Key × D := (p.1.map .inr, .int p.2)
theorem pD_imm (p : List Str × Int) : (pD p).imm = true := by
  show ((tS p.1).imm && ((D.int p.2).imm && true)) = true
  rw [imm_tS]
  rfl
theorem immL_sm (l : Sm) : immL (l.map pD) = true := by
  induction l with
  | nil => rfl
  | cons p l ih =>
    show ((pD p).imm && immL (l.map pD)) = true
    rw [pD_imm, ih]
    rfl
theorem sD_imm (l : Sm) : (sD l).imm = true := immL_sm l
theorem pD_pl {p : List Str × Int} (h : p.1.length ≤ 1000) : (pD p).pl = true := by
  show (true && ((tS p.1).pl && (true && true))) = true
  rw [pl_tS p.1 h]
  rfl
theorem plL_sm : ∀ {l : Sm}, (∀ p ∈ l, p.1.length ≤ 1000) → plL (l.map pD) = true
  | [], _ => rfl
  | p :: l, h => by
    show ((pD p).pl && plL (l.map pD)) = true
    rw [pD_pl (h p List.mem_cons_self), plL_sm fun q hq => h q (List.mem_cons_of_mem _ hq)]
    rfl
theorem sD_pl {l : Sm} (h : ∀ p ∈ l, p.1.length ≤ 1000) (hl : l.length ≤ 1000) : (sD l).pl = true := by
  show (decide ((l.map pD).length ≤ 100000) && plL (l.map pD)) = true
  rw [plL_sm h, decide_eq_true (by rw [List.length_map]; omega)]
  rfl
theorem pD_dep (p : List Str × Int) : (pD p).dep ≤ 2 := by
  show max (tS p.1).dep (max 0 0) + 1 ≤ 2
  have := dep_tS p.1
  omega
theorem depL_sm : ∀ (l : Sm), depL (l.map pD) ≤ 2
  | [] => Nat.zero_le _
  | p :: l => by
    show max (pD p).dep (depL (l.map pD)) ≤ 2
    have := pD_dep p
    have := depL_sm l
    omega
theorem sD_dep (l : Sm) : (sD l).dep ≤ 3 := by
  show depL (l.map pD) + 1 ≤ 3
  have := depL_sm l
  omega
theorem val_kv (l : Sm) (k : List Str) : (valD (l.map kvD) (k.map .inr)).getD (.int 0) = .int (valS l k) := by
  unfold valD valS
  induction l with
  | nil => rfl
  | cons p l ih =>
    rw [List.map_cons, List.find?_cons, List.find?_cons]
    by_cases e : p.1 = k
    · rw [decide_eq_true (show (kvD p).1 = k.map .inr from inr_inj.mpr e), decide_eq_true e]
      rfl
    · rw [decide_eq_false (fun z : (kvD p).1 = k.map .inr => e (inr_inj.mp z)), decide_eq_false e]
      exact ih
theorem put_kv (l : Sm) (k : List Str) (v : Int) : putT (l.map kvD) (k.map .inr) (.int v) = (putS l k v).map kvD := by
  have ha : ((l.map kvD).any fun kv => decide (kv.1 = k.map .inr)) = (l.any fun p => decide (p.1 = k)) := by
    rw [List.any_map]
    congr 1
    funext p
    show decide ((kvD p).1 = k.map Sum.inr) = _
    by_cases e : p.1 = k
    · rw [decide_eq_true (show (kvD p).1 = k.map Sum.inr from inr_inj.mpr e), decide_eq_true e]
    · rw [decide_eq_false (fun z : (kvD p).1 = k.map Sum.inr => e (inr_inj.mp z)), decide_eq_false e]
  unfold putT putS
  rw [ha]
  split
  · rw [List.map_map, List.map_map]
    apply List.map_congr_left
    intro p _
    show (if (kvD p).1 = k.map Sum.inr then ((kvD p).1, D.int v) else kvD p) = kvD (if p.1 = k then (p.1, v) else p)
    by_cases e : p.1 = k
    · rw [if_pos (show (kvD p).1 = k.map Sum.inr from inr_inj.mpr e), if_pos e]; rfl
    · rw [if_neg (fun z : (kvD p).1 = k.map Sum.inr => e (inr_inj.mp z)), if_neg e]
  · rw [List.map_append]
    rfl
theorem dec_kv (l : Sm) : decI (l.map kvD) = some l := by
  induction l with
  | nil => rfl
  | cons p l ih =>
    show (match strK (p.1.map Sum.inr), decI (l.map kvD) with | some xs, some l => some ((xs, p.2) :: l) | _, _ => none) = _
    rw [strK_inr, ih]
theorem pairs_kv (l : Sm) : pairsL (l.map pD) = some (l.map kvD) := by
  induction l with
  | nil => rfl
  | cons p l ih =>
    show (match keysOf (p.1.map D.str), pairsL (l.map pD) with | some ks, some l => some ((ks, D.int p.2) :: l) | _, _ => none) = _
    rw [keysOf_strs, ih]
    rfl
theorem nodup_kv {l : Sm} (h : (kys l).Nodup) : ((l.map kvD).map (·.1)).Nodup := by
  rw [List.map_map]
  unfold kys at h
  rw [List.Nodup, List.pairwise_map] at h ⊢
  exact h.imp fun hn e => hn (inr_inj.mp e)
theorem imm_kv (l : Sm) : immT (l.map kvD) = true := by
  induction l with
  | nil => rfl
  | cons p l ih => show ((D.int p.2).imm && immT (l.map kvD)) = true; rw [ih]; rfl
theorem newD_ok {i : Nat} {f : Rho → M D} {ρ : Rho} {l : Sm} (h : f ρ = ok (sD l)) (nd : (kys l).Nodup) (hl : l.length ≤ 1000) : sNewD i f ρ = some (.nx (ρ.set i (some (.ow (.t (l.map kvD)))))) := by
  unfold sNewD
  rw [h, lft_ok]
  show (match pairsL (l.map pD) with | some l => _ | none => _) = _
  rw [pairs_kv]
  show (if immT (l.map kvD) = true ∧ ((l.map kvD).map (·.1)).Nodup ∧ (l.map kvD).length ≤ 1000 then _ else _) = _
  rw [if_pos ⟨imm_kv l, nodup_kv nd, by rw [List.length_map]; exact hl⟩]
theorem get_ok {i j : Nat} {ρ : Rho} {l : Sm} {k : List Str} (hi : ρ[i]? = some (some (.ow (.t (l.map kvD))))) (hj : keyAt ρ j = some (k.map .inr)) : dGet2 i j (con (.int 0)) ρ = ok (.int (valS l k)) := by
  unfold dGet2
  rw [hi, hj]
  show bnd (ok (D.int 0)) _ = _
  rw [bnd_ok, val_kv]
theorem put_ok {i j : Nat} {f : Rho → M D} {ρ : Rho} {l : Sm} {k : List Str} {v : Int} (hi : ρ[i]? = some (some (.ow (.t (l.map kvD))))) (hj : keyAt ρ j = some (k.map .inr)) (hf : f ρ = ok (.int v)) (hl : l.length < 100000) :
    sPutT i j f ρ = some (.nx (ρ.set i (some (.ow (.t ((putS l k v).map kvD)))))) := by
  unfold sPutT
  rw [hi, hj]
  show lft (f ρ) ρ _ = _
  rw [hf, lft_ok, if_pos ⟨rfl, by rw [List.length_map]; exact hl⟩, put_kv]
theorem srtI_ok {i : Nat} {ρ : Rho} {l : Sm} (hi : dictAt ρ i = some (l.map kvD)) (hl : l.length < 64) : dSrtI i ρ = ok (.lst ((srtP l).map pD)) := by
  unfold dSrtI
  rw [hi]
  show (match decI (l.map kvD) with | some l => _ | none => _) = _
  rw [dec_kv]
  show (if l.length < 64 then ok (D.lst ((ordI l).map fun j => pD (ixP l j))) else none) = _
  rw [if_pos hl]
  unfold srtP
  rw [List.map_map]
  rfl
theorem key_tS {ρ : Rho} {j : Nat} {k : List Str} (h : ρ[j]? = some (some (.sh (tS k)))) : keyAt ρ j = some (k.map .inr) := by
  unfold keyAt
  rw [h]
  exact keysOf_strs k
theorem look_sh {ρ : Rho} {j : Nat} {d : D} (h : ρ[j]? = some (some (.sh d))) : look j ρ = ok d := by unfold look; rw [h]; rfl
theorem addP_len (l : Sm) (p : List Str × Int) : (addP l p).length ≤ l.length + 1 := by
  unfold addP putS
  split
  · rw [List.length_map]; omega
  · rw [List.length_append, List.length_singleton]; omega
/-- x[k] = x.get(k, 0) + e -/
theorem addk_ok {i j : Nat} {f : Rho → M D} {ρ : Rho} {l : Sm} {k : List Str} {n : Int} (hi : ρ[i]? = some (some (.ow (.t (l.map kvD))))) (hj : keyAt ρ j = some (k.map .inr)) (hf : f ρ = ok (.int n)) (hl : l.length < 100000) :
    sSeq (sPutT i j (b2 gPlus (dGet2 i j (con (.int 0))) f)) sNil ρ = some (.nx (ρ.set i (some (.ow (.t ((addP l (k, n)).map kvD)))))) := by
  rw [sSeq_nx (put_ok (v := valS l k + n) hi hj (add_ok (get_ok hi hj) hf) hl)]
  rfl
/-- for k, n in b: x[k] = x.get(k, 0) + n -/
theorem plus_loop {i j k : Nat} (nij : i ≠ j) (nik : i ≠ k) (njk : j ≠ k) : ∀ (b l : Sm) (ρ : Rho), i < ρ.length → j < ρ.length → k < ρ.length → ρ[i]? = some (some (.ow (.t (l.map kvD)))) → l.length + b.length < 100000 →
    ∃ ρ', loop (gN2 j k) (sSeq (sPutT i j (b2 gPlus (dGet2 i j (con (.int 0))) (look k))) sNil) (b.map pD) ρ = some (.nx ρ') ∧ ρ'[i]? = some (some (.ow (.t ((accS b l).map kvD)))) ∧ ρ'.length = ρ.length ∧ ∀ m, m ≠ i → m ≠ j → m ≠ k → ρ'[m]? = ρ[m]?
  | [], l, ρ, _, _, _, h, _ => ⟨ρ, rfl, h, rfl, fun _ _ _ _ => rfl⟩
  | p :: b, l, ρ, hi, hj, hk, h, hl => by
    rw [List.length_cons] at hl
    have g : gN2 j k (pD p) ρ = some ((ρ.set j (some (.sh (tS p.1)))).set k (some (.sh (.int p.2)))) := by
      show some (setV k (.int p.2) (setV j (tS p.1) ρ)) = _
      rw [setV_imm (imm_tS _), setV_imm rfl]
    have l1 : ((ρ.set j (some (.sh (tS p.1)))).set k (some (.sh (.int p.2)))).length = ρ.length := by rw [List.length_set, List.length_set]
    have h1 : ((ρ.set j (some (.sh (tS p.1)))).set k (some (.sh (.int p.2))))[i]? = some (some (.ow (.t (l.map kvD)))) := by rw [List.getElem?_set_ne (Ne.symm nik), List.getElem?_set_ne (Ne.symm nij)]; exact h
    have h2 : ((ρ.set j (some (.sh (tS p.1)))).set k (some (.sh (.int p.2))))[j]? = some (some (.sh (tS p.1))) := by rw [List.getElem?_set_ne (Ne.symm njk), List.getElem?_set_self hj]
    have h3 : ((ρ.set j (some (.sh (tS p.1)))).set k (some (.sh (.int p.2))))[k]? = some (some (.sh (.int p.2))) := List.getElem?_set_self (by rw [List.length_set]; exact hk)
    have e := addk_ok h1 (key_tS h2) (look_sh h3) (by omega)
    have al := addP_len l (p.1, p.2)
    obtain ⟨ρ', e1, e2, e3, e4⟩ := plus_loop nij nik njk b (addP l (p.1, p.2)) (((ρ.set j (some (.sh (tS p.1)))).set k (some (.sh (.int p.2)))).set i (some (.ow (.t ((addP l (p.1, p.2)).map kvD))))) (by rw [List.length_set, l1]; exact hi) (by rw [List.length_set, l1]; exact hj) (by rw [List.length_set, l1]; exact hk)
      (List.getElem?_set_self (by rw [l1]; exact hi)) (by omega)
    refine ⟨ρ', by rw [List.map_cons, loop_cons g e]; exact e1, e2, by rw [e3, List.length_set, l1], fun m m1 m2 m3 => ?_⟩
    rw [e4 m m1 m2 m3, List.getElem?_set_ne (Ne.symm m1), List.getElem?_set_ne (Ne.symm m3), List.getElem?_set_ne (Ne.symm m2)]
theorem forN_sD {n : Nat} {G : D → Rho → Option Rho} {F : Rho → Option Out} {ρ : Rho} {b : Sm} (h : ρ[n]? = some (some (.sh (sD b)))) : sForN n G F ρ = loop G F (b.map pD) ρ := by
  unfold sForN
  rw [look_sh h]
  show loop G F (b.map pD) (relAt n ρ) = _
  unfold relAt
  rw [h]
theorem ne_set {ρ : Rho} {a b : Nat} {v : Option SV} (h : a ≠ b) : (ρ.set a v)[b]? = ρ[b]? := List.getElem?_set_ne h
theorem srt_cat {x z : Nat} {ρ : Rho} {p q : List Str} (hx : ρ[x]? = some (some (.sh (tS p)))) (hz : ρ[z]? = some (some (.sh (tS q)))) (hl : p.length + q.length < 64) : f1 toT (f1 srtL (b2 gPlus (look x) (look z))) ρ = ok (tS (srtS (p ++ q))) := by
  have e1 : b2 gPlus (look x) (look z) ρ = ok (tS (p ++ q)) := by
    refine b2_ok (look_sh hx) (look_sh hz) ?_
    show (if (p.map D.str).length + (q.map D.str).length ≤ 100000 then ok (D.tup (p.map D.str ++ q.map D.str)) else none) = _
    rw [if_pos (by rw [List.length_map, List.length_map]; omega), ← List.map_append]
  have e2 : f1 srtL (b2 gPlus (look x) (look z)) ρ = ok (.lst ((srtS (p ++ q)).map D.str)) := by
    refine f1_ok e1 ?_
    show (match strL ((p ++ q).map D.str) with | some xs => if xs.length < 64 then ok (D.lst ((srtS xs).map .str)) else none | none => none) = _
    rw [strL_map]
    show (if (p ++ q).length < 64 then _ else _) = _
    rw [if_pos (by rw [List.length_append]; exact hl)]
  exact f1_ok e2 rfl
noncomputable abbrev innerT (i : Nat) : Rho → Option Out := sSeq (sSet (i + 5) (f1 toT (f1 srtL (b2 gPlus (look (i + 1)) (look (i + 3)))))) (sSeq (sPutT i (i + 5) (b2 gPlus (dGet2 i (i + 5) (con (.int 0))) (b2 gTimes (look (i + 2)) (look (i + 4))))) sNil)
theorem times_inner {i : Nat} {p : List Str × Int} : ∀ (b l : Sm) (ρ : Rho), i + 5 < ρ.length → ρ[i]? = some (some (.ow (.t (l.map kvD)))) → ρ[i + 1]? = some (some (.sh (tS p.1))) → ρ[i + 2]? = some (some (.sh (.int p.2))) → l.length + b.length < 100000 →
    (∀ q ∈ b, p.1.length + q.1.length < 64 ∧ mulB p.2 q.2 = true) →
    ∃ ρ', loop (gN2 (i + 3) (i + 4)) (innerT i) (b.map pD) ρ = some (.nx ρ') ∧ ρ'[i]? = some (some (.ow (.t ((accS (b.map fun q => (srtS (p.1 ++ q.1), p.2 * q.2)) l).map kvD)))) ∧ ρ'.length = ρ.length ∧ (accS (b.map fun q => (srtS (p.1 ++ q.1), p.2 * q.2)) l).length ≤ l.length + b.length ∧ ∀ m, m ≠ i → m ≠ i + 3 → m ≠ i + 4 → m ≠ i + 5 → ρ'[m]? = ρ[m]?
  | [], l, ρ, _, h, _, _, _, _ => ⟨ρ, rfl, h, rfl, Nat.le_refl _, fun _ _ _ _ _ => rfl⟩
  | q :: b, l, ρ, hlen, h, hx, hy, hl, hb => by
    rw [List.length_cons] at hl
    obtain ⟨b1, b2'⟩ := hb q List.mem_cons_self
    have g : gN2 (i + 3) (i + 4) (pD q) ρ = some ((ρ.set (i + 3) (some (.sh (tS q.1)))).set (i + 4) (some (.sh (.int q.2)))) := by
      show some (setV (i + 4) (.int q.2) (setV (i + 3) (tS q.1) ρ)) = _
      rw [setV_imm (imm_tS _), setV_imm rfl]
    obtain ⟨ρ1, hρ1⟩ : ∃ ρ1, ρ1 = (ρ.set (i + 3) (some (.sh (tS q.1)))).set (i + 4) (some (.sh (.int q.2))) := ⟨_, rfl⟩
    rw [← hρ1] at g
    have l1 : ρ1.length = ρ.length := by rw [hρ1, List.length_set, List.length_set]
    have o1 : ∀ m, m ≠ i + 3 → m ≠ i + 4 → ρ1[m]? = ρ[m]? := fun m m1 m2 => by rw [hρ1, ne_set (Ne.symm m2), ne_set (Ne.symm m1)]
    have z1 : ρ1[i + 3]? = some (some (.sh (tS q.1))) := by rw [hρ1, ne_set (by omega), List.getElem?_set_self (by omega)]
    have w1 : ρ1[i + 4]? = some (some (.sh (.int q.2))) := by rw [hρ1]; exact List.getElem?_set_self (by rw [List.length_set]; omega)
    have e5 := sSet_imm (i := i + 5) (srt_cat ((o1 (i + 1) (by omega) (by omega)).trans hx) z1 b1) (imm_tS _)
    obtain ⟨ρ2, hρ2⟩ : ∃ ρ2, ρ2 = ρ1.set (i + 5) (some (.sh (tS (srtS (p.1 ++ q.1))))) := ⟨_, rfl⟩
    rw [← hρ2] at e5
    have l2 : ρ2.length = ρ.length := by rw [hρ2, List.length_set, l1]
    have o2 : ∀ m, m ≠ i + 5 → ρ2[m]? = ρ1[m]? := fun m m1 => by rw [hρ2, ne_set (Ne.symm m1)]
    have u2 : ρ2[i + 5]? = some (some (.sh (tS (srtS (p.1 ++ q.1))))) := by rw [hρ2]; exact List.getElem?_set_self (by omega)
    have i2 : ρ2[i]? = some (some (.ow (.t (l.map kvD)))) := (o2 i (by omega)).trans ((o1 i (by omega) (by omega)).trans h)
    have y2 : ρ2[i + 2]? = some (some (.sh (.int p.2))) := (o2 _ (by omega)).trans ((o1 _ (by omega) (by omega)).trans hy)
    have w2 : ρ2[i + 4]? = some (some (.sh (.int q.2))) := (o2 _ (by omega)).trans w1
    have e6 := addk_ok i2 (key_tS u2) (mul_ok (look_sh y2) (look_sh w2) b2') (by omega)
    have e7 : innerT i ρ1 = some (.nx (ρ2.set i (some (.ow (.t ((addP l (srtS (p.1 ++ q.1), p.2 * q.2)).map kvD)))))) := by
      show sSeq _ _ ρ1 = _
      rw [sSeq_nx e5]
      exact e6
    have al := addP_len l (srtS (p.1 ++ q.1), p.2 * q.2)
    obtain ⟨ρ', k1, k2, k3, k5, k4⟩ := times_inner (i := i) (p := p) b (addP l (srtS (p.1 ++ q.1), p.2 * q.2)) (ρ2.set i (some (.ow (.t ((addP l (srtS (p.1 ++ q.1), p.2 * q.2)).map kvD))))) (by rw [List.length_set, l2]; exact hlen) (List.getElem?_set_self (by omega))
      (by rw [ne_set (by omega)]; exact (o2 _ (by omega)).trans ((o1 _ (by omega) (by omega)).trans hx)) (by rw [ne_set (by omega)]; exact y2) (by omega) (fun q' hq' => hb q' (List.mem_cons_of_mem _ hq'))
    refine ⟨ρ', by rw [List.map_cons, loop_cons g e7]; exact k1, k2, by rw [k3, List.length_set, l2], ?_, fun m m1 m2 m3 m4 => ?_⟩
    · rw [List.length_cons]
      show (accS (b.map fun q => (srtS (p.1 ++ q.1), p.2 * q.2)) (addP l (srtS (p.1 ++ q.1), p.2 * q.2))).length ≤ _
      omega
    · rw [k4 m m1 m2 m3 m4, ne_set (Ne.symm m1), o2 m m4, o1 m m2 m3]
theorem acc_app (c d l : Sm) : accS (c ++ d) l = accS d (accS c l) := List.foldl_append
theorem times_loop {i n : Nat} (hn : n < i) {b : Sm} : ∀ (a l : Sm) (ρ : Rho), i + 5 < ρ.length → ρ[i]? = some (some (.ow (.t (l.map kvD)))) → ρ[n]? = some (some (.sh (sD b))) → l.length + a.length * b.length < 100000 →
    (∀ p ∈ a, ∀ q ∈ b, p.1.length + q.1.length < 64 ∧ mulB p.2 q.2 = true) →
    ∃ ρ', loop (gN2 (i + 1) (i + 2)) (sSeq (sForN n (gN2 (i + 3) (i + 4)) (innerT i)) sNil) (a.map pD) ρ = some (.nx ρ') ∧ ρ'[i]? = some (some (.ow (.t ((accS (prodC a b) l).map kvD)))) ∧ (accS (prodC a b) l).length ≤ l.length + a.length * b.length
  | [], l, ρ, _, h, _, _, _ => ⟨ρ, rfl, h, by simp [prodC, accS]⟩
  | p :: a, l, ρ, hlen, h, hb, hl, hm => by
    have em : (a.length + 1) * b.length = a.length * b.length + b.length := Nat.succ_mul _ _
    rw [List.length_cons, em] at hl
    have g : gN2 (i + 1) (i + 2) (pD p) ρ = some ((ρ.set (i + 1) (some (.sh (tS p.1)))).set (i + 2) (some (.sh (.int p.2)))) := by
      show some (setV (i + 2) (.int p.2) (setV (i + 1) (tS p.1) ρ)) = _
      rw [setV_imm (imm_tS _), setV_imm rfl]
    obtain ⟨ρ1, hρ1⟩ : ∃ ρ1, ρ1 = (ρ.set (i + 1) (some (.sh (tS p.1)))).set (i + 2) (some (.sh (.int p.2))) := ⟨_, rfl⟩
    rw [← hρ1] at g
    have l1 : ρ1.length = ρ.length := by rw [hρ1, List.length_set, List.length_set]
    have o1 : ∀ m, m ≠ i + 1 → m ≠ i + 2 → ρ1[m]? = ρ[m]? := fun m m1 m2 => by rw [hρ1, ne_set (Ne.symm m2), ne_set (Ne.symm m1)]
    have x1 : ρ1[i + 1]? = some (some (.sh (tS p.1))) := by rw [hρ1, ne_set (by omega), List.getElem?_set_self (by omega)]
    have y1 : ρ1[i + 2]? = some (some (.sh (.int p.2))) := by rw [hρ1]; exact List.getElem?_set_self (by rw [List.length_set]; omega)
    obtain ⟨ρ2, k1, k2, k3, k5, k4⟩ := times_inner (i := i) (p := p) b l ρ1 (by omega) ((o1 i (by omega) (by omega)).trans h) x1 y1 (by omega) (hm p List.mem_cons_self)
    have n1 : ρ1[n]? = some (some (.sh (sD b))) := (o1 n (by omega) (by omega)).trans hb
    have e : sSeq (sForN n (gN2 (i + 3) (i + 4)) (innerT i)) sNil ρ1 = some (.nx ρ2) := by
      rw [sSeq_nx ((forN_sD n1).trans k1)]
      rfl
    obtain ⟨ρ', j1, j2, j3⟩ := times_loop hn a (accS (b.map fun q => (srtS (p.1 ++ q.1), p.2 * q.2)) l) ρ2 (by omega) k2 ((k4 n (by omega) (by omega) (by omega) (by omega)).trans n1) (by omega) (fun p' hp' => hm p' (List.mem_cons_of_mem _ hp'))
    have ep : prodC (p :: a) b = (b.map fun q => (srtS (p.1 ++ q.1), p.2 * q.2)) ++ prodC a b := List.flatMap_cons
    refine ⟨ρ', by rw [List.map_cons, loop_cons g e]; exact j1, by rw [ep, acc_app]; exact j2, ?_⟩
    rw [ep, acc_app, List.length_cons, em]
    omega
/-! ### zip of a list with what is behind, any data -/
theorem zipD_map {α : Type} (e : α → D) : ∀ (xs ys : List α), zipD (xs.map e) (ys.map e) = (xs.zip ys).map fun p => D.tup [e p.1, e p.2]
  | [], _ => rfl
  | _ :: _, [] => rfl
  | x :: xs, y :: ys => by show D.tup [e x, e y] :: zipD (xs.map e) (ys.map e) = _; rw [zipD_map e xs ys]; rfl
theorem itZ_any {α : Type} {e : α → D} {f g : Rho → M D} {ρ : Rho} {x y : D} {xs ys : List α} (h1 : f ρ = ok x) (h2 : g ρ = ok y) (i1 : itD x = ok (xs.map e)) (i2 : itD y = ok (ys.map e)) : itZ f g ρ = ok ((xs.zip ys).map fun p => D.tup [e p.1, e p.2]) := by
  unfold itZ
  rw [aCons_ok h1 (aCons_ok h2 aNil_ok), bnd_ok]
  show bnd (itD x) (fun as => bnd (itD y) fun bs => ok (zipD as bs)) = _
  rw [i1, bnd_ok, i2, bnd_ok, zipD_map]
theorem cmpL_two {α : Type} {e : α → D} {k k2 : Nat} {fe : Rho → M D} {ρ : Rho} {g : α × α → D} (hne : k ≠ k2) (he : ∀ a, (e a).imm = true) : ∀ (l : List (α × α)), (∀ p ∈ l, fe ((ρ.set k (some (.sh (e p.1)))).set k2 (some (.sh (e p.2)))) = ok (g p) ∧ (g p).imm = true) →
    cmpL [k, k2] h2 (fun _ => ok true) fe (l.map fun p => D.tup [e p.1, e p.2]) ρ = ok (l.map g)
  | [], _ => rfl
  | x :: l, h => by
    obtain ⟨e1, e2⟩ := h x List.mem_cons_self
    have ih := cmpL_two (g := g) hne he l fun p hp => h p (List.mem_cons_of_mem _ hp)
    rw [List.map_cons, List.map_cons]
    unfold cmpL
    show (match fe ((ρ.set k (some (.sh (e x.1)))).set k2 (some (.sh (e x.2)))) with
        | some (.ok r) => if r.imm = true then bnd (cmpL [k, k2] h2 (fun _ => ok true) fe (l.map fun (p : α × α) => D.tup [e p.1, e p.2]) ρ) fun rs => ok (r :: rs) else none
        | _ => none) = _
    rw [e1, ih]
    show (if (g x).imm = true then bnd (ok (l.map g)) fun rs => ok (g x :: rs) else none) = _
    rw [if_pos e2]
    rfl
theorem cmp_two {α : Type} {e : α → D} {m k k2 : Nat} {it : Rho → M (List D)} {fe : Rho → M D} {ρ : Rho} {l : List (α × α)} {g : α × α → D} (hne : k ≠ k2) (he : ∀ a, (e a).imm = true) (hi : it ρ = ok (l.map fun p => D.tup [e p.1, e p.2])) (hl : l.length ≤ 1000)
    (h : ∀ p ∈ l, fe (((ext m (free ρ)).set k (some (.sh (e p.1)))).set k2 (some (.sh (e p.2)))) = ok (g p) ∧ (g p).imm = true) : cmp m it [k, k2] h2 (fun _ => ok true) fe ρ = ok (.lst (l.map g)) := by
  unfold cmp
  rw [hi, bnd_ok, if_pos (by rw [List.length_map]; omega), cmpL_two hne he l h, bnd_ok]
theorem cmpL_one {α : Type} {k : Nat} {fe : Rho → M D} {ρ : Rho} {e : α → D} {g : α → D} : ∀ (l : List α), (∀ x ∈ l, fe (ρ.set k (some (.sh (e x)))) = ok (g x) ∧ (g x).imm = true) → cmpL [k] h1 (fun _ => ok true) fe (l.map e) ρ = ok (l.map g)
  | [], _ => rfl
  | x :: l, h => by
    obtain ⟨e1, e2⟩ := h x List.mem_cons_self
    have ih := cmpL_one (g := g) l fun p hp => h p (List.mem_cons_of_mem _ hp)
    rw [List.map_cons, List.map_cons]
    unfold cmpL
    show (match fe (ρ.set k (some (.sh (e x)))) with
        | some (.ok r) => if r.imm = true then bnd (cmpL [k] h1 (fun _ => ok true) fe (l.map e) ρ) fun rs => ok (r :: rs) else none
        | _ => none) = _
    rw [e1, ih]
    show (if (g x).imm = true then bnd (ok (l.map g)) fun rs => ok (g x :: rs) else none) = _
    rw [if_pos e2]
    rfl
theorem cmp_one {α : Type} {m k : Nat} {it : Rho → M (List D)} {fe : Rho → M D} {ρ : Rho} {l : List α} {e : α → D} {g : α → D} (hi : it ρ = ok (l.map e)) (hl : l.length ≤ 1000)
    (h : ∀ x ∈ l, fe ((ext m (free ρ)).set k (some (.sh (e x)))) = ok (g x) ∧ (g x).imm = true) : cmp m it [k] h1 (fun _ => ok true) fe ρ = ok (.lst (l.map g)) := by
  unfold cmp
  rw [hi, bnd_ok, if_pos (by rw [List.length_map]; omega), cmpL_one l h, bnd_ok]
end L2.PU

namespace L2.PU
open PySem PySem.Spec PyProof.Rows
/-! ### marks of sums -/
structure MarkS (l : Sm) : Prop where
  ks : (kys l).Pairwise fun x y => lexS x y = true
  fa : ∀ p ∈ l, p.1.Pairwise fun x y => leS x y = true
  po : ∀ p ∈ l, 1 ≤ p.2
theorem MarkS.nd {l : Sm} (h : MarkS l) : (kys l).Nodup := h.ks.imp fun hxy e => by rw [e, lex_ir] at hxy; cases hxy
theorem tot_nn {c : Sm} (h : ∀ p ∈ c, 1 ≤ p.2) (k : List Str) : 0 ≤ tot c k := by
  induction c with
  | nil => exact Int.le_refl _
  | cons p c ih =>
    have := ih fun q hq => h q (List.mem_cons_of_mem _ hq)
    have := h p List.mem_cons_self
    rw [tot]
    split <;> omega
theorem tot_pos {c : Sm} (h : ∀ p ∈ c, 1 ≤ p.2) {k : List Str} (hk : k ∈ kys c) : 1 ≤ tot c k := by
  induction c with
  | nil => cases hk
  | cons p c ih =>
    have a := tot_nn (c := c) (fun q hq => h q (List.mem_cons_of_mem _ hq)) k
    have b := h p List.mem_cons_self
    rw [tot]
    rcases List.mem_cons.mp hk with e | e
    · rw [if_pos e.symm]; omega
    · have := ih (fun q hq => h q (List.mem_cons_of_mem _ hq)) e
      split <;> omega
theorem acc_mem {c l : Sm} (nd : (kys l).Nodup) {p : List Str × Int} (h : p ∈ accS c l) : (p.1 ∈ kys l ∨ p.1 ∈ kys c) ∧ p.2 = valS l p.1 + tot c p.1 := by
  obtain ⟨a, b⟩ := (mem_val (acc_nodup c nd) (k := p.1) (v := p.2)).mp h
  rw [acc_keys] at a
  rw [acc_val] at b
  exact ⟨a, b.symm⟩
theorem plus_mem {a b : Sm} (na : (kys a).Nodup) {p : List Str × Int} (h : p ∈ plusF a b) : (p.1 ∈ kys a ∨ p.1 ∈ kys b) ∧ p.2 = tot a p.1 + tot b p.1 := by
  have := acc_mem na ((srtP_perm _).mem_iff.mp h)
  rw [← tot_val na] at this
  exact this
theorem plus_mark {a b : Sm} (ha : MarkS a) (hb : MarkS b) : MarkS (plusF a b) where
  ks := srtP_keys (acc_nodup b ha.nd)
  fa := fun p hp => by
    rcases (plus_mem ha.nd hp).1 with h | h
    · obtain ⟨q, hq, e⟩ := List.mem_map.mp h; rw [← e]; exact ha.fa q hq
    · obtain ⟨q, hq, e⟩ := List.mem_map.mp h; rw [← e]; exact hb.fa q hq
  po := fun p hp => by
    obtain ⟨h, e⟩ := plus_mem ha.nd hp
    have n1 := tot_nn ha.po p.1
    have n2 := tot_nn hb.po p.1
    rw [e]
    rcases h with h | h
    · have := tot_pos ha.po h; omega
    · have := tot_pos hb.po h; omega
theorem prod_mem {a b : Sm} {p : List Str × Int} (h : p ∈ prodC a b) : ∃ x ∈ a, ∃ y ∈ b, p = (srtS (x.1 ++ y.1), x.2 * y.2) := by
  obtain ⟨x, hx, h⟩ := List.mem_flatMap.mp h
  obtain ⟨y, hy, e⟩ := List.mem_map.mp h
  exact ⟨x, hx, y, hy, e.symm⟩
theorem prod_po {a b : Sm} (ha : ∀ p ∈ a, 1 ≤ p.2) (hb : ∀ p ∈ b, 1 ≤ p.2) : ∀ p ∈ prodC a b, 1 ≤ p.2 := fun p hp => by
  obtain ⟨x, hx, y, hy, rfl⟩ := prod_mem hp
  have h1 := ha x hx
  have h2 := hb y hy
  have h3 : 0 < x.2 * y.2 := Int.mul_pos (by omega) (by omega)
  show 1 ≤ x.2 * y.2
  omega
theorem times_mem {a b : Sm} {p : List Str × Int} (h : p ∈ timesF a b) : p.1 ∈ kys (prodC a b) ∧ p.2 = tot (prodC a b) p.1 := by
  obtain ⟨h1, h2⟩ := acc_mem (l := []) .nil ((srtP_perm _).mem_iff.mp h)
  refine ⟨?_, by rw [h2, val_none (by simp)]; omega⟩
  rcases h1 with h1 | h1
  · cases h1
  · exact h1
theorem times_key {a b : Sm} {p : List Str × Int} (h : p ∈ timesF a b) : ∃ x ∈ a, ∃ y ∈ b, p.1 = srtS (x.1 ++ y.1) := by
  obtain ⟨q, hq, e⟩ := List.mem_map.mp (times_mem h).1
  obtain ⟨x, hx, y, hy, rfl⟩ := prod_mem hq
  exact ⟨x, hx, y, hy, e.symm⟩
theorem times_mark {a b : Sm} (ha : ∀ p ∈ a, 1 ≤ p.2) (hb : ∀ p ∈ b, 1 ≤ p.2) : MarkS (timesF a b) where
  ks := srtP_keys (acc_nodup _ .nil)
  fa := fun p hp => by
    obtain ⟨x, _, y, _, e⟩ := times_key hp
    rw [e]
    exact srtS_pair _
  po := fun p hp => by
    obtain ⟨h, e⟩ := times_mem hp
    rw [e]
    exact tot_pos (prod_po ha hb) h
/-! ### how many keys there are of at most three out of four texts -/
theorem nodup_le {α : Type} [DecidableEq α] : ∀ {l m : List α}, l.Nodup → (∀ x ∈ l, x ∈ m) → l.length ≤ m.length
  | [], _, _, _ => Nat.zero_le _
  | x :: l, m, hn, hs => by
    rw [List.nodup_cons] at hn
    have hx := hs x List.mem_cons_self
    have := nodup_le (l := l) (m := m.erase x) hn.2 fun y hy => (List.mem_erase_of_ne (a := y) (b := x) (fun e => hn.1 (by rw [← e]; exact hy))).mpr (hs y (List.mem_cons_of_mem _ hy))
    rw [List.length_erase_of_mem hx] at this
    have : 0 < m.length := List.length_pos_of_mem hx
    rw [List.length_cons]
    omega
noncomputable def FinK (P k : List Str) : Prop := ∃ xs : List Str, k = srtS xs ∧ xs.length ≤ 3 ∧ ∀ x ∈ xs, x ∈ P
noncomputable def r4 : List Nat := [0, 1, 2, 3]
noncomputable def L35 : List (List Nat) := [[]] ++ (r4.map fun a => [a]) ++ (r4.flatMap fun a => (r4.filter fun b => decide (a ≤ b)).map fun b => [a, b]) ++ (r4.flatMap fun a => (r4.filter fun b => decide (a ≤ b)).flatMap fun b => (r4.filter fun c => decide (b ≤ c)).map fun c => [a, b, c])
theorem L35_len : L35.length = 35 := by decide
theorem in4 {P : List Str} (hP : P.length = 4) {x : Str} (h : x ∈ P) : ∃ a : Fin 4, x = P.getD a.1 Str.empty := by
  obtain ⟨i, hi, e⟩ := List.getElem_of_mem h
  exact ⟨⟨i, by omega⟩, by rw [List.getD_eq_getElem?_getD, List.getElem?_eq_getElem hi]; exact e.symm⟩
theorem w1 : ∀ a : Fin 4, (L35.any fun l => l.isPerm [a.1]) = true := by decide
theorem w2 : ∀ a b : Fin 4, (L35.any fun l => l.isPerm [a.1, b.1]) = true := by decide
theorem w3 : ∀ a b c : Fin 4, (L35.any fun l => l.isPerm [a.1, b.1, c.1]) = true := by decide
theorem fin_in {P : List Str} (hP : P.length = 4) {k : List Str} (h : FinK P k) : k ∈ L35.map fun l => srtS (l.map fun i => P.getD i Str.empty) := by
  obtain ⟨xs, rfl, hl, hm⟩ := h
  have fin : ∀ idx : List Nat, (L35.any fun l => l.isPerm idx) = true → xs = idx.map (fun i => P.getD i Str.empty) → srtS xs ∈ L35.map fun l => srtS (l.map fun i => P.getD i Str.empty) := fun idx ha he => by
    obtain ⟨l, hl, hp⟩ := List.any_eq_true.mp ha
    refine List.mem_map.mpr ⟨l, hl, ?_⟩
    rw [he]
    exact srtS_of_perm ((List.isPerm_iff.mp hp).map _)
  match xs, hl, hm, fin with
  | [], _, _, fin => exact fin [] (by decide) rfl
  | [x], _, hm, fin =>
    obtain ⟨a, ea⟩ := in4 hP (hm x (by simp))
    exact fin [a.1] (w1 a) (by rw [ea]; rfl)
  | [x, y], _, hm, fin =>
    obtain ⟨a, ea⟩ := in4 hP (hm x (by simp))
    obtain ⟨b, eb⟩ := in4 hP (hm y (by simp))
    exact fin [a.1, b.1] (w2 a b) (by rw [ea, eb]; rfl)
  | [x, y, z], _, hm, fin =>
    obtain ⟨a, ea⟩ := in4 hP (hm x (by simp))
    obtain ⟨b, eb⟩ := in4 hP (hm y (by simp))
    obtain ⟨c, ec⟩ := in4 hP (hm z (by simp))
    exact fin [a.1, b.1, c.1] (w3 a b c) (by rw [ea, eb, ec]; rfl)
  | _ :: _ :: _ :: _ :: _, hl, _, _ => simp at hl
theorem fin_bound {P : List Str} (hP : P.length = 4) {l : Sm} (nd : (kys l).Nodup) (h : ∀ p ∈ l, FinK P p.1) : l.length ≤ 35 := by
  have := nodup_le nd (m := L35.map fun l => srtS (l.map fun i => P.getD i Str.empty)) fun k hk => by
    obtain ⟨p, hp, e⟩ := List.mem_map.mp hk
    rw [← e]
    exact fin_in hP (h p hp)
  rw [List.length_map, List.length_map, L35_len] at this
  exact this
end L2.PU

set_option Elab.async false
set_option linter.all false
set_option maxRecDepth 100000
set_option maxHeartbeats 4000000
namespace K09
open PySem PySem.Spec PyProof.Rows L2 L2.PU
noncomputable abbrev St := L2.St
noncomputable def top (i : Nat) : Stmt := PySem.Challenge.pw_whence_k09_sums.main.body.getD i (.Pass ⟨0, 0, 0, 0⟩)
noncomputable abbrev s_is_whole : Stmt := top 1
noncomputable abbrev s_is_texts : Stmt := top 2
noncomputable abbrev s_never_falls : Stmt := top 3
noncomputable abbrev s_always_rises : Stmt := top 4
noncomputable abbrev s_Sums___init__ : Stmt := inClass (top 6) 0
noncomputable abbrev s_Sums_plus : Stmt := inClass (top 6) 1
noncomputable abbrev s_Sums_times : Stmt := inClass (top 6) 2
noncomputable abbrev s_Sums_is_mark : Stmt := inClass (top 6) 3
noncomputable abbrev s_is_entry : Stmt := top 7
noncomputable abbrev s_law_at : Stmt := top 9
noncomputable abbrev s_law_same : Stmt := top 10
noncomputable abbrev s_law_mix : Stmt := top 11
noncomputable abbrev s_law_name : Stmt := top 12
noncomputable abbrev s_law_sum : Stmt := top 13
noncomputable abbrev s_law_sorted : Stmt := top 14
noncomputable abbrev s_law_plus : Stmt := top 15
noncomputable abbrev s_law_times : Stmt := top 16
noncomputable abbrev s_law : Stmt := top 17
set_option genInjectivity false in
structure Adr where
  C_Sums : Addr
  f_is_whole : Addr
  f_is_texts : Addr
  f_never_falls : Addr
  f_always_rises : Addr
  f_Sums___init__ : Addr
  f_Sums_plus : Addr
  f_Sums_times : Addr
  f_Sums_is_mark : Addr
  f_is_entry : Addr
  f_law_at : Addr
  f_law_same : Addr
  f_law_mix : Addr
  f_law_name : Addr
  f_law_sum : Addr
  f_law_sorted : Addr
  f_law_plus : Addr
  f_law_times : Addr
  f_law : Addr
noncomputable def cs (t : Adr) (C : Addr) : Bool := decide (C = t.C_Sums)
structure Txt (K : PySem.W.Frag) (mg : Str → Option Value) (t : Adr) : Prop where
  g_Sums : mg "Sums" = some (.ref t.C_Sums)
  cl_Sums : Cls K t.C_Sums
  mk_Sums : Mk K t.C_Sums t.f_Sums___init__
  me_Sums_plus : Meth K t.C_Sums "plus" t.f_Sums_plus
  me_Sums_times : Meth K t.C_Sums "times" t.f_Sums_times
  me_Sums_is_mark : Meth K t.C_Sums "is_mark" t.f_Sums_is_mark
  nf_nought : ∀ C, cs t C = true → Cls K C ∧ NoAttr K C "nought"
  nf_one : ∀ C, cs t C = true → Cls K C ∧ NoAttr K C "one"
  F_is_whole : ∃ fd, Fun K "is_whole" "is_whole" s_is_whole t.f_is_whole fd ∧ Binds K fd ["thing", "least"] []
  g_is_whole : mg "is_whole" = some (.ref t.f_is_whole)
  F_is_texts : ∃ fd, Fun K "is_texts" "is_texts" s_is_texts t.f_is_texts fd ∧ Binds K fd ["thing"] []
  g_is_texts : mg "is_texts" = some (.ref t.f_is_texts)
  F_never_falls : ∃ fd, Fun K "never_falls" "never_falls" s_never_falls t.f_never_falls fd ∧ Binds K fd ["things"] []
  g_never_falls : mg "never_falls" = some (.ref t.f_never_falls)
  F_always_rises : ∃ fd, Fun K "always_rises" "always_rises" s_always_rises t.f_always_rises fd ∧ Binds K fd ["things"] []
  g_always_rises : mg "always_rises" = some (.ref t.f_always_rises)
  F_Sums___init__ : ∃ fd, Fun K "__init__" "Sums.__init__" s_Sums___init__ t.f_Sums___init__ fd ∧ Binds K fd ["self"] []
  F_Sums_plus : ∃ fd, Fun K "plus" "Sums.plus" s_Sums_plus t.f_Sums_plus fd ∧ Binds K fd ["self", "a", "b"] []
  F_Sums_times : ∃ fd, Fun K "times" "Sums.times" s_Sums_times t.f_Sums_times fd ∧ Binds K fd ["self", "a", "b"] []
  F_Sums_is_mark : ∃ fd, Fun K "is_mark" "Sums.is_mark" s_Sums_is_mark t.f_Sums_is_mark fd ∧ Binds K fd ["self", "thing"] []
  F_is_entry : ∃ fd, Fun K "is_entry" "is_entry" s_is_entry t.f_is_entry fd ∧ Binds K fd ["thing"] []
  g_is_entry : mg "is_entry" = some (.ref t.f_is_entry)
  F_law_at : ∃ fd, Fun K "_law_at" "_law_at" s_law_at t.f_law_at fd ∧ Binds K fd ["_law_script", "_law_k"] []
  g_law_at : mg "_law_at" = some (.ref t.f_law_at)
  F_law_same : ∃ fd, Fun K "_law_same" "_law_same" s_law_same t.f_law_same fd ∧ Binds K fd ["_law_found", "_law_due"] []
  g_law_same : mg "_law_same" = some (.ref t.f_law_same)
  F_law_mix : ∃ fd, Fun K "_law_mix" "_law_mix" s_law_mix t.f_law_mix fd ∧ Binds K fd ["_law_cell"] []
  g_law_mix : mg "_law_mix" = some (.ref t.f_law_mix)
  F_law_name : ∃ fd, Fun K "_law_name" "_law_name" s_law_name t.f_law_name fd ∧ Binds K fd ["_law_style", "_law_k"] []
  g_law_name : mg "_law_name" = some (.ref t.f_law_name)
  F_law_sum : ∃ fd, Fun K "_law_sum" "_law_sum" s_law_sum t.f_law_sum fd ∧ Binds K fd ["_law_names", "_law_cell"] []
  g_law_sum : mg "_law_sum" = some (.ref t.f_law_sum)
  F_law_sorted : ∃ fd, Fun K "_law_sorted" "_law_sorted" s_law_sorted t.f_law_sorted fd ∧ Binds K fd ["_law_counts"] []
  g_law_sorted : mg "_law_sorted" = some (.ref t.f_law_sorted)
  F_law_plus : ∃ fd, Fun K "_law_plus" "_law_plus" s_law_plus t.f_law_plus fd ∧ Binds K fd ["_law_one", "_law_other"] []
  g_law_plus : mg "_law_plus" = some (.ref t.f_law_plus)
  F_law_times : ∃ fd, Fun K "_law_times" "_law_times" s_law_times t.f_law_times fd ∧ Binds K fd ["_law_one", "_law_other"] []
  g_law_times : mg "_law_times" = some (.ref t.f_law_times)
  F_law : ∃ fd, Fun K "law" "law" s_law t.f_law fd ∧ Binds K fd ["_law_script"] []
  g_law : mg "law" = some (.ref t.f_law)
  b_all : mg "all" = none
  b_bool : mg "bool" = none
  b_dict : mg "dict" = none
  b_int : mg "int" = none
  b_isinstance : mg "isinstance" = none
  b_len : mg "len" = none
  b_list : mg "list" = none
  b_range : mg "range" = none
  b_sorted : mg "sorted" = none
  b_str : mg "str" = none
  b_tuple : mg "tuple" = none
  b_zip : mg "zip" = none
section
variable {P : Program} {w : World} {K : PySem.W.Frag} {mg : Str → Option Value} {base : Heap} {t : Adr}
noncomputable def N_is_whole : List Str := ["thing", "least"]
theorem sc_is_whole : FnScope N_is_whole ["thing", "least"] (defScope s_is_whole) := ⟨rfl, rfl, rfl, by decide +kernel, rfl, by decide +kernel, by decide +kernel⟩
noncomputable def den_is_whole (t : Adr) : Rho → Option Out :=
    (sSeq (sRet (andV (isi "int" (look 0)) (andV (notV (isi "bool" (look 0))) (b2 gGe (look 0) (look 1)))))
    sNil)
theorem tm_is_whole (T : Txt K mg t) {k : Nat}  {cdv : Value} {A : Around} {outer : List Env} {s : Shared} {H : Hp} {E : XK} (hr : Room k (A.deeper (envOfC "is_whole" (defScope s_is_whole) s.heap.objs.size t.f_is_whole cdv))) (B : Hp) :
    PDB (cxN P w K mg base N_is_whole "is_whole" (defScope s_is_whole) t.f_is_whole cdv A outer s H E) B (defBody s_is_whole) (den_is_whole t) :=
  by
  refine pdb_cons ?_ ?_; (refine pds_ret ?_; (refine pd_and ?_ ?_; (refine pd_isi (T := "int") rfl T.b_isinstance rfl T.b_int (by decide +kernel) (by decide) ?_; (exact pd_var 0)); (refine pd_and ?_ ?_; (refine pd_not ?_; (refine pd_isi (T := "bool") rfl T.b_isinstance rfl T.b_bool (by decide +kernel) (by decide) ?_; (exact pd_var 0))); (refine pd_one ?_; (refine pd_ge ?_ ?_; (exact pd_var 0); (exact pd_var 1)))))); (exact pdb_nil)
theorem ok_is_whole (T : Txt K mg t) {k : Nat}  {F : List D → M D} (hL : ∀ ds r, F ds = some r → ds.length = 2) (hq : ∀ ds r, F ds = some r → ∃ d, r = .ok d ∧ fnRes (den_is_whole t (rho0 N_is_whole ds)) = ok d) : Def P w K mg base (k + 1) "is_whole" F := by
  obtain ⟨fd, Fu, bi⟩ := T.F_is_whole
  exact ⟨_, _, _, T.g_is_whole, Fu.kp, bi, hL, fn_D Fu sc_is_whole hL fun cdv A outer s H E hr => ⟨_, fun B => tm_is_whole T hr B, hq⟩⟩
noncomputable def N_is_texts : List Str := ["thing"]
noncomputable def Nc_is_texts_0 : List Str := ["?0", "part"]
theorem nd_is_texts_0 : Nc_is_texts_0.Nodup := by decide +kernel
theorem sc_is_texts : FnScope N_is_texts ["thing"] (defScope s_is_texts) := ⟨rfl, rfl, rfl, by decide +kernel, rfl, by decide +kernel, by decide +kernel⟩
noncomputable def den_is_texts (t : Adr) : Rho → Option Out :=
    (sSeq (sRet (andV (isi "tuple" (look 0)) (f1 allD (cmp 1 (itE (look 0)) [1] h1 (fun _ => ok true) (isi "str" (look 1))))))
    sNil)
theorem tm_is_texts (T : Txt K mg t) {k : Nat}  {cdv : Value} {A : Around} {outer : List Env} {s : Shared} {H : Hp} {E : XK} (hr : Room k (A.deeper (envOfC "is_texts" (defScope s_is_texts) s.heap.objs.size t.f_is_texts cdv))) (B : Hp) :
    PDB (cxN P w K mg base N_is_texts "is_texts" (defScope s_is_texts) t.f_is_texts cdv A outer s H E) B (defBody s_is_texts) (den_is_texts t) :=
  by
  refine pdb_cons ?_ ?_; (refine pds_ret ?_; (refine pd_and ?_ ?_; (refine pd_isi (T := "tuple") rfl T.b_isinstance rfl T.b_tuple (by decide +kernel) (by decide) ?_; (exact pd_var 0)); (refine pd_one ?_; (refine pd_all rfl rfl T.b_all ?_; (refine pd_comp1 (N' := Nc_is_texts_0) (m := 1) (ks := [1]) rfl rfl rfl rfl (by repeat (first | exact lk_nil | refine lk_cons rfl (by first | exact Or.inl rfl | exact Or.inr rfl) ?_)) rfl rfl rfl rfl rfl ?_ (fun C s₀ H₀ ex => ?_) (fun C s₀ H₀ ex B => ?_) (fun C s₀ H₀ ex B => ?_); (refine pit_D ?_; (exact pd_var 0)); (exact pdn_1 nd_is_texts_0 rfl (Or.inl rfl)); (exact pif_none); (refine pd_isi (T := "str") rfl T.b_isinstance rfl T.b_str (by decide +kernel) (by decide) ?_; (exact pd_var 1))))))); (exact pdb_nil)
theorem ok_is_texts (T : Txt K mg t) {k : Nat}  {F : List D → M D} (hL : ∀ ds r, F ds = some r → ds.length = 1) (hq : ∀ ds r, F ds = some r → ∃ d, r = .ok d ∧ fnRes (den_is_texts t (rho0 N_is_texts ds)) = ok d) : Def P w K mg base (k + 1) "is_texts" F := by
  obtain ⟨fd, Fu, bi⟩ := T.F_is_texts
  exact ⟨_, _, _, T.g_is_texts, Fu.kp, bi, hL, fn_D Fu sc_is_texts hL fun cdv A outer s H E hr => ⟨_, fun B => tm_is_texts T hr B, hq⟩⟩
noncomputable def N_never_falls : List Str := ["things"]
noncomputable def Nc_never_falls_0 : List Str := ["?0", "ahead", "behind"]
theorem nd_never_falls_0 : Nc_never_falls_0.Nodup := by decide +kernel
theorem sc_never_falls : FnScope N_never_falls ["things"] (defScope s_never_falls) := ⟨rfl, rfl, rfl, by decide +kernel, rfl, by decide +kernel, by decide +kernel⟩
noncomputable def den_never_falls (t : Adr) : Rho → Option Out :=
    (sSeq (sRet (f1 allD (cmp 2 (itZ (look 0) (cut3 (look 0) (oPart (con (.int 1))) oNone)) [1, 2] h2 (fun _ => ok true) (b2 gLeS (look 1) (look 2)))))
    sNil)
theorem tm_never_falls (T : Txt K mg t) {k : Nat}  {cdv : Value} {A : Around} {outer : List Env} {s : Shared} {H : Hp} {E : XK} (hr : Room k (A.deeper (envOfC "never_falls" (defScope s_never_falls) s.heap.objs.size t.f_never_falls cdv))) (B : Hp) :
    PDB (cxN P w K mg base N_never_falls "never_falls" (defScope s_never_falls) t.f_never_falls cdv A outer s H E) B (defBody s_never_falls) (den_never_falls t) :=
  by
  refine pdb_cons ?_ ?_; (refine pds_ret ?_; (refine pd_all rfl rfl T.b_all ?_; (refine pd_comp1 (N' := Nc_never_falls_0) (m := 2) (ks := [1,2]) rfl rfl rfl rfl (by repeat (first | exact lk_nil | refine lk_cons rfl (by first | exact Or.inl rfl | exact Or.inr rfl) ?_)) rfl rfl rfl rfl rfl ?_ (fun C s₀ H₀ ex => ?_) (fun C s₀ H₀ ex B => ?_) (fun C s₀ H₀ ex B => ?_); (refine pit_zip rfl T.b_zip ?_ ?_; (exact pd_var 0); (refine pd_slice ?_ ?_ ?_; (exact pd_var 0); (refine pdo_some ?_; (exact pd_int)); (exact pdo_none))); (exact pdn_2 rfl nd_never_falls_0 rfl (Or.inl rfl) rfl (Or.inl rfl)); (exact pif_none); (refine pd_leS ?_ ?_; (exact pd_var 1); (exact pd_var 2))))); (exact pdb_nil)
theorem ok_never_falls (T : Txt K mg t) {k : Nat}  {F : List D → M D} (hL : ∀ ds r, F ds = some r → ds.length = 1) (hq : ∀ ds r, F ds = some r → ∃ d, r = .ok d ∧ fnRes (den_never_falls t (rho0 N_never_falls ds)) = ok d) : Def P w K mg base (k + 1) "never_falls" F := by
  obtain ⟨fd, Fu, bi⟩ := T.F_never_falls
  exact ⟨_, _, _, T.g_never_falls, Fu.kp, bi, hL, fn_D Fu sc_never_falls hL fun cdv A outer s H E hr => ⟨_, fun B => tm_never_falls T hr B, hq⟩⟩
noncomputable def N_always_rises : List Str := ["things"]
noncomputable def Nc_always_rises_0 : List Str := ["?0", "ahead", "behind"]
theorem nd_always_rises_0 : Nc_always_rises_0.Nodup := by decide +kernel
theorem sc_always_rises : FnScope N_always_rises ["things"] (defScope s_always_rises) := ⟨rfl, rfl, rfl, by decide +kernel, rfl, by decide +kernel, by decide +kernel⟩
noncomputable def den_always_rises (t : Adr) : Rho → Option Out :=
    (sSeq (sRet (f1 allD (cmp 2 (itZ (look 0) (cut3 (look 0) (oPart (con (.int 1))) oNone)) [1, 2] h2 (fun _ => ok true) (b2 gLtU (look 1) (look 2)))))
    sNil)
theorem tm_always_rises (T : Txt K mg t) {k : Nat}  {cdv : Value} {A : Around} {outer : List Env} {s : Shared} {H : Hp} {E : XK} (hr : Room k (A.deeper (envOfC "always_rises" (defScope s_always_rises) s.heap.objs.size t.f_always_rises cdv))) (B : Hp) :
    PDB (cxN P w K mg base N_always_rises "always_rises" (defScope s_always_rises) t.f_always_rises cdv A outer s H E) B (defBody s_always_rises) (den_always_rises t) :=
  by
  refine pdb_cons ?_ ?_; (refine pds_ret ?_; (refine pd_all rfl rfl T.b_all ?_; (refine pd_comp1 (N' := Nc_always_rises_0) (m := 2) (ks := [1,2]) rfl rfl rfl rfl (by repeat (first | exact lk_nil | refine lk_cons rfl (by first | exact Or.inl rfl | exact Or.inr rfl) ?_)) rfl rfl rfl rfl rfl ?_ (fun C s₀ H₀ ex => ?_) (fun C s₀ H₀ ex B => ?_) (fun C s₀ H₀ ex B => ?_); (refine pit_zip rfl T.b_zip ?_ ?_; (exact pd_var 0); (refine pd_slice ?_ ?_ ?_; (exact pd_var 0); (refine pdo_some ?_; (exact pd_int)); (exact pdo_none))); (exact pdn_2 rfl nd_always_rises_0 rfl (Or.inl rfl) rfl (Or.inl rfl)); (exact pif_none); (refine pd_ltU hr ?_ ?_; (exact pd_var 1); (exact pd_var 2))))); (exact pdb_nil)
theorem ok_always_rises (T : Txt K mg t) {k : Nat}  {F : List D → M D} (hL : ∀ ds r, F ds = some r → ds.length = 1) (hq : ∀ ds r, F ds = some r → ∃ d, r = .ok d ∧ fnRes (den_always_rises t (rho0 N_always_rises ds)) = ok d) : Def P w K mg base (k + 1) "always_rises" F := by
  obtain ⟨fd, Fu, bi⟩ := T.F_always_rises
  exact ⟨_, _, _, T.g_always_rises, Fu.kp, bi, hL, fn_D Fu sc_always_rises hL fun cdv A outer s H E hr => ⟨_, fun B => tm_always_rises T hr B, hq⟩⟩
noncomputable def N_Sums___init__ : List Str := ["self"]
theorem sc_Sums___init__ : FnScope N_Sums___init__ ["self"] (defScope s_Sums___init__) := ⟨rfl, rfl, rfl, by decide +kernel, rfl, by decide +kernel, by decide +kernel⟩
noncomputable def den_Sums___init__ (t : Adr) : Rho → Option Out :=
    (sSeq (sFldI (cs t) 0 "nought" (mkT aNil))
    (sSeq (sFldI (cs t) 0 "one" (mkT (aCons (mkT (aCons (mkT aNil) (aCons (con (.int 1)) aNil))) aNil)))
    sNil))
theorem tm_Sums___init__ (T : Txt K mg t) {k : Nat}  {cdv : Value} {A : Around} {outer : List Env} {s : Shared} {H : Hp} {E : XK} (hr : Room k (A.deeper (envOfC "Sums.__init__" (defScope s_Sums___init__) s.heap.objs.size t.f_Sums___init__ cdv))) (B : Hp) :
    PDB (cxN P w K mg base N_Sums___init__ "Sums.__init__" (defScope s_Sums___init__) t.f_Sums___init__ cdv A outer s H E) B (defBody s_Sums___init__) (den_Sums___init__ t) :=
  by
  refine pdb_cons ?_ ?_; (refine pds_fldI (f := "nought") (i := 0) (T.nf_nought) rfl (Or.inl rfl) ?_; (refine pd_tup ?_; (exact pda_nil))); (refine pdb_cons ?_ ?_; (refine pds_fldI (f := "one") (i := 0) (T.nf_one) rfl (Or.inl rfl) ?_; (refine pd_tup ?_; (refine pda_cons ?_ ?_; (refine pd_tup ?_; (refine pda_cons ?_ ?_; (refine pd_tup ?_; (exact pda_nil)); (refine pda_cons ?_ ?_; (exact pd_int); (exact pda_nil)))); (exact pda_nil)))); (exact pdb_nil))
theorem ok_Sums___init__ (T : Txt K mg t) {k : Nat}  {F : List D → M (List (Str × D))} (hL : ∀ ds r, F ds = some r → ds.length + 1 = 1) (hq : ∀ ds r a dx, F ds = some r → ∃ fs, r = .ok fs ∧ iniRes a t.C_Sums dx (den_Sums___init__ t (rhoI N_Sums___init__ a t.C_Sums dx ds)) = ok fs) : Ctor P w K mg base (k + 1) "Sums" t.C_Sums F := by
  obtain ⟨fd, Fu, bi⟩ := T.F_Sums___init__
  exact ⟨_, _, _, T.g_Sums, T.mk_Sums, bi, hL, init_D Fu sc_Sums___init__ hL fun cdv A outer s H E hr => ⟨_, fun B => tm_Sums___init__ T hr B, hq⟩⟩
noncomputable def N_Sums_plus : List Str := ["self", "a", "b", "numbers", "product", "many"]
theorem sc_Sums_plus : FnScope N_Sums_plus ["self", "a", "b"] (defScope s_Sums_plus) := ⟨rfl, rfl, rfl, by decide +kernel, rfl, by decide +kernel, by decide +kernel⟩
noncomputable def den_Sums_plus (t : Adr) : Rho → Option Out :=
    (sSeq (sNewD 3 (look 1))
    (sSeq (sForN 2 (gN2 4 5) (sSeq (sPutT 3 4 (b2 gPlus (dGet2 3 4 (con (.int 0))) (look 5)))
    sNil))
    (sSeq (sRet (f1 toT (dSrtI 3)))
    sNil)))
theorem tm_Sums_plus (T : Txt K mg t) {k : Nat}  {cdv : Value} {A : Around} {outer : List Env} {s : Shared} {H : Hp} {E : XK} (hr : Room k (A.deeper (envOfC "Sums.plus" (defScope s_Sums_plus) s.heap.objs.size t.f_Sums_plus cdv))) (B : Hp) :
    PDB (cxN P w K mg base N_Sums_plus "Sums.plus" (defScope s_Sums_plus) t.f_Sums_plus cdv A outer s H E) B (defBody s_Sums_plus) (den_Sums_plus t) :=
  by
  refine pdb_cons ?_ ?_; (refine pds_newD (i := 3) hr rfl T.b_dict (sc_Sums_plus).nd rfl (Or.inl rfl) ?_; (exact pd_var 1)); (refine pdb_cons ?_ ?_; (refine pds_forN 2 rfl (Or.inl rfl) PassesOwn.never rfl (fun B => ?_) (fun B => ?_); (exact pdg_tup2 (i := 4) (j := 5) rfl (sc_Sums_plus).nd rfl (Or.inl rfl) rfl (Or.inl rfl)); (refine pdb_cons ?_ ?_; (refine pds_putT hr 3 4 ?_; (refine pd_plus ?_ ?_; (refine pd_get2T hr 3 4 ?_; (exact pd_int)); (exact pd_var 5))); (exact pdb_nil))); (refine pdb_cons ?_ ?_; (refine pds_ret ?_; (refine pd_tuple rfl T.b_tuple ?_; (exact pd_sortedI hr (by rfl) (by rfl) T.b_sorted 3))); (exact pdb_nil)))
theorem ok_Sums_plus (T : Txt K mg t) {k : Nat}  {F : List D → M D} (hL : ∀ ds r, F ds = some r → ds.length = 3) (hq : ∀ ds r, F ds = some r → ∃ d, r = .ok d ∧ fnRes (den_Sums_plus t (rho0 N_Sums_plus ds)) = ok d) : Mth P w K mg base (k + 1) t.C_Sums "plus" F := by
  obtain ⟨fd, Fu, bi⟩ := T.F_Sums_plus
  exact ⟨_, _, _, T.cl_Sums, T.me_Sums_plus, bi, hL, fn_D Fu sc_Sums_plus hL fun cdv A outer s H E hr => ⟨_, fun B => tm_Sums_plus T hr B, hq⟩⟩
noncomputable def N_Sums_times : List Str := ["self", "a", "b", "numbers", "product", "many", "other", "more", "both"]
theorem sc_Sums_times : FnScope N_Sums_times ["self", "a", "b"] (defScope s_Sums_times) := ⟨rfl, rfl, rfl, by decide +kernel, rfl, by decide +kernel, by decide +kernel⟩
noncomputable def den_Sums_times (t : Adr) : Rho → Option Out :=
    (sSeq (sNewT 3)
    (sSeq (sForN 1 (gN2 4 5) (sSeq (sForN 2 (gN2 6 7) (sSeq (sSet 8 (f1 toT (f1 srtL (b2 gPlus (look 4) (look 6)))))
    (sSeq (sPutT 3 8 (b2 gPlus (dGet2 3 8 (con (.int 0))) (b2 gTimes (look 5) (look 7))))
    sNil)))
    sNil))
    (sSeq (sRet (f1 toT (dSrtI 3)))
    sNil)))
theorem tm_Sums_times (T : Txt K mg t) {k : Nat}  {cdv : Value} {A : Around} {outer : List Env} {s : Shared} {H : Hp} {E : XK} (hr : Room k (A.deeper (envOfC "Sums.times" (defScope s_Sums_times) s.heap.objs.size t.f_Sums_times cdv))) (B : Hp) :
    PDB (cxN P w K mg base N_Sums_times "Sums.times" (defScope s_Sums_times) t.f_Sums_times cdv A outer s H E) B (defBody s_Sums_times) (den_Sums_times t) :=
  by
  refine pdb_cons ?_ ?_; (exact pds_newT (i := 3) (sc_Sums_times).nd rfl (Or.inl rfl)); (refine pdb_cons ?_ ?_; (refine pds_forN 1 rfl (Or.inl rfl) PassesOwn.never rfl (fun B => ?_) (fun B => ?_); (exact pdg_tup2 (i := 4) (j := 5) rfl (sc_Sums_times).nd rfl (Or.inl rfl) rfl (Or.inl rfl)); (refine pdb_cons ?_ ?_; (refine pds_forN 2 rfl (Or.inl rfl) PassesOwn.never rfl (fun B => ?_) (fun B => ?_); (exact pdg_tup2 (i := 6) (j := 7) rfl (sc_Sums_times).nd rfl (Or.inl rfl) rfl (Or.inl rfl)); (refine pdb_cons ?_ ?_; (refine pds_set (i := 8) (sc_Sums_times).nd rfl (Or.inl rfl) ?_; (refine pd_tuple rfl T.b_tuple ?_; (refine pd_sortedL rfl rfl T.b_sorted ?_; (refine pd_plus ?_ ?_; (exact pd_var 4); (exact pd_var 6))))); (refine pdb_cons ?_ ?_; (refine pds_putT hr 3 8 ?_; (refine pd_plus ?_ ?_; (refine pd_get2T hr 3 8 ?_; (exact pd_int)); (refine pd_times ?_ ?_; (exact pd_var 5); (exact pd_var 7)))); (exact pdb_nil)))); (exact pdb_nil))); (refine pdb_cons ?_ ?_; (refine pds_ret ?_; (refine pd_tuple rfl T.b_tuple ?_; (exact pd_sortedI hr (by rfl) (by rfl) T.b_sorted 3))); (exact pdb_nil)))
theorem ok_Sums_times (T : Txt K mg t) {k : Nat}  {F : List D → M D} (hL : ∀ ds r, F ds = some r → ds.length = 3) (hq : ∀ ds r, F ds = some r → ∃ d, r = .ok d ∧ fnRes (den_Sums_times t (rho0 N_Sums_times ds)) = ok d) : Mth P w K mg base (k + 1) t.C_Sums "times" F := by
  obtain ⟨fd, Fu, bi⟩ := T.F_Sums_times
  exact ⟨_, _, _, T.cl_Sums, T.me_Sums_times, bi, hL, fn_D Fu sc_Sums_times hL fun cdv A outer s H E hr => ⟨_, fun B => tm_Sums_times T hr B, hq⟩⟩
noncomputable def N_Sums_is_mark : List Str := ["self", "thing"]
noncomputable def Nc_Sums_is_mark_0 : List Str := ["?0", "?1", "part"]
theorem nd_Sums_is_mark_0 : Nc_Sums_is_mark_0.Nodup := by decide +kernel
noncomputable def Nc_Sums_is_mark_1 : List Str := ["?0", "?1", "part"]
theorem nd_Sums_is_mark_1 : Nc_Sums_is_mark_1.Nodup := by decide +kernel
theorem sc_Sums_is_mark : FnScope N_Sums_is_mark ["self", "thing"] (defScope s_Sums_is_mark) := ⟨rfl, rfl, rfl, by decide +kernel, rfl, by decide +kernel, by decide +kernel⟩
noncomputable def den_Sums_is_mark (t : Adr) (F_always_rises : List D → M D) (F_is_entry : List D → M D) : Rho → Option Out :=
    (sSeq (sIf (orB (notB (test (isi "tuple" (look 1)))) (notB (test (f1 allD (cmp 1 (itE (look 1)) [2] h1 (fun _ => ok true) (app F_is_entry (aCons (look 2) aNil))))))) (sSeq (sRet (con (.bl false)))
    sNil) sNil)
    (sSeq (sRet (app F_always_rises (aCons (cmp 1 (itE (look 1)) [2] h1 (fun _ => ok true) (b2 gIx (look 2) (con (.int 0)))) aNil)))
    sNil))
theorem tm_Sums_is_mark (T : Txt K mg t) {k : Nat} {F_always_rises : List D → M D} (G_always_rises : Def P w K mg base k "always_rises" F_always_rises) {F_is_entry : List D → M D} (G_is_entry : Def P w K mg base k "is_entry" F_is_entry) {cdv : Value} {A : Around} {outer : List Env} {s : Shared} {H : Hp} {E : XK} (hr : Room k (A.deeper (envOfC "Sums.is_mark" (defScope s_Sums_is_mark) s.heap.objs.size t.f_Sums_is_mark cdv))) (B : Hp) :
    PDB (cxN P w K mg base N_Sums_is_mark "Sums.is_mark" (defScope s_Sums_is_mark) t.f_Sums_is_mark cdv A outer s H E) B (defBody s_Sums_is_mark) (den_Sums_is_mark t F_always_rises F_is_entry) :=
  by
  refine pdb_cons ?_ ?_; (refine pds_if ?_ ?_ ?_; (refine PDW.pdt ?_; (refine pdw_or ?_ ?_; (refine pdt_not ?_; (refine pdt_val ?_; (refine pd_isi (T := "tuple") rfl T.b_isinstance rfl T.b_tuple (by decide +kernel) (by decide) ?_; (exact pd_var 1)))); (refine pdw_or1 ?_; (refine pdt_not ?_; (refine pdt_val ?_; (refine pd_all rfl rfl T.b_all ?_; (refine pd_comp1 (N' := Nc_Sums_is_mark_1) (m := 1) (ks := [2]) rfl rfl rfl rfl (by repeat (first | exact lk_nil | refine lk_cons rfl (by first | exact Or.inl rfl | exact Or.inr rfl) ?_)) rfl rfl rfl rfl rfl ?_ (fun C s₀ H₀ ex => ?_) (fun C s₀ H₀ ex B => ?_) (fun C s₀ H₀ ex B => ?_); (refine pit_D ?_; (exact pd_var 1)); (exact pdn_1 nd_Sums_is_mark_1 rfl (Or.inl rfl)); (exact pif_none); (refine pd_call G_is_entry hr rfl ?_; (refine pda_cons ?_ ?_; (exact pd_var 2); (exact pda_nil)))))))))); (refine pdb_cons ?_ ?_; (refine pds_ret ?_; (exact pd_bl)); (exact pdb_nil)); (exact pdb_nil)); (refine pdb_cons ?_ ?_; (refine pds_ret ?_; (refine pd_call G_always_rises hr rfl ?_; (refine pda_cons ?_ ?_; (refine pd_comp1 (N' := Nc_Sums_is_mark_0) (m := 1) (ks := [2]) rfl rfl rfl rfl (by repeat (first | exact lk_nil | refine lk_cons rfl (by first | exact Or.inl rfl | exact Or.inr rfl) ?_)) rfl rfl rfl rfl rfl ?_ (fun C s₀ H₀ ex => ?_) (fun C s₀ H₀ ex B => ?_) (fun C s₀ H₀ ex B => ?_); (refine pit_D ?_; (exact pd_var 1)); (exact pdn_1 nd_Sums_is_mark_0 rfl (Or.inl rfl)); (exact pif_none); (refine pd_ix ?_ ?_ (fun _ _ => rfl); (exact pd_var 2); (exact pd_int))); (exact pda_nil)))); (exact pdb_nil))
theorem ok_Sums_is_mark (T : Txt K mg t) {k : Nat} {F_always_rises : List D → M D} (G_always_rises : Def P w K mg base k "always_rises" F_always_rises) {F_is_entry : List D → M D} (G_is_entry : Def P w K mg base k "is_entry" F_is_entry) {F : List D → M D} (hL : ∀ ds r, F ds = some r → ds.length = 2) (hq : ∀ ds r, F ds = some r → ∃ d, r = .ok d ∧ fnRes (den_Sums_is_mark t F_always_rises F_is_entry (rho0 N_Sums_is_mark ds)) = ok d) : Mth P w K mg base (k + 1) t.C_Sums "is_mark" F := by
  obtain ⟨fd, Fu, bi⟩ := T.F_Sums_is_mark
  exact ⟨_, _, _, T.cl_Sums, T.me_Sums_is_mark, bi, hL, fn_D Fu sc_Sums_is_mark hL fun cdv A outer s H E hr => ⟨_, fun B => tm_Sums_is_mark T G_always_rises G_is_entry hr B, hq⟩⟩
noncomputable def N_is_entry : List Str := ["thing"]
theorem sc_is_entry : FnScope N_is_entry ["thing"] (defScope s_is_entry) := ⟨rfl, rfl, rfl, by decide +kernel, rfl, by decide +kernel, by decide +kernel⟩
noncomputable def den_is_entry (t : Adr) (F_is_texts : List D → M D) (F_is_whole : List D → M D) (F_never_falls : List D → M D) : Rho → Option Out :=
    (sSeq (sIf (orB (notB (test (isi "tuple" (look 0)))) (testB (b2 gNe (f1 lenD (look 0)) (con (.int 2))))) (sSeq (sRet (con (.bl false)))
    sNil) sNil)
    (sSeq (sRet (andV (app F_is_texts (aCons (b2 gIx (look 0) (con (.int 0))) aNil)) (andV (app F_never_falls (aCons (b2 gIx (look 0) (con (.int 0))) aNil)) (app F_is_whole (aCons (b2 gIx (look 0) (con (.int 1))) (aCons (con (.int 1)) aNil))))))
    sNil))
theorem tm_is_entry (T : Txt K mg t) {k : Nat} {F_is_texts : List D → M D} (G_is_texts : Def P w K mg base k "is_texts" F_is_texts) {F_is_whole : List D → M D} (G_is_whole : Def P w K mg base k "is_whole" F_is_whole) {F_never_falls : List D → M D} (G_never_falls : Def P w K mg base k "never_falls" F_never_falls) {cdv : Value} {A : Around} {outer : List Env} {s : Shared} {H : Hp} {E : XK} (hr : Room k (A.deeper (envOfC "is_entry" (defScope s_is_entry) s.heap.objs.size t.f_is_entry cdv))) (B : Hp) :
    PDB (cxN P w K mg base N_is_entry "is_entry" (defScope s_is_entry) t.f_is_entry cdv A outer s H E) B (defBody s_is_entry) (den_is_entry t F_is_texts F_is_whole F_never_falls) :=
  by
  refine pdb_cons ?_ ?_; (refine pds_if ?_ ?_ ?_; (refine PDW.pdt ?_; (refine pdw_or ?_ ?_; (refine pdt_not ?_; (refine pdt_val ?_; (refine pd_isi (T := "tuple") rfl T.b_isinstance rfl T.b_tuple (by decide +kernel) (by decide) ?_; (exact pd_var 0)))); (refine pdw_or1 ?_; (refine pdt_ne ?_ ?_; (refine pd_len rfl T.b_len ?_; (exact pd_var 0)); (exact pd_int))))); (refine pdb_cons ?_ ?_; (refine pds_ret ?_; (exact pd_bl)); (exact pdb_nil)); (exact pdb_nil)); (refine pdb_cons ?_ ?_; (refine pds_ret ?_; (refine pd_and ?_ ?_; (refine pd_call G_is_texts hr rfl ?_; (refine pda_cons ?_ ?_; (refine pd_ix ?_ ?_ (fun _ _ => rfl); (exact pd_var 0); (exact pd_int)); (exact pda_nil))); (refine pd_and ?_ ?_; (refine pd_call G_never_falls hr rfl ?_; (refine pda_cons ?_ ?_; (refine pd_ix ?_ ?_ (fun _ _ => rfl); (exact pd_var 0); (exact pd_int)); (exact pda_nil))); (refine pd_one ?_; (refine pd_call G_is_whole hr rfl ?_; (refine pda_cons ?_ ?_; (refine pd_ix ?_ ?_ (fun _ _ => rfl); (exact pd_var 0); (exact pd_int)); (refine pda_cons ?_ ?_; (exact pd_int); (exact pda_nil)))))))); (exact pdb_nil))
theorem ok_is_entry (T : Txt K mg t) {k : Nat} {F_is_texts : List D → M D} (G_is_texts : Def P w K mg base k "is_texts" F_is_texts) {F_is_whole : List D → M D} (G_is_whole : Def P w K mg base k "is_whole" F_is_whole) {F_never_falls : List D → M D} (G_never_falls : Def P w K mg base k "never_falls" F_never_falls) {F : List D → M D} (hL : ∀ ds r, F ds = some r → ds.length = 1) (hq : ∀ ds r, F ds = some r → ∃ d, r = .ok d ∧ fnRes (den_is_entry t F_is_texts F_is_whole F_never_falls (rho0 N_is_entry ds)) = ok d) : Def P w K mg base (k + 1) "is_entry" F := by
  obtain ⟨fd, Fu, bi⟩ := T.F_is_entry
  exact ⟨_, _, _, T.g_is_entry, Fu.kp, bi, hL, fn_D Fu sc_is_entry hL fun cdv A outer s H E hr => ⟨_, fun B => tm_is_entry T G_is_texts G_is_whole G_never_falls hr B, hq⟩⟩
noncomputable def N_law_at : List Str := ["_law_script", "_law_k"]
theorem sc_law_at : FnScope N_law_at ["_law_script", "_law_k"] (defScope s_law_at) := ⟨rfl, rfl, rfl, by decide +kernel, rfl, by decide +kernel, by decide +kernel⟩
noncomputable def den_law_at (t : Adr) : Rho → Option Out :=
    (sSeq (sIf (testB (b2 gLt (look 1) (f1 lenD (look 0)))) (sSeq (sRet (b2 gIx (look 0) (look 1)))
    sNil) sNil)
    (sSeq (sRet (con (.int 0)))
    sNil))
theorem tm_law_at (T : Txt K mg t) {k : Nat}  {cdv : Value} {A : Around} {outer : List Env} {s : Shared} {H : Hp} {E : XK} (hr : Room k (A.deeper (envOfC "_law_at" (defScope s_law_at) s.heap.objs.size t.f_law_at cdv))) (B : Hp) :
    PDB (cxN P w K mg base N_law_at "_law_at" (defScope s_law_at) t.f_law_at cdv A outer s H E) B (defBody s_law_at) (den_law_at t) :=
  by
  refine pdb_cons ?_ ?_; (refine pds_if ?_ ?_ ?_; (refine pdt_lt ?_ ?_; (exact pd_var 1); (refine pd_len rfl T.b_len ?_; (exact pd_var 0))); (refine pdb_cons ?_ ?_; (refine pds_ret ?_; (refine pd_ix ?_ ?_ (fun _ _ => rfl); (exact pd_var 0); (exact pd_var 1))); (exact pdb_nil)); (exact pdb_nil)); (refine pdb_cons ?_ ?_; (refine pds_ret ?_; (exact pd_int)); (exact pdb_nil))
theorem ok_law_at (T : Txt K mg t) {k : Nat}  {F : List D → M D} (hL : ∀ ds r, F ds = some r → ds.length = 2) (hq : ∀ ds r, F ds = some r → ∃ d, r = .ok d ∧ fnRes (den_law_at t (rho0 N_law_at ds)) = ok d) : Def P w K mg base (k + 1) "_law_at" F := by
  obtain ⟨fd, Fu, bi⟩ := T.F_law_at
  exact ⟨_, _, _, T.g_law_at, Fu.kp, bi, hL, fn_D Fu sc_law_at hL fun cdv A outer s H E hr => ⟨_, fun B => tm_law_at T hr B, hq⟩⟩
noncomputable def N_law_same : List Str := ["_law_found", "_law_due", "_law_k"]
theorem sc_law_same : FnScope N_law_same ["_law_found", "_law_due"] (defScope s_law_same) := ⟨rfl, rfl, rfl, by decide +kernel, rfl, by decide +kernel, by decide +kernel⟩
noncomputable def den_law_same (t : Adr) (F_law_same : List D → M D) : Rho → Option Out :=
    (sSeq (sIf (orB (testB (b2 gNe (isi "tuple" (look 1)) (isi "tuple" (look 0)))) (testB (b2 gNe (isi "list" (look 1)) (isi "list" (look 0))))) (sSeq (sRet (con (.bl false)))
    sNil) sNil)
    (sSeq (sIf (test (isi2 ["tuple", "list"] (look 1))) (sSeq (sIf (testB (b2 gNe (f1 lenD (look 0)) (f1 lenD (look 1)))) (sSeq (sRet (con (.bl false)))
    sNil) sNil)
    (sSeq (sForR1 (f1 lenD (look 1)) (gN 2) (sSeq (sIf (notB (test (app F_law_same (aCons (b2 gIx (look 0) (look 2)) (aCons (b2 gIx (look 1) (look 2)) aNil))))) (sSeq (sRet (con (.bl false)))
    sNil) sNil)
    sNil))
    (sSeq (sRet (con (.bl true)))
    sNil))) sNil)
    (sSeq (sIf (testB (b2 gIs (look 1) (con .non))) (sSeq (sRet (b2 gIs (look 0) (con .non)))
    sNil) sNil)
    (sSeq (sIf (orB (testB (b2 gNe (isi "bool" (look 1)) (isi "bool" (look 0)))) (testB (b2 gNe (isi "str" (look 1)) (isi "str" (look 0))))) (sSeq (sRet (con (.bl false)))
    sNil) sNil)
    (sSeq (sRet (andV (b2 gEq (isi "int" (look 1)) (isi "int" (look 0))) (b2 gEq (look 0) (look 1))))
    sNil)))))
theorem tm_law_same (T : Txt K mg t) {k : Nat} {F_law_same : List D → M D} (G_law_same : Def P w K mg base k "_law_same" F_law_same) {cdv : Value} {A : Around} {outer : List Env} {s : Shared} {H : Hp} {E : XK} (hr : Room k (A.deeper (envOfC "_law_same" (defScope s_law_same) s.heap.objs.size t.f_law_same cdv))) (B : Hp) :
    PDB (cxN P w K mg base N_law_same "_law_same" (defScope s_law_same) t.f_law_same cdv A outer s H E) B (defBody s_law_same) (den_law_same t F_law_same) :=
  by
  refine pdb_cons ?_ ?_; (refine pds_if ?_ ?_ ?_; (refine PDW.pdt ?_; (refine pdw_or ?_ ?_; (refine pdt_ne ?_ ?_; (refine pd_isi (T := "tuple") rfl T.b_isinstance rfl T.b_tuple (by decide +kernel) (by decide) ?_; (exact pd_var 1)); (refine pd_isi (T := "tuple") rfl T.b_isinstance rfl T.b_tuple (by decide +kernel) (by decide) ?_; (exact pd_var 0))); (refine pdw_or1 ?_; (refine pdt_ne ?_ ?_; (refine pd_isi (T := "list") rfl T.b_isinstance rfl T.b_list (by decide +kernel) (by decide) ?_; (exact pd_var 1)); (refine pd_isi (T := "list") rfl T.b_isinstance rfl T.b_list (by decide +kernel) (by decide) ?_; (exact pd_var 0)))))); (refine pdb_cons ?_ ?_; (refine pds_ret ?_; (exact pd_bl)); (exact pdb_nil)); (exact pdb_nil)); (refine pdb_cons ?_ ?_; (refine pds_if ?_ ?_ ?_; (refine pdt_val ?_; (refine pd_isi2 (T := "tuple") (U := "list") rfl T.b_isinstance rfl T.b_tuple (by decide +kernel) (by decide) rfl T.b_list (by decide +kernel) (by decide) ?_; (exact pd_var 1))); (refine pdb_cons ?_ ?_; (refine pds_if ?_ ?_ ?_; (refine pdt_ne ?_ ?_; (refine pd_len rfl T.b_len ?_; (exact pd_var 0)); (refine pd_len rfl T.b_len ?_; (exact pd_var 1))); (refine pdb_cons ?_ ?_; (refine pds_ret ?_; (exact pd_bl)); (exact pdb_nil)); (exact pdb_nil)); (refine pdb_cons ?_ ?_; (refine pds_forR1 rfl T.b_range PassesOwn.never rfl ?_ (fun B => ?_) (fun B => ?_); (refine pd_len rfl T.b_len ?_; (exact pd_var 1)); (exact pdg_name (i := 2) (sc_law_same).nd rfl (Or.inl rfl)); (refine pdb_cons ?_ ?_; (refine pds_if ?_ ?_ ?_; (refine pdt_not ?_; (refine pdt_val ?_; (refine pd_call G_law_same hr rfl ?_; (refine pda_cons ?_ ?_; (refine pd_ix ?_ ?_ (fun _ _ => rfl); (exact pd_var 0); (exact pd_var 2)); (refine pda_cons ?_ ?_; (refine pd_ix ?_ ?_ (fun _ _ => rfl); (exact pd_var 1); (exact pd_var 2)); (exact pda_nil)))))); (refine pdb_cons ?_ ?_; (refine pds_ret ?_; (exact pd_bl)); (exact pdb_nil)); (exact pdb_nil)); (exact pdb_nil))); (refine pdb_cons ?_ ?_; (refine pds_ret ?_; (exact pd_bl)); (exact pdb_nil)))); (exact pdb_nil)); (refine pdb_cons ?_ ?_; (refine pds_if ?_ ?_ ?_; (refine pdt_is ?_ ?_; (exact pd_var 1); (exact pd_non)); (refine pdb_cons ?_ ?_; (refine pds_ret ?_; (refine pd_is ?_ ?_; (exact pd_var 0); (exact pd_non))); (exact pdb_nil)); (exact pdb_nil)); (refine pdb_cons ?_ ?_; (refine pds_if ?_ ?_ ?_; (refine PDW.pdt ?_; (refine pdw_or ?_ ?_; (refine pdt_ne ?_ ?_; (refine pd_isi (T := "bool") rfl T.b_isinstance rfl T.b_bool (by decide +kernel) (by decide) ?_; (exact pd_var 1)); (refine pd_isi (T := "bool") rfl T.b_isinstance rfl T.b_bool (by decide +kernel) (by decide) ?_; (exact pd_var 0))); (refine pdw_or1 ?_; (refine pdt_ne ?_ ?_; (refine pd_isi (T := "str") rfl T.b_isinstance rfl T.b_str (by decide +kernel) (by decide) ?_; (exact pd_var 1)); (refine pd_isi (T := "str") rfl T.b_isinstance rfl T.b_str (by decide +kernel) (by decide) ?_; (exact pd_var 0)))))); (refine pdb_cons ?_ ?_; (refine pds_ret ?_; (exact pd_bl)); (exact pdb_nil)); (exact pdb_nil)); (refine pdb_cons ?_ ?_; (refine pds_ret ?_; (refine pd_and ?_ ?_; (refine pd_eq ?_ ?_; (refine pd_isi (T := "int") rfl T.b_isinstance rfl T.b_int (by decide +kernel) (by decide) ?_; (exact pd_var 1)); (refine pd_isi (T := "int") rfl T.b_isinstance rfl T.b_int (by decide +kernel) (by decide) ?_; (exact pd_var 0))); (refine pd_one ?_; (refine pd_eq ?_ ?_; (exact pd_var 0); (exact pd_var 1))))); (exact pdb_nil)))))
theorem ok_law_same (T : Txt K mg t) {k : Nat} {F_law_same : List D → M D} (G_law_same : Def P w K mg base k "_law_same" F_law_same) {F : List D → M D} (hL : ∀ ds r, F ds = some r → ds.length = 2) (hq : ∀ ds r, F ds = some r → ∃ d, r = .ok d ∧ fnRes (den_law_same t F_law_same (rho0 N_law_same ds)) = ok d) : Def P w K mg base (k + 1) "_law_same" F := by
  obtain ⟨fd, Fu, bi⟩ := T.F_law_same
  exact ⟨_, _, _, T.g_law_same, Fu.kp, bi, hL, fn_D Fu sc_law_same hL fun cdv A outer s H E hr => ⟨_, fun B => tm_law_same T G_law_same hr B, hq⟩⟩
noncomputable def N_law_mix : List Str := ["_law_cell"]
theorem sc_law_mix : FnScope N_law_mix ["_law_cell"] (defScope s_law_mix) := ⟨rfl, rfl, rfl, by decide +kernel, rfl, by decide +kernel, by decide +kernel⟩
noncomputable def den_law_mix (t : Adr) : Rho → Option Out :=
    (sSeq (sRet (b2 gMod (b2 gTimes (b2 gPlus (b2 gMod (look 0) (b2 gPow (con (.int 10)) (con (.int 9)))) (con (.int 1))) (con (.int 2862933555777941757))) (b2 gPlus (b2 gPow (con (.int 10)) (con (.int 24))) (con (.int 7)))))
    sNil)
theorem tm_law_mix (T : Txt K mg t) {k : Nat}  {cdv : Value} {A : Around} {outer : List Env} {s : Shared} {H : Hp} {E : XK} (hr : Room k (A.deeper (envOfC "_law_mix" (defScope s_law_mix) s.heap.objs.size t.f_law_mix cdv))) (B : Hp) :
    PDB (cxN P w K mg base N_law_mix "_law_mix" (defScope s_law_mix) t.f_law_mix cdv A outer s H E) B (defBody s_law_mix) (den_law_mix t) :=
  by
  refine pdb_cons ?_ ?_; (refine pds_ret ?_; (refine pd_mod ?_ ?_; (refine pd_times ?_ ?_; (refine pd_plus ?_ ?_; (refine pd_mod ?_ ?_; (exact pd_var 0); (refine pd_pow ?_ ?_; (exact pd_int); (exact pd_int))); (exact pd_int)); (exact pd_int)); (refine pd_plus ?_ ?_; (refine pd_pow ?_ ?_; (exact pd_int); (exact pd_int)); (exact pd_int)))); (exact pdb_nil)
theorem ok_law_mix (T : Txt K mg t) {k : Nat}  {F : List D → M D} (hL : ∀ ds r, F ds = some r → ds.length = 1) (hq : ∀ ds r, F ds = some r → ∃ d, r = .ok d ∧ fnRes (den_law_mix t (rho0 N_law_mix ds)) = ok d) : Def P w K mg base (k + 1) "_law_mix" F := by
  obtain ⟨fd, Fu, bi⟩ := T.F_law_mix
  exact ⟨_, _, _, T.g_law_mix, Fu.kp, bi, hL, fn_D Fu sc_law_mix hL fun cdv A outer s H E hr => ⟨_, fun B => tm_law_mix T hr B, hq⟩⟩
noncomputable def N_law_name : List Str := ["_law_style", "_law_k", "_law_at_here"]
theorem sc_law_name : FnScope N_law_name ["_law_style", "_law_k"] (defScope s_law_name) := ⟨rfl, rfl, rfl, by decide +kernel, rfl, by decide +kernel, by decide +kernel⟩
noncomputable def den_law_name (t : Adr) : Rho → Option Out :=
    (sSeq (sSet 2 (b2 gMod (b2 gPlus (b2 gTimes (con (.int 5)) (look 1)) (look 0)) (con (.int 23))))
    (sSeq (sIf (testB (b2 gEq (b2 gMod (b2 gFdiv (look 0) (con (.int 23))) (con (.int 3))) (con (.int 1)))) (sSeq (sRet (b2 gPlus (cut3 (con (.str "zz")) oNone (oPart (b2 gMod (look 0) (con (.int 3))))) (b2 gTimes (con (.str "a")) (look 2))))
    sNil) sNil)
    (sSeq (sRet (b2 gPlus (b2 gPlus (cut3 (con (.str "zyzy")) oNone (oPart (b2 gMod (b2 gFdiv (look 0) (con (.int 69))) (con (.int 4))))) (b2 gIx (con (.str "aXq 0~zB-c!_dEf.gH1i(jK")) (look 2))) (cut3 (con (.str "yzzy")) oNone (oPart (b2 gMod (b2 gFdiv (look 0) (con (.int 276))) (con (.int 4)))))))
    sNil)))
theorem tm_law_name (T : Txt K mg t) {k : Nat}  {cdv : Value} {A : Around} {outer : List Env} {s : Shared} {H : Hp} {E : XK} (hr : Room k (A.deeper (envOfC "_law_name" (defScope s_law_name) s.heap.objs.size t.f_law_name cdv))) (B : Hp) :
    PDB (cxN P w K mg base N_law_name "_law_name" (defScope s_law_name) t.f_law_name cdv A outer s H E) B (defBody s_law_name) (den_law_name t) :=
  by
  refine pdb_cons ?_ ?_; (refine pds_set (i := 2) (sc_law_name).nd rfl (Or.inl rfl) ?_; (refine pd_mod ?_ ?_; (refine pd_plus ?_ ?_; (refine pd_times ?_ ?_; (exact pd_int); (exact pd_var 1)); (exact pd_var 0)); (exact pd_int))); (refine pdb_cons ?_ ?_; (refine pds_if ?_ ?_ ?_; (refine pdt_eq ?_ ?_; (refine pd_mod ?_ ?_; (refine pd_fdiv ?_ ?_; (exact pd_var 0); (exact pd_int)); (exact pd_int)); (exact pd_int)); (refine pdb_cons ?_ ?_; (refine pds_ret ?_; (refine pd_plus ?_ ?_; (refine pd_slice ?_ ?_ ?_; (exact pd_str); (exact pdo_none); (refine pdo_some ?_; (refine pd_mod ?_ ?_; (exact pd_var 0); (exact pd_int)))); (refine pd_times ?_ ?_; (exact pd_str); (exact pd_var 2)))); (exact pdb_nil)); (exact pdb_nil)); (refine pdb_cons ?_ ?_; (refine pds_ret ?_; (refine pd_plus ?_ ?_; (refine pd_plus ?_ ?_; (refine pd_slice ?_ ?_ ?_; (exact pd_str); (exact pdo_none); (refine pdo_some ?_; (refine pd_mod ?_ ?_; (refine pd_fdiv ?_ ?_; (exact pd_var 0); (exact pd_int)); (exact pd_int)))); (refine pd_ix ?_ ?_ (fun _ _ => rfl); (exact pd_str); (exact pd_var 2))); (refine pd_slice ?_ ?_ ?_; (exact pd_str); (exact pdo_none); (refine pdo_some ?_; (refine pd_mod ?_ ?_; (refine pd_fdiv ?_ ?_; (exact pd_var 0); (exact pd_int)); (exact pd_int)))))); (exact pdb_nil)))
theorem ok_law_name (T : Txt K mg t) {k : Nat}  {F : List D → M D} (hL : ∀ ds r, F ds = some r → ds.length = 2) (hq : ∀ ds r, F ds = some r → ∃ d, r = .ok d ∧ fnRes (den_law_name t (rho0 N_law_name ds)) = ok d) : Def P w K mg base (k + 1) "_law_name" F := by
  obtain ⟨fd, Fu, bi⟩ := T.F_law_name
  exact ⟨_, _, _, T.g_law_name, Fu.kp, bi, hL, fn_D Fu sc_law_name hL fun cdv A outer s H E hr => ⟨_, fun B => tm_law_name T hr B, hq⟩⟩
noncomputable def N_law_sum : List Str := ["_law_names", "_law_cell", "_law_by", "_law_counts", "_law_many", "_law_k", "_law_product", "_law_size", "_law_j", "_law_number", "_law_key"]
theorem sc_law_sum : FnScope N_law_sum ["_law_names", "_law_cell"] (defScope s_law_sum) := ⟨rfl, rfl, rfl, by decide +kernel, rfl, by decide +kernel, by decide +kernel⟩
noncomputable def den_law_sum (t : Adr) (F_law_mix : List D → M D) : Rho → Option Out :=
    (sSeq (sSet 2 (app F_law_mix (aCons (look 1) aNil)))
    (sSeq (sNewT 3)
    (sSeq (sSet 4 (b2 gMod (look 2) (con (.int 4))))
    (sSeq (sSet 2 (b2 gFdiv (look 2) (con (.int 4))))
    (sSeq (sForR1 (look 4) (gN 5) (sSeq (sNew 6 aNil)
    (sSeq (sSet 7 (b2 gMod (look 2) (con (.int 4))))
    (sSeq (sSet 2 (b2 gFdiv (look 2) (con (.int 4))))
    (sSeq (sForR1 (look 7) (gN 8) (sSeq (sOwn lApp 6 (aCons (b2 gIx (look 0) (b2 gMod (look 2) (f1 lenD (look 0)))) aNil))
    (sSeq (sSet 2 (b2 gFdiv (look 2) (f1 lenD (look 0))))
    sNil)))
    (sSeq (sSet 9 (b2 gPlus (con (.int 1)) (b2 gMod (look 2) (con (.int 5)))))
    (sSeq (sSet 2 (b2 gFdiv (look 2) (con (.int 5))))
    (sSeq (sIf (testB (b2 gEq (look 9) (con (.int 5)))) (sSeq (sSet 9 (b2 gPlus (b2 gPow (con (.int 10)) (con (.int 40))) (look 5)))
    sNil) sNil)
    (sSeq (sSet 10 (f1 toT (f1 srtL (look 6))))
    (sSeq (sPutT 3 10 (b2 gPlus (dGet2 3 10 (con (.int 0))) (look 9)))
    sNil))))))))))
    (sSeq (sRet (f1 toT (dSrtI 3)))
    sNil))))))
theorem tm_law_sum (T : Txt K mg t) {k : Nat} {F_law_mix : List D → M D} (G_law_mix : Def P w K mg base k "_law_mix" F_law_mix) {cdv : Value} {A : Around} {outer : List Env} {s : Shared} {H : Hp} {E : XK} (hr : Room k (A.deeper (envOfC "_law_sum" (defScope s_law_sum) s.heap.objs.size t.f_law_sum cdv))) (B : Hp) :
    PDB (cxN P w K mg base N_law_sum "_law_sum" (defScope s_law_sum) t.f_law_sum cdv A outer s H E) B (defBody s_law_sum) (den_law_sum t F_law_mix) :=
  by
  refine pdb_cons ?_ ?_; (refine pds_set (i := 2) (sc_law_sum).nd rfl (Or.inl rfl) ?_; (refine pd_call G_law_mix hr rfl ?_; (refine pda_cons ?_ ?_; (exact pd_var 1); (exact pda_nil)))); (refine pdb_cons ?_ ?_; (exact pds_newT (i := 3) (sc_law_sum).nd rfl (Or.inl rfl)); (refine pdb_cons ?_ ?_; (refine pds_set (i := 4) (sc_law_sum).nd rfl (Or.inl rfl) ?_; (refine pd_mod ?_ ?_; (exact pd_var 2); (exact pd_int))); (refine pdb_cons ?_ ?_; (refine pds_set (i := 2) (sc_law_sum).nd rfl (Or.inl rfl) ?_; (refine pd_fdiv ?_ ?_; (exact pd_var 2); (exact pd_int))); (refine pdb_cons ?_ ?_; (refine pds_forR1 rfl T.b_range PassesOwn.never rfl ?_ (fun B => ?_) (fun B => ?_); (exact pd_var 4); (exact pdg_name (i := 5) (sc_law_sum).nd rfl (Or.inl rfl)); (refine pdb_cons ?_ ?_; (refine pds_new (i := 6) (sc_law_sum).nd rfl (Or.inl rfl) ?_; (exact pda_nil)); (refine pdb_cons ?_ ?_; (refine pds_set (i := 7) (sc_law_sum).nd rfl (Or.inl rfl) ?_; (refine pd_mod ?_ ?_; (exact pd_var 2); (exact pd_int))); (refine pdb_cons ?_ ?_; (refine pds_set (i := 2) (sc_law_sum).nd rfl (Or.inl rfl) ?_; (refine pd_fdiv ?_ ?_; (exact pd_var 2); (exact pd_int))); (refine pdb_cons ?_ ?_; (refine pds_forR1 rfl T.b_range PassesOwn.never rfl ?_ (fun B => ?_) (fun B => ?_); (exact pd_var 7); (exact pdg_name (i := 8) (sc_law_sum).nd rfl (Or.inl rfl)); (refine pdb_cons ?_ ?_; (refine pds_append (i := 6) rfl (Or.inl rfl) ?_; (refine pd_ix ?_ ?_ (fun _ _ => rfl); (exact pd_var 0); (refine pd_mod ?_ ?_; (exact pd_var 2); (refine pd_len rfl T.b_len ?_; (exact pd_var 0))))); (refine pdb_cons ?_ ?_; (refine pds_set (i := 2) (sc_law_sum).nd rfl (Or.inl rfl) ?_; (refine pd_fdiv ?_ ?_; (exact pd_var 2); (refine pd_len rfl T.b_len ?_; (exact pd_var 0)))); (exact pdb_nil)))); (refine pdb_cons ?_ ?_; (refine pds_set (i := 9) (sc_law_sum).nd rfl (Or.inl rfl) ?_; (refine pd_plus ?_ ?_; (exact pd_int); (refine pd_mod ?_ ?_; (exact pd_var 2); (exact pd_int)))); (refine pdb_cons ?_ ?_; (refine pds_set (i := 2) (sc_law_sum).nd rfl (Or.inl rfl) ?_; (refine pd_fdiv ?_ ?_; (exact pd_var 2); (exact pd_int))); (refine pdb_cons ?_ ?_; (refine pds_if ?_ ?_ ?_; (refine pdt_eq ?_ ?_; (exact pd_var 9); (exact pd_int)); (refine pdb_cons ?_ ?_; (refine pds_set (i := 9) (sc_law_sum).nd rfl (Or.inl rfl) ?_; (refine pd_plus ?_ ?_; (refine pd_pow ?_ ?_; (exact pd_int); (exact pd_int)); (exact pd_var 5))); (exact pdb_nil)); (exact pdb_nil)); (refine pdb_cons ?_ ?_; (refine pds_set (i := 10) (sc_law_sum).nd rfl (Or.inl rfl) ?_; (refine pd_tuple rfl T.b_tuple ?_; (refine pd_sortedL rfl rfl T.b_sorted ?_; (exact pd_var 6)))); (refine pdb_cons ?_ ?_; (refine pds_putT hr 3 10 ?_; (refine pd_plus ?_ ?_; (refine pd_get2T hr 3 10 ?_; (exact pd_int)); (exact pd_var 9))); (exact pdb_nil))))))))))); (refine pdb_cons ?_ ?_; (refine pds_ret ?_; (refine pd_tuple rfl T.b_tuple ?_; (exact pd_sortedI hr (by rfl) (by rfl) T.b_sorted 3))); (exact pdb_nil))))))
theorem ok_law_sum (T : Txt K mg t) {k : Nat} {F_law_mix : List D → M D} (G_law_mix : Def P w K mg base k "_law_mix" F_law_mix) {F : List D → M D} (hL : ∀ ds r, F ds = some r → ds.length = 2) (hq : ∀ ds r, F ds = some r → ∃ d, r = .ok d ∧ fnRes (den_law_sum t F_law_mix (rho0 N_law_sum ds)) = ok d) : Def P w K mg base (k + 1) "_law_sum" F := by
  obtain ⟨fd, Fu, bi⟩ := T.F_law_sum
  exact ⟨_, _, _, T.g_law_sum, Fu.kp, bi, hL, fn_D Fu sc_law_sum hL fun cdv A outer s H E hr => ⟨_, fun B => tm_law_sum T G_law_mix hr B, hq⟩⟩
noncomputable def N_law_sorted : List Str := ["_law_counts"]
theorem sc_law_sorted : FnScope N_law_sorted ["_law_counts"] (defScope s_law_sorted) := ⟨rfl, rfl, rfl, by decide +kernel, rfl, by decide +kernel, by decide +kernel⟩
noncomputable def den_law_sorted (t : Adr) : Rho → Option Out :=
    (sSeq (sRet (f1 toT (dSrtI 0)))
    sNil)
theorem tm_law_sorted (T : Txt K mg t) {k : Nat}  {cdv : Value} {A : Around} {outer : List Env} {s : Shared} {H : Hp} {E : XK} (hr : Room k (A.deeper (envOfC "_law_sorted" (defScope s_law_sorted) s.heap.objs.size t.f_law_sorted cdv))) (B : Hp) :
    PDB (cxN P w K mg base N_law_sorted "_law_sorted" (defScope s_law_sorted) t.f_law_sorted cdv A outer s H E) B (defBody s_law_sorted) (den_law_sorted t) :=
  by
  refine pdb_cons ?_ ?_; (refine pds_ret ?_; (refine pd_tuple rfl T.b_tuple ?_; (exact pd_sortedI hr (by rfl) (by rfl) T.b_sorted 0))); (exact pdb_nil)
theorem ok_law_sorted (T : Txt K mg t) {k : Nat}  {F : List D → M D} (hL : ∀ ds r, F ds = some r → ds.length = 1) (hq : ∀ ds r, F ds = some r → ∃ d, r = .ok d ∧ fnRes (den_law_sorted t (rho0 N_law_sorted ds)) = ok d) : Def P w K mg base (k + 1) "_law_sorted" F := by
  obtain ⟨fd, Fu, bi⟩ := T.F_law_sorted
  exact ⟨_, _, _, T.g_law_sorted, Fu.kp, bi, hL, fn_D Fu sc_law_sorted hL fun cdv A outer s H E hr => ⟨_, fun B => tm_law_sorted T hr B, hq⟩⟩
noncomputable def N_law_plus : List Str := ["_law_one", "_law_other", "_law_counts", "_law_product", "_law_many"]
theorem sc_law_plus : FnScope N_law_plus ["_law_one", "_law_other"] (defScope s_law_plus) := ⟨rfl, rfl, rfl, by decide +kernel, rfl, by decide +kernel, by decide +kernel⟩
noncomputable def den_law_plus (t : Adr) (F_law_sorted : List D → M D) : Rho → Option Out :=
    (sSeq (sNewD 2 (look 0))
    (sSeq (sForN 1 (gN2 3 4) (sSeq (sPutT 2 3 (b2 gPlus (dGet2 2 3 (con (.int 0))) (look 4)))
    sNil))
    (sSeq (sRet (app F_law_sorted (aCons (look 2) aNil)))
    sNil)))
theorem tm_law_plus (T : Txt K mg t) {k : Nat} {F_law_sorted : List D → M D} (G_law_sorted : Def P w K mg base k "_law_sorted" F_law_sorted) {cdv : Value} {A : Around} {outer : List Env} {s : Shared} {H : Hp} {E : XK} (hr : Room k (A.deeper (envOfC "_law_plus" (defScope s_law_plus) s.heap.objs.size t.f_law_plus cdv))) (B : Hp) :
    PDB (cxN P w K mg base N_law_plus "_law_plus" (defScope s_law_plus) t.f_law_plus cdv A outer s H E) B (defBody s_law_plus) (den_law_plus t F_law_sorted) :=
  by
  refine pdb_cons ?_ ?_; (refine pds_newD (i := 2) hr rfl T.b_dict (sc_law_plus).nd rfl (Or.inl rfl) ?_; (exact pd_var 0)); (refine pdb_cons ?_ ?_; (refine pds_forN 1 rfl (Or.inl rfl) PassesOwn.never rfl (fun B => ?_) (fun B => ?_); (exact pdg_tup2 (i := 3) (j := 4) rfl (sc_law_plus).nd rfl (Or.inl rfl) rfl (Or.inl rfl)); (refine pdb_cons ?_ ?_; (refine pds_putT hr 2 3 ?_; (refine pd_plus ?_ ?_; (refine pd_get2T hr 2 3 ?_; (exact pd_int)); (exact pd_var 4))); (exact pdb_nil))); (refine pdb_cons ?_ ?_; (refine pds_ret ?_; (refine pd_call G_law_sorted hr rfl ?_; (refine pda_cons ?_ ?_; (exact pd_var 2); (exact pda_nil)))); (exact pdb_nil)))
theorem ok_law_plus (T : Txt K mg t) {k : Nat} {F_law_sorted : List D → M D} (G_law_sorted : Def P w K mg base k "_law_sorted" F_law_sorted) {F : List D → M D} (hL : ∀ ds r, F ds = some r → ds.length = 2) (hq : ∀ ds r, F ds = some r → ∃ d, r = .ok d ∧ fnRes (den_law_plus t F_law_sorted (rho0 N_law_plus ds)) = ok d) : Def P w K mg base (k + 1) "_law_plus" F := by
  obtain ⟨fd, Fu, bi⟩ := T.F_law_plus
  exact ⟨_, _, _, T.g_law_plus, Fu.kp, bi, hL, fn_D Fu sc_law_plus hL fun cdv A outer s H E hr => ⟨_, fun B => tm_law_plus T G_law_sorted hr B, hq⟩⟩
noncomputable def N_law_times : List Str := ["_law_one", "_law_other", "_law_counts", "_law_product", "_law_many", "_law_second", "_law_more", "_law_key"]
theorem sc_law_times : FnScope N_law_times ["_law_one", "_law_other"] (defScope s_law_times) := ⟨rfl, rfl, rfl, by decide +kernel, rfl, by decide +kernel, by decide +kernel⟩
noncomputable def den_law_times (t : Adr) (F_law_sorted : List D → M D) : Rho → Option Out :=
    (sSeq (sNewT 2)
    (sSeq (sForN 0 (gN2 3 4) (sSeq (sForN 1 (gN2 5 6) (sSeq (sSet 7 (f1 toT (f1 srtL (b2 gPlus (look 3) (look 5)))))
    (sSeq (sPutT 2 7 (b2 gPlus (dGet2 2 7 (con (.int 0))) (b2 gTimes (look 4) (look 6))))
    sNil)))
    sNil))
    (sSeq (sRet (app F_law_sorted (aCons (look 2) aNil)))
    sNil)))
theorem tm_law_times (T : Txt K mg t) {k : Nat} {F_law_sorted : List D → M D} (G_law_sorted : Def P w K mg base k "_law_sorted" F_law_sorted) {cdv : Value} {A : Around} {outer : List Env} {s : Shared} {H : Hp} {E : XK} (hr : Room k (A.deeper (envOfC "_law_times" (defScope s_law_times) s.heap.objs.size t.f_law_times cdv))) (B : Hp) :
    PDB (cxN P w K mg base N_law_times "_law_times" (defScope s_law_times) t.f_law_times cdv A outer s H E) B (defBody s_law_times) (den_law_times t F_law_sorted) :=
  by
  refine pdb_cons ?_ ?_; (exact pds_newT (i := 2) (sc_law_times).nd rfl (Or.inl rfl)); (refine pdb_cons ?_ ?_; (refine pds_forN 0 rfl (Or.inl rfl) PassesOwn.never rfl (fun B => ?_) (fun B => ?_); (exact pdg_tup2 (i := 3) (j := 4) rfl (sc_law_times).nd rfl (Or.inl rfl) rfl (Or.inl rfl)); (refine pdb_cons ?_ ?_; (refine pds_forN 1 rfl (Or.inl rfl) PassesOwn.never rfl (fun B => ?_) (fun B => ?_); (exact pdg_tup2 (i := 5) (j := 6) rfl (sc_law_times).nd rfl (Or.inl rfl) rfl (Or.inl rfl)); (refine pdb_cons ?_ ?_; (refine pds_set (i := 7) (sc_law_times).nd rfl (Or.inl rfl) ?_; (refine pd_tuple rfl T.b_tuple ?_; (refine pd_sortedL rfl rfl T.b_sorted ?_; (refine pd_plus ?_ ?_; (exact pd_var 3); (exact pd_var 5))))); (refine pdb_cons ?_ ?_; (refine pds_putT hr 2 7 ?_; (refine pd_plus ?_ ?_; (refine pd_get2T hr 2 7 ?_; (exact pd_int)); (refine pd_times ?_ ?_; (exact pd_var 4); (exact pd_var 6)))); (exact pdb_nil)))); (exact pdb_nil))); (refine pdb_cons ?_ ?_; (refine pds_ret ?_; (refine pd_call G_law_sorted hr rfl ?_; (refine pda_cons ?_ ?_; (exact pd_var 2); (exact pda_nil)))); (exact pdb_nil)))
theorem ok_law_times (T : Txt K mg t) {k : Nat} {F_law_sorted : List D → M D} (G_law_sorted : Def P w K mg base k "_law_sorted" F_law_sorted) {F : List D → M D} (hL : ∀ ds r, F ds = some r → ds.length = 2) (hq : ∀ ds r, F ds = some r → ∃ d, r = .ok d ∧ fnRes (den_law_times t F_law_sorted (rho0 N_law_times ds)) = ok d) : Def P w K mg base (k + 1) "_law_times" F := by
  obtain ⟨fd, Fu, bi⟩ := T.F_law_times
  exact ⟨_, _, _, T.g_law_times, Fu.kp, bi, hL, fn_D Fu sc_law_times hL fun cdv A outer s H E hr => ⟨_, fun B => tm_law_times T G_law_sorted hr B, hq⟩⟩
noncomputable def N_law : List Str := ["_law_script", "_law_way", "_law_names", "_law_last", "_law_found", "_law_due", "_law_cell", "_law_new", "_law_plus_here", "_law_times_here"]
noncomputable def Nc_law_0 : List Str := ["_law_script", "?1", "?2", "?3", "?4", "?5", "?6", "?7", "?8", "?9", "_law_k"]
theorem nd_law_0 : Nc_law_0.Nodup := by decide +kernel
theorem sc_law : FnScope N_law ["_law_script"] (defScope s_law) := ⟨rfl, rfl, rfl, by decide +kernel, rfl, by decide +kernel, by decide +kernel⟩
noncomputable def den_law (t : Adr) (F_law_at : List D → M D) (F_law_name : List D → M D) (F_law_plus : List D → M D) (F_law_same : List D → M D) (F_law_sum : List D → M D) (F_law_times : List D → M D) (F_Sums : List D → M (List (Str × D))) (M_is_mark : Addr → Option (List D → M D)) (M_plus : Addr → Option (List D → M D)) (M_times : Addr → Option (List D → M D)) : Rho → Option Out :=
    (sSeq (sSet 1 (fun _ => mkO t.C_Sums F_Sums []))
    (sSeq (sIf (notB (test (app F_law_same (aCons (mkT (aCons (fld (cs t) "nought" (look 1)) (aCons (fld (cs t) "one" (look 1)) aNil))) (aCons (mkT (aCons (mkT aNil) (aCons (mkT (aCons (mkT (aCons (mkT aNil) (aCons (con (.int 1)) aNil))) aNil)) aNil))) aNil))))) (sSeq (sRet (con (.bl false)))
    sNil) sNil)
    (sSeq (sSet 2 (cmp 1 (itR (con (.int 4))) [10] h1 (fun _ => ok true) (app F_law_name (aCons (b2 gMod (app F_law_at (aCons (look 0) (aCons (con (.int 0)) aNil))) (con (.int 2000))) (aCons (look 10) aNil)))))
    (sSeq (sSet 3 (app F_law_sum (aCons (look 2) (aCons (app F_law_at (aCons (look 0) (aCons (con (.int 1)) aNil))) aNil))))
    (sSeq (sSet 4 (fld (cs t) "nought" (look 1)))
    (sSeq (sSet 5 (mkT aNil))
    (sSeq (sForE (cut3 (look 0) oNone (oPart (con (.int 24)))) (gN 6) (sSeq (sSet 7 (app F_law_sum (aCons (look 2) (aCons (look 6) aNil))))
    (sSeq (sSet 8 (app F_law_plus (aCons (look 3) (aCons (look 7) aNil))))
    (sSeq (sSet 9 (app F_law_times (aCons (look 3) (aCons (look 7) aNil))))
    (sSeq (sIf (notB (test (app F_law_same (aCons (mkT (aCons (appM "plus" M_plus (look 1) (aCons (look 3) (aCons (look 7) aNil))) (aCons (appM "plus" M_plus (look 1) (aCons (look 7) (aCons (look 3) aNil))) aNil))) (aCons (mkT (aCons (look 8) (aCons (look 8) aNil))) aNil))))) (sSeq (sRet (con (.bl false)))
    sNil) sNil)
    (sSeq (sIf (notB (test (app F_law_same (aCons (mkT (aCons (appM "times" M_times (look 1) (aCons (look 3) (aCons (look 7) aNil))) (aCons (appM "times" M_times (look 1) (aCons (look 7) (aCons (look 3) aNil))) aNil))) (aCons (mkT (aCons (look 9) (aCons (look 9) aNil))) aNil))))) (sSeq (sRet (con (.bl false)))
    sNil) sNil)
    (sSeq (sIf (orB (notB (test (appM "is_mark" M_is_mark (look 1) (aCons (look 8) aNil)))) (orB (notB (test (appM "is_mark" M_is_mark (look 1) (aCons (look 9) aNil)))) (notB (test (appM "is_mark" M_is_mark (look 1) (aCons (look 7) aNil)))))) (sSeq (sRet (con (.bl false)))
    sNil) sNil)
    (sSeq (sSet 4 (appM "plus" M_plus (look 1) (aCons (look 4) (aCons (look 7) aNil))))
    (sSeq (sSet 5 (app F_law_plus (aCons (look 5) (aCons (look 7) aNil))))
    (sSeq (sSet 3 (look 7))
    sNil))))))))))
    (sSeq (sRet (app F_law_same (aCons (look 4) (aCons (look 5) aNil))))
    sNil))))))))
theorem tm_law (T : Txt K mg t) {k k' : Nat} (hk : k' + 1 ≤ k) {F_law_at : List D → M D} (G_law_at : Def P w K mg base k "_law_at" F_law_at) {F_law_name : List D → M D} (G_law_name : Def P w K mg base k "_law_name" F_law_name) {F_law_plus : List D → M D} (G_law_plus : Def P w K mg base k "_law_plus" F_law_plus) {F_law_same : List D → M D} (G_law_same : Def P w K mg base k "_law_same" F_law_same) {F_law_sum : List D → M D} (G_law_sum : Def P w K mg base k "_law_sum" F_law_sum) {F_law_times : List D → M D} (G_law_times : Def P w K mg base k "_law_times" F_law_times) {F_Sums : List D → M (List (Str × D))} (G_Sums : Ctor P w K mg base k' "Sums" t.C_Sums F_Sums) {M_is_mark : Addr → Option (List D → M D)} (GM_is_mark : ∀ C F, M_is_mark C = some F → Mth P w K mg base k C "is_mark" F) {M_plus : Addr → Option (List D → M D)} (GM_plus : ∀ C F, M_plus C = some F → Mth P w K mg base k C "plus" F) {M_times : Addr → Option (List D → M D)} (GM_times : ∀ C F, M_times C = some F → Mth P w K mg base k C "times" F) {cdv : Value} {A : Around} {outer : List Env} {s : Shared} {H : Hp} {E : XK} (hr : Room k (A.deeper (envOfC "law" (defScope s_law) s.heap.objs.size t.f_law cdv))) (B : Hp) :
    PDB (cxN P w K mg base N_law "law" (defScope s_law) t.f_law cdv A outer s H E) B (defBody s_law) (den_law t F_law_at F_law_name F_law_plus F_law_same F_law_sum F_law_times F_Sums M_is_mark M_plus M_times) :=
  by
  have hr' := hr.mono hk
  refine pdb_cons ?_ ?_; (refine pds_set (i := 1) (sc_law).nd rfl (Or.inl rfl) ?_; (exact pd_make0 G_Sums hr' rfl)); (refine pdb_cons ?_ ?_; (refine pds_if ?_ ?_ ?_; (refine pdt_not ?_; (refine pdt_val ?_; (refine pd_call G_law_same hr rfl ?_; (refine pda_cons ?_ ?_; (refine pd_tup ?_; (refine pda_cons ?_ ?_; (refine pd_fld (f := "nought") (T.nf_nought) ?_; (exact pd_var 1)); (refine pda_cons ?_ ?_; (refine pd_fld (f := "one") (T.nf_one) ?_; (exact pd_var 1)); (exact pda_nil)))); (refine pda_cons ?_ ?_; (refine pd_tup ?_; (refine pda_cons ?_ ?_; (refine pd_tup ?_; (exact pda_nil)); (refine pda_cons ?_ ?_; (refine pd_tup ?_; (refine pda_cons ?_ ?_; (refine pd_tup ?_; (refine pda_cons ?_ ?_; (refine pd_tup ?_; (exact pda_nil)); (refine pda_cons ?_ ?_; (exact pd_int); (exact pda_nil)))); (exact pda_nil))); (exact pda_nil)))); (exact pda_nil)))))); (refine pdb_cons ?_ ?_; (refine pds_ret ?_; (exact pd_bl)); (exact pdb_nil)); (exact pdb_nil)); (refine pdb_cons ?_ ?_; (refine pds_comp1 (i := 2) (sc_law).nd rfl (Or.inl rfl) (N' := Nc_law_0) (m := 1) (ks := [10]) rfl rfl rfl rfl (by repeat (first | exact lk_nil | refine lk_cons rfl (by first | exact Or.inl rfl | exact Or.inr rfl) ?_)) rfl rfl rfl rfl rfl ?_ (fun C s₀ H₀ ex => ?_) (fun C s₀ H₀ ex B => ?_) (fun C s₀ H₀ ex B => ?_); (refine pit_r1 rfl T.b_range ?_; (exact pd_int)); (exact pdn_1 nd_law_0 rfl (Or.inl rfl)); (exact pif_none); (refine pd_call G_law_name hr rfl ?_; (refine pda_cons ?_ ?_; (refine pd_mod ?_ ?_; (refine pd_call G_law_at hr rfl ?_; (refine pda_cons ?_ ?_; (exact pd_var 0); (refine pda_cons ?_ ?_; (exact pd_int); (exact pda_nil)))); (exact pd_int)); (refine pda_cons ?_ ?_; (exact pd_var 10); (exact pda_nil))))); (refine pdb_cons ?_ ?_; (refine pds_set (i := 3) (sc_law).nd rfl (Or.inl rfl) ?_; (refine pd_call G_law_sum hr rfl ?_; (refine pda_cons ?_ ?_; (exact pd_var 2); (refine pda_cons ?_ ?_; (refine pd_call G_law_at hr rfl ?_; (refine pda_cons ?_ ?_; (exact pd_var 0); (refine pda_cons ?_ ?_; (exact pd_int); (exact pda_nil)))); (exact pda_nil))))); (refine pdb_cons ?_ ?_; (refine pds_set (i := 4) (sc_law).nd rfl (Or.inl rfl) ?_; (refine pd_fld (f := "nought") (T.nf_nought) ?_; (exact pd_var 1))); (refine pdb_cons ?_ ?_; (refine pds_set (i := 5) (sc_law).nd rfl (Or.inl rfl) ?_; (refine pd_tup ?_; (exact pda_nil))); (refine pdb_cons ?_ ?_; (refine pds_forE PassesOwn.never rfl ?_ (fun B => ?_) (fun B => ?_); (refine pd_slice ?_ ?_ ?_; (exact pd_var 0); (exact pdo_none); (refine pdo_some ?_; (exact pd_int))); (exact pdg_name (i := 6) (sc_law).nd rfl (Or.inl rfl)); (refine pdb_cons ?_ ?_; (refine pds_set (i := 7) (sc_law).nd rfl (Or.inl rfl) ?_; (refine pd_call G_law_sum hr rfl ?_; (refine pda_cons ?_ ?_; (exact pd_var 2); (refine pda_cons ?_ ?_; (exact pd_var 6); (exact pda_nil))))); (refine pdb_cons ?_ ?_; (refine pds_set (i := 8) (sc_law).nd rfl (Or.inl rfl) ?_; (refine pd_call G_law_plus hr rfl ?_; (refine pda_cons ?_ ?_; (exact pd_var 3); (refine pda_cons ?_ ?_; (exact pd_var 7); (exact pda_nil))))); (refine pdb_cons ?_ ?_; (refine pds_set (i := 9) (sc_law).nd rfl (Or.inl rfl) ?_; (refine pd_call G_law_times hr rfl ?_; (refine pda_cons ?_ ?_; (exact pd_var 3); (refine pda_cons ?_ ?_; (exact pd_var 7); (exact pda_nil))))); (refine pdb_cons ?_ ?_; (refine pds_if ?_ ?_ ?_; (refine pdt_not ?_; (refine pdt_val ?_; (refine pd_call G_law_same hr rfl ?_; (refine pda_cons ?_ ?_; (refine pd_tup ?_; (refine pda_cons ?_ ?_; (refine pd_meth GM_plus hr ?_ ?_; (exact pd_var 1); (refine pda_cons ?_ ?_; (exact pd_var 3); (refine pda_cons ?_ ?_; (exact pd_var 7); (exact pda_nil)))); (refine pda_cons ?_ ?_; (refine pd_meth GM_plus hr ?_ ?_; (exact pd_var 1); (refine pda_cons ?_ ?_; (exact pd_var 7); (refine pda_cons ?_ ?_; (exact pd_var 3); (exact pda_nil)))); (exact pda_nil)))); (refine pda_cons ?_ ?_; (refine pd_tup ?_; (refine pda_cons ?_ ?_; (exact pd_var 8); (refine pda_cons ?_ ?_; (exact pd_var 8); (exact pda_nil)))); (exact pda_nil)))))); (refine pdb_cons ?_ ?_; (refine pds_ret ?_; (exact pd_bl)); (exact pdb_nil)); (exact pdb_nil)); (refine pdb_cons ?_ ?_; (refine pds_if ?_ ?_ ?_; (refine pdt_not ?_; (refine pdt_val ?_; (refine pd_call G_law_same hr rfl ?_; (refine pda_cons ?_ ?_; (refine pd_tup ?_; (refine pda_cons ?_ ?_; (refine pd_meth GM_times hr ?_ ?_; (exact pd_var 1); (refine pda_cons ?_ ?_; (exact pd_var 3); (refine pda_cons ?_ ?_; (exact pd_var 7); (exact pda_nil)))); (refine pda_cons ?_ ?_; (refine pd_meth GM_times hr ?_ ?_; (exact pd_var 1); (refine pda_cons ?_ ?_; (exact pd_var 7); (refine pda_cons ?_ ?_; (exact pd_var 3); (exact pda_nil)))); (exact pda_nil)))); (refine pda_cons ?_ ?_; (refine pd_tup ?_; (refine pda_cons ?_ ?_; (exact pd_var 9); (refine pda_cons ?_ ?_; (exact pd_var 9); (exact pda_nil)))); (exact pda_nil)))))); (refine pdb_cons ?_ ?_; (refine pds_ret ?_; (exact pd_bl)); (exact pdb_nil)); (exact pdb_nil)); (refine pdb_cons ?_ ?_; (refine pds_if ?_ ?_ ?_; (refine PDW.pdt ?_; (refine pdw_or ?_ ?_; (refine pdt_not ?_; (refine pdt_val ?_; (refine pd_meth GM_is_mark hr ?_ ?_; (exact pd_var 1); (refine pda_cons ?_ ?_; (exact pd_var 8); (exact pda_nil))))); (refine pdw_or ?_ ?_; (refine pdt_not ?_; (refine pdt_val ?_; (refine pd_meth GM_is_mark hr ?_ ?_; (exact pd_var 1); (refine pda_cons ?_ ?_; (exact pd_var 9); (exact pda_nil))))); (refine pdw_or1 ?_; (refine pdt_not ?_; (refine pdt_val ?_; (refine pd_meth GM_is_mark hr ?_ ?_; (exact pd_var 1); (refine pda_cons ?_ ?_; (exact pd_var 7); (exact pda_nil))))))))); (refine pdb_cons ?_ ?_; (refine pds_ret ?_; (exact pd_bl)); (exact pdb_nil)); (exact pdb_nil)); (refine pdb_cons ?_ ?_; (refine pds_set (i := 4) (sc_law).nd rfl (Or.inl rfl) ?_; (refine pd_meth GM_plus hr ?_ ?_; (exact pd_var 1); (refine pda_cons ?_ ?_; (exact pd_var 4); (refine pda_cons ?_ ?_; (exact pd_var 7); (exact pda_nil))))); (refine pdb_cons ?_ ?_; (refine pds_set (i := 5) (sc_law).nd rfl (Or.inl rfl) ?_; (refine pd_call G_law_plus hr rfl ?_; (refine pda_cons ?_ ?_; (exact pd_var 5); (refine pda_cons ?_ ?_; (exact pd_var 7); (exact pda_nil))))); (refine pdb_cons ?_ ?_; (refine pds_set (i := 3) (sc_law).nd rfl (Or.inl rfl) ?_; (exact pd_var 7)); (exact pdb_nil))))))))))); (refine pdb_cons ?_ ?_; (refine pds_ret ?_; (refine pd_call G_law_same hr rfl ?_; (refine pda_cons ?_ ?_; (exact pd_var 4); (refine pda_cons ?_ ?_; (exact pd_var 5); (exact pda_nil))))); (exact pdb_nil))))))))
theorem fnd_law (T : Txt K mg t) {fd : FuncData} (Fu : Fun K "law" "law" s_law t.f_law fd) {k k' : Nat} (hk : k' + 1 ≤ k) {F_law_at : List D → M D} (G_law_at : Def P w K mg base k "_law_at" F_law_at) {F_law_name : List D → M D} (G_law_name : Def P w K mg base k "_law_name" F_law_name) {F_law_plus : List D → M D} (G_law_plus : Def P w K mg base k "_law_plus" F_law_plus) {F_law_same : List D → M D} (G_law_same : Def P w K mg base k "_law_same" F_law_same) {F_law_sum : List D → M D} (G_law_sum : Def P w K mg base k "_law_sum" F_law_sum) {F_law_times : List D → M D} (G_law_times : Def P w K mg base k "_law_times" F_law_times) {F_Sums : List D → M (List (Str × D))} (G_Sums : Ctor P w K mg base k' "Sums" t.C_Sums F_Sums) {M_is_mark : Addr → Option (List D → M D)} (GM_is_mark : ∀ C F, M_is_mark C = some F → Mth P w K mg base k C "is_mark" F) {M_plus : Addr → Option (List D → M D)} (GM_plus : ∀ C F, M_plus C = some F → Mth P w K mg base k C "plus" F) {M_times : Addr → Option (List D → M D)} (GM_times : ∀ C F, M_times C = some F → Mth P w K mg base k C "times" F) {F : List D → M D} (hL : ∀ ds r, F ds = some r → ds.length = 1) (hq : ∀ ds r, F ds = some r → ∃ d, r = .ok d ∧ fnRes (den_law t F_law_at F_law_name F_law_plus F_law_same F_law_sum F_law_times F_Sums M_is_mark M_plus M_times (rho0 N_law ds)) = ok d) : FnD P w K mg base (k + 1) t.f_law fd ["_law_script"] F :=
  fn_D Fu sc_law hL fun cdv A outer s H E hr => ⟨_, fun B => tm_law T hk G_law_at G_law_name G_law_plus G_law_same G_law_sum G_law_times G_Sums GM_is_mark GM_plus GM_times hr B, hq⟩
theorem ok_law (T : Txt K mg t) {k k' : Nat} (hk : k' + 1 ≤ k) {F_law_at : List D → M D} (G_law_at : Def P w K mg base k "_law_at" F_law_at) {F_law_name : List D → M D} (G_law_name : Def P w K mg base k "_law_name" F_law_name) {F_law_plus : List D → M D} (G_law_plus : Def P w K mg base k "_law_plus" F_law_plus) {F_law_same : List D → M D} (G_law_same : Def P w K mg base k "_law_same" F_law_same) {F_law_sum : List D → M D} (G_law_sum : Def P w K mg base k "_law_sum" F_law_sum) {F_law_times : List D → M D} (G_law_times : Def P w K mg base k "_law_times" F_law_times) {F_Sums : List D → M (List (Str × D))} (G_Sums : Ctor P w K mg base k' "Sums" t.C_Sums F_Sums) {M_is_mark : Addr → Option (List D → M D)} (GM_is_mark : ∀ C F, M_is_mark C = some F → Mth P w K mg base k C "is_mark" F) {M_plus : Addr → Option (List D → M D)} (GM_plus : ∀ C F, M_plus C = some F → Mth P w K mg base k C "plus" F) {M_times : Addr → Option (List D → M D)} (GM_times : ∀ C F, M_times C = some F → Mth P w K mg base k C "times" F) {F : List D → M D} (hL : ∀ ds r, F ds = some r → ds.length = 1) (hq : ∀ ds r, F ds = some r → ∃ d, r = .ok d ∧ fnRes (den_law t F_law_at F_law_name F_law_plus F_law_same F_law_sum F_law_times F_Sums M_is_mark M_plus M_times (rho0 N_law ds)) = ok d) : Def P w K mg base (k + 1) "law" F := by
  obtain ⟨fd, Fu, bi⟩ := T.F_law
  exact ⟨_, _, _, T.g_law, Fu.kp, bi, hL, fn_D Fu sc_law hL fun cdv A outer s H E hr => ⟨_, fun B => tm_law T hk G_law_at G_law_name G_law_plus G_law_same G_law_sum G_law_times G_Sums GM_is_mark GM_plus GM_times hr B, hq⟩⟩
end
theorem fm_is_whole {K : PySem.W.Frag} {f : Addr} {od an : Option Addr} {sl : Array (Option Value)} {oc kV dc pm cd ct : Value} (l : K.lookup f = some ⟨oc, od, .func (PySem.W.fnOf "is_whole" "is_whole" (defArgs s_is_whole) (defBody s_is_whole) (defScope s_is_whole) .none kV dc pm an cd ct), sl⟩) (c : PySem.W.codeIn K cd "is_whole" = true) (k : PySem.W.keepIn K (.ref f) = true) : ∃ fd, Fun K "is_whole" "is_whole" s_is_whole f fd ∧ Binds K fd ["thing", "least"] [] :=
  ⟨_, fun_mk (st := s_is_whole) l c k, (fun_mk (st := s_is_whole) l c k).binds (ps := ["thing", "least"]) fun _ _ _ _ _ _ us hl => by obtain ⟨_, _, rfl⟩ := ar2 us hl; rfl⟩
theorem fm_is_texts {K : PySem.W.Frag} {f : Addr} {od an : Option Addr} {sl : Array (Option Value)} {oc kV dc pm cd ct : Value} (l : K.lookup f = some ⟨oc, od, .func (PySem.W.fnOf "is_texts" "is_texts" (defArgs s_is_texts) (defBody s_is_texts) (defScope s_is_texts) .none kV dc pm an cd ct), sl⟩) (c : PySem.W.codeIn K cd "is_texts" = true) (k : PySem.W.keepIn K (.ref f) = true) : ∃ fd, Fun K "is_texts" "is_texts" s_is_texts f fd ∧ Binds K fd ["thing"] [] :=
  ⟨_, fun_mk (st := s_is_texts) l c k, (fun_mk (st := s_is_texts) l c k).binds (ps := ["thing"]) fun _ _ _ _ _ _ us hl => by obtain ⟨_, rfl⟩ := ar1 us hl; rfl⟩
theorem fm_never_falls {K : PySem.W.Frag} {f : Addr} {od an : Option Addr} {sl : Array (Option Value)} {oc kV dc pm cd ct : Value} (l : K.lookup f = some ⟨oc, od, .func (PySem.W.fnOf "never_falls" "never_falls" (defArgs s_never_falls) (defBody s_never_falls) (defScope s_never_falls) .none kV dc pm an cd ct), sl⟩) (c : PySem.W.codeIn K cd "never_falls" = true) (k : PySem.W.keepIn K (.ref f) = true) : ∃ fd, Fun K "never_falls" "never_falls" s_never_falls f fd ∧ Binds K fd ["things"] [] :=
  ⟨_, fun_mk (st := s_never_falls) l c k, (fun_mk (st := s_never_falls) l c k).binds (ps := ["things"]) fun _ _ _ _ _ _ us hl => by obtain ⟨_, rfl⟩ := ar1 us hl; rfl⟩
theorem fm_always_rises {K : PySem.W.Frag} {f : Addr} {od an : Option Addr} {sl : Array (Option Value)} {oc kV dc pm cd ct : Value} (l : K.lookup f = some ⟨oc, od, .func (PySem.W.fnOf "always_rises" "always_rises" (defArgs s_always_rises) (defBody s_always_rises) (defScope s_always_rises) .none kV dc pm an cd ct), sl⟩) (c : PySem.W.codeIn K cd "always_rises" = true) (k : PySem.W.keepIn K (.ref f) = true) : ∃ fd, Fun K "always_rises" "always_rises" s_always_rises f fd ∧ Binds K fd ["things"] [] :=
  ⟨_, fun_mk (st := s_always_rises) l c k, (fun_mk (st := s_always_rises) l c k).binds (ps := ["things"]) fun _ _ _ _ _ _ us hl => by obtain ⟨_, rfl⟩ := ar1 us hl; rfl⟩
theorem fm_Sums___init__ {K : PySem.W.Frag} {f : Addr} {od an : Option Addr} {sl : Array (Option Value)} {oc kV dc pm cd ct : Value} (l : K.lookup f = some ⟨oc, od, .func (PySem.W.fnOf "__init__" "Sums.__init__" (defArgs s_Sums___init__) (defBody s_Sums___init__) (defScope s_Sums___init__) .none kV dc pm an cd ct), sl⟩) (c : PySem.W.codeIn K cd "Sums.__init__" = true) (k : PySem.W.keepIn K (.ref f) = true) : ∃ fd, Fun K "__init__" "Sums.__init__" s_Sums___init__ f fd ∧ Binds K fd ["self"] [] :=
  ⟨_, fun_mk (st := s_Sums___init__) l c k, (fun_mk (st := s_Sums___init__) l c k).binds (ps := ["self"]) fun _ _ _ _ _ _ us hl => by obtain ⟨_, rfl⟩ := ar1 us hl; rfl⟩
theorem fm_Sums_plus {K : PySem.W.Frag} {f : Addr} {od an : Option Addr} {sl : Array (Option Value)} {oc kV dc pm cd ct : Value} (l : K.lookup f = some ⟨oc, od, .func (PySem.W.fnOf "plus" "Sums.plus" (defArgs s_Sums_plus) (defBody s_Sums_plus) (defScope s_Sums_plus) .none kV dc pm an cd ct), sl⟩) (c : PySem.W.codeIn K cd "Sums.plus" = true) (k : PySem.W.keepIn K (.ref f) = true) : ∃ fd, Fun K "plus" "Sums.plus" s_Sums_plus f fd ∧ Binds K fd ["self", "a", "b"] [] :=
  ⟨_, fun_mk (st := s_Sums_plus) l c k, (fun_mk (st := s_Sums_plus) l c k).binds (ps := ["self", "a", "b"]) fun _ _ _ _ _ _ us hl => by obtain ⟨_, _, _, rfl⟩ := ar3 us hl; rfl⟩
theorem fm_Sums_times {K : PySem.W.Frag} {f : Addr} {od an : Option Addr} {sl : Array (Option Value)} {oc kV dc pm cd ct : Value} (l : K.lookup f = some ⟨oc, od, .func (PySem.W.fnOf "times" "Sums.times" (defArgs s_Sums_times) (defBody s_Sums_times) (defScope s_Sums_times) .none kV dc pm an cd ct), sl⟩) (c : PySem.W.codeIn K cd "Sums.times" = true) (k : PySem.W.keepIn K (.ref f) = true) : ∃ fd, Fun K "times" "Sums.times" s_Sums_times f fd ∧ Binds K fd ["self", "a", "b"] [] :=
  ⟨_, fun_mk (st := s_Sums_times) l c k, (fun_mk (st := s_Sums_times) l c k).binds (ps := ["self", "a", "b"]) fun _ _ _ _ _ _ us hl => by obtain ⟨_, _, _, rfl⟩ := ar3 us hl; rfl⟩
theorem fm_Sums_is_mark {K : PySem.W.Frag} {f : Addr} {od an : Option Addr} {sl : Array (Option Value)} {oc kV dc pm cd ct : Value} (l : K.lookup f = some ⟨oc, od, .func (PySem.W.fnOf "is_mark" "Sums.is_mark" (defArgs s_Sums_is_mark) (defBody s_Sums_is_mark) (defScope s_Sums_is_mark) .none kV dc pm an cd ct), sl⟩) (c : PySem.W.codeIn K cd "Sums.is_mark" = true) (k : PySem.W.keepIn K (.ref f) = true) : ∃ fd, Fun K "is_mark" "Sums.is_mark" s_Sums_is_mark f fd ∧ Binds K fd ["self", "thing"] [] :=
  ⟨_, fun_mk (st := s_Sums_is_mark) l c k, (fun_mk (st := s_Sums_is_mark) l c k).binds (ps := ["self", "thing"]) fun _ _ _ _ _ _ us hl => by obtain ⟨_, _, rfl⟩ := ar2 us hl; rfl⟩
theorem fm_is_entry {K : PySem.W.Frag} {f : Addr} {od an : Option Addr} {sl : Array (Option Value)} {oc kV dc pm cd ct : Value} (l : K.lookup f = some ⟨oc, od, .func (PySem.W.fnOf "is_entry" "is_entry" (defArgs s_is_entry) (defBody s_is_entry) (defScope s_is_entry) .none kV dc pm an cd ct), sl⟩) (c : PySem.W.codeIn K cd "is_entry" = true) (k : PySem.W.keepIn K (.ref f) = true) : ∃ fd, Fun K "is_entry" "is_entry" s_is_entry f fd ∧ Binds K fd ["thing"] [] :=
  ⟨_, fun_mk (st := s_is_entry) l c k, (fun_mk (st := s_is_entry) l c k).binds (ps := ["thing"]) fun _ _ _ _ _ _ us hl => by obtain ⟨_, rfl⟩ := ar1 us hl; rfl⟩
theorem fm_law_at {K : PySem.W.Frag} {f : Addr} {od an : Option Addr} {sl : Array (Option Value)} {oc kV dc pm cd ct : Value} (l : K.lookup f = some ⟨oc, od, .func (PySem.W.fnOf "_law_at" "_law_at" (defArgs s_law_at) (defBody s_law_at) (defScope s_law_at) .none kV dc pm an cd ct), sl⟩) (c : PySem.W.codeIn K cd "_law_at" = true) (k : PySem.W.keepIn K (.ref f) = true) : ∃ fd, Fun K "_law_at" "_law_at" s_law_at f fd ∧ Binds K fd ["_law_script", "_law_k"] [] :=
  ⟨_, fun_mk (st := s_law_at) l c k, (fun_mk (st := s_law_at) l c k).binds (ps := ["_law_script", "_law_k"]) fun _ _ _ _ _ _ us hl => by obtain ⟨_, _, rfl⟩ := ar2 us hl; rfl⟩
theorem fm_law_same {K : PySem.W.Frag} {f : Addr} {od an : Option Addr} {sl : Array (Option Value)} {oc kV dc pm cd ct : Value} (l : K.lookup f = some ⟨oc, od, .func (PySem.W.fnOf "_law_same" "_law_same" (defArgs s_law_same) (defBody s_law_same) (defScope s_law_same) .none kV dc pm an cd ct), sl⟩) (c : PySem.W.codeIn K cd "_law_same" = true) (k : PySem.W.keepIn K (.ref f) = true) : ∃ fd, Fun K "_law_same" "_law_same" s_law_same f fd ∧ Binds K fd ["_law_found", "_law_due"] [] :=
  ⟨_, fun_mk (st := s_law_same) l c k, (fun_mk (st := s_law_same) l c k).binds (ps := ["_law_found", "_law_due"]) fun _ _ _ _ _ _ us hl => by obtain ⟨_, _, rfl⟩ := ar2 us hl; rfl⟩
theorem fm_law_mix {K : PySem.W.Frag} {f : Addr} {od an : Option Addr} {sl : Array (Option Value)} {oc kV dc pm cd ct : Value} (l : K.lookup f = some ⟨oc, od, .func (PySem.W.fnOf "_law_mix" "_law_mix" (defArgs s_law_mix) (defBody s_law_mix) (defScope s_law_mix) .none kV dc pm an cd ct), sl⟩) (c : PySem.W.codeIn K cd "_law_mix" = true) (k : PySem.W.keepIn K (.ref f) = true) : ∃ fd, Fun K "_law_mix" "_law_mix" s_law_mix f fd ∧ Binds K fd ["_law_cell"] [] :=
  ⟨_, fun_mk (st := s_law_mix) l c k, (fun_mk (st := s_law_mix) l c k).binds (ps := ["_law_cell"]) fun _ _ _ _ _ _ us hl => by obtain ⟨_, rfl⟩ := ar1 us hl; rfl⟩
theorem fm_law_name {K : PySem.W.Frag} {f : Addr} {od an : Option Addr} {sl : Array (Option Value)} {oc kV dc pm cd ct : Value} (l : K.lookup f = some ⟨oc, od, .func (PySem.W.fnOf "_law_name" "_law_name" (defArgs s_law_name) (defBody s_law_name) (defScope s_law_name) .none kV dc pm an cd ct), sl⟩) (c : PySem.W.codeIn K cd "_law_name" = true) (k : PySem.W.keepIn K (.ref f) = true) : ∃ fd, Fun K "_law_name" "_law_name" s_law_name f fd ∧ Binds K fd ["_law_style", "_law_k"] [] :=
  ⟨_, fun_mk (st := s_law_name) l c k, (fun_mk (st := s_law_name) l c k).binds (ps := ["_law_style", "_law_k"]) fun _ _ _ _ _ _ us hl => by obtain ⟨_, _, rfl⟩ := ar2 us hl; rfl⟩
theorem fm_law_sum {K : PySem.W.Frag} {f : Addr} {od an : Option Addr} {sl : Array (Option Value)} {oc kV dc pm cd ct : Value} (l : K.lookup f = some ⟨oc, od, .func (PySem.W.fnOf "_law_sum" "_law_sum" (defArgs s_law_sum) (defBody s_law_sum) (defScope s_law_sum) .none kV dc pm an cd ct), sl⟩) (c : PySem.W.codeIn K cd "_law_sum" = true) (k : PySem.W.keepIn K (.ref f) = true) : ∃ fd, Fun K "_law_sum" "_law_sum" s_law_sum f fd ∧ Binds K fd ["_law_names", "_law_cell"] [] :=
  ⟨_, fun_mk (st := s_law_sum) l c k, (fun_mk (st := s_law_sum) l c k).binds (ps := ["_law_names", "_law_cell"]) fun _ _ _ _ _ _ us hl => by obtain ⟨_, _, rfl⟩ := ar2 us hl; rfl⟩
theorem fm_law_sorted {K : PySem.W.Frag} {f : Addr} {od an : Option Addr} {sl : Array (Option Value)} {oc kV dc pm cd ct : Value} (l : K.lookup f = some ⟨oc, od, .func (PySem.W.fnOf "_law_sorted" "_law_sorted" (defArgs s_law_sorted) (defBody s_law_sorted) (defScope s_law_sorted) .none kV dc pm an cd ct), sl⟩) (c : PySem.W.codeIn K cd "_law_sorted" = true) (k : PySem.W.keepIn K (.ref f) = true) : ∃ fd, Fun K "_law_sorted" "_law_sorted" s_law_sorted f fd ∧ Binds K fd ["_law_counts"] [] :=
  ⟨_, fun_mk (st := s_law_sorted) l c k, (fun_mk (st := s_law_sorted) l c k).binds (ps := ["_law_counts"]) fun _ _ _ _ _ _ us hl => by obtain ⟨_, rfl⟩ := ar1 us hl; rfl⟩
theorem fm_law_plus {K : PySem.W.Frag} {f : Addr} {od an : Option Addr} {sl : Array (Option Value)} {oc kV dc pm cd ct : Value} (l : K.lookup f = some ⟨oc, od, .func (PySem.W.fnOf "_law_plus" "_law_plus" (defArgs s_law_plus) (defBody s_law_plus) (defScope s_law_plus) .none kV dc pm an cd ct), sl⟩) (c : PySem.W.codeIn K cd "_law_plus" = true) (k : PySem.W.keepIn K (.ref f) = true) : ∃ fd, Fun K "_law_plus" "_law_plus" s_law_plus f fd ∧ Binds K fd ["_law_one", "_law_other"] [] :=
  ⟨_, fun_mk (st := s_law_plus) l c k, (fun_mk (st := s_law_plus) l c k).binds (ps := ["_law_one", "_law_other"]) fun _ _ _ _ _ _ us hl => by obtain ⟨_, _, rfl⟩ := ar2 us hl; rfl⟩
theorem fm_law_times {K : PySem.W.Frag} {f : Addr} {od an : Option Addr} {sl : Array (Option Value)} {oc kV dc pm cd ct : Value} (l : K.lookup f = some ⟨oc, od, .func (PySem.W.fnOf "_law_times" "_law_times" (defArgs s_law_times) (defBody s_law_times) (defScope s_law_times) .none kV dc pm an cd ct), sl⟩) (c : PySem.W.codeIn K cd "_law_times" = true) (k : PySem.W.keepIn K (.ref f) = true) : ∃ fd, Fun K "_law_times" "_law_times" s_law_times f fd ∧ Binds K fd ["_law_one", "_law_other"] [] :=
  ⟨_, fun_mk (st := s_law_times) l c k, (fun_mk (st := s_law_times) l c k).binds (ps := ["_law_one", "_law_other"]) fun _ _ _ _ _ _ us hl => by obtain ⟨_, _, rfl⟩ := ar2 us hl; rfl⟩
theorem fm_law {K : PySem.W.Frag} {f : Addr} {od an : Option Addr} {sl : Array (Option Value)} {oc kV dc pm cd ct : Value} (l : K.lookup f = some ⟨oc, od, .func (PySem.W.fnOf "law" "law" (defArgs s_law) (defBody s_law) (defScope s_law) .none kV dc pm an cd ct), sl⟩) (c : PySem.W.codeIn K cd "law" = true) (k : PySem.W.keepIn K (.ref f) = true) : ∃ fd, Fun K "law" "law" s_law f fd ∧ Binds K fd ["_law_script"] [] :=
  ⟨_, fun_mk (st := s_law) l c k, (fun_mk (st := s_law) l c k).binds (ps := ["_law_script"]) fun _ _ _ _ _ _ us hl => by obtain ⟨_, rfl⟩ := ar1 us hl; rfl⟩
theorem txt_mk {K : PySem.W.Frag} {h : Heap} {mg : Str → Option Value} (X : K.In h) (G : h.Ns mainGlobals mg)
    {C_Sums : Addr}
    {f_is_whole : Addr}
    {odis_whole anis_whole : Option Addr} {slis_whole : Array (Option Value)} {ocis_whole kVis_whole dcis_whole pmis_whole cdis_whole ctis_whole : Value}
    {f_is_texts : Addr}
    {odis_texts anis_texts : Option Addr} {slis_texts : Array (Option Value)} {ocis_texts kVis_texts dcis_texts pmis_texts cdis_texts ctis_texts : Value}
    {f_never_falls : Addr}
    {odnever_falls annever_falls : Option Addr} {slnever_falls : Array (Option Value)} {ocnever_falls kVnever_falls dcnever_falls pmnever_falls cdnever_falls ctnever_falls : Value}
    {f_always_rises : Addr}
    {odalways_rises analways_rises : Option Addr} {slalways_rises : Array (Option Value)} {ocalways_rises kValways_rises dcalways_rises pmalways_rises cdalways_rises ctalways_rises : Value}
    {f_Sums___init__ : Addr}
    {odSums___init__ anSums___init__ : Option Addr} {slSums___init__ : Array (Option Value)} {ocSums___init__ kVSums___init__ dcSums___init__ pmSums___init__ cdSums___init__ ctSums___init__ : Value}
    {f_Sums_plus : Addr}
    {odSums_plus anSums_plus : Option Addr} {slSums_plus : Array (Option Value)} {ocSums_plus kVSums_plus dcSums_plus pmSums_plus cdSums_plus ctSums_plus : Value}
    {f_Sums_times : Addr}
    {odSums_times anSums_times : Option Addr} {slSums_times : Array (Option Value)} {ocSums_times kVSums_times dcSums_times pmSums_times cdSums_times ctSums_times : Value}
    {f_Sums_is_mark : Addr}
    {odSums_is_mark anSums_is_mark : Option Addr} {slSums_is_mark : Array (Option Value)} {ocSums_is_mark kVSums_is_mark dcSums_is_mark pmSums_is_mark cdSums_is_mark ctSums_is_mark : Value}
    {f_is_entry : Addr}
    {odis_entry anis_entry : Option Addr} {slis_entry : Array (Option Value)} {ocis_entry kVis_entry dcis_entry pmis_entry cdis_entry ctis_entry : Value}
    {f_law_at : Addr}
    {odlaw_at anlaw_at : Option Addr} {sllaw_at : Array (Option Value)} {oclaw_at kVlaw_at dclaw_at pmlaw_at cdlaw_at ctlaw_at : Value}
    {f_law_same : Addr}
    {odlaw_same anlaw_same : Option Addr} {sllaw_same : Array (Option Value)} {oclaw_same kVlaw_same dclaw_same pmlaw_same cdlaw_same ctlaw_same : Value}
    {f_law_mix : Addr}
    {odlaw_mix anlaw_mix : Option Addr} {sllaw_mix : Array (Option Value)} {oclaw_mix kVlaw_mix dclaw_mix pmlaw_mix cdlaw_mix ctlaw_mix : Value}
    {f_law_name : Addr}
    {odlaw_name anlaw_name : Option Addr} {sllaw_name : Array (Option Value)} {oclaw_name kVlaw_name dclaw_name pmlaw_name cdlaw_name ctlaw_name : Value}
    {f_law_sum : Addr}
    {odlaw_sum anlaw_sum : Option Addr} {sllaw_sum : Array (Option Value)} {oclaw_sum kVlaw_sum dclaw_sum pmlaw_sum cdlaw_sum ctlaw_sum : Value}
    {f_law_sorted : Addr}
    {odlaw_sorted anlaw_sorted : Option Addr} {sllaw_sorted : Array (Option Value)} {oclaw_sorted kVlaw_sorted dclaw_sorted pmlaw_sorted cdlaw_sorted ctlaw_sorted : Value}
    {f_law_plus : Addr}
    {odlaw_plus anlaw_plus : Option Addr} {sllaw_plus : Array (Option Value)} {oclaw_plus kVlaw_plus dclaw_plus pmlaw_plus cdlaw_plus ctlaw_plus : Value}
    {f_law_times : Addr}
    {odlaw_times anlaw_times : Option Addr} {sllaw_times : Array (Option Value)} {oclaw_times kVlaw_times dclaw_times pmlaw_times cdlaw_times ctlaw_times : Value}
    {f_law : Addr}
    {odlaw anlaw : Option Addr} {sllaw : Array (Option Value)} {oclaw kVlaw dclaw pmlaw cdlaw ctlaw : Value}
    (aC_Sums : PySem.W.nsIn K mainGlobals "Sums" = some (some (.ref C_Sums)))
    (pgC_Sums : PySem.W.plainGet K C_Sums Str.empty = true)
    (hdC_Sums : PySem.W.hasDictIn K C_Sums = true)
    (poC_Sums : PySem.W.plainOver K C_Sums = true)
    (saC_Sums : PySem.W.findIn K (.ref C_Sums) "__setattr__" = some (some (.builtin "object.__setattr__")))
    (mkC_Sums : PySem.W.makesIn K C_Sums = true)
    (kcC_Sums : PySem.W.keepIn K (.ref C_Sums) = true)
    (nC_Sumsnought : PySem.W.findIn K (.ref C_Sums) "nought" = some none)
    (nC_Sumsone : PySem.W.findIn K (.ref C_Sums) "one" = some none)
    (af_is_whole : PySem.W.nsIn K mainGlobals "is_whole" = some (some (.ref f_is_whole)))
    (lf_is_whole : K.lookup f_is_whole = some ⟨ocis_whole, odis_whole, .func (PySem.W.fnOf "is_whole" "is_whole" (defArgs s_is_whole) (defBody s_is_whole) (defScope s_is_whole) .none kVis_whole dcis_whole pmis_whole anis_whole cdis_whole ctis_whole), slis_whole⟩)
    (cf_is_whole : PySem.W.codeIn K cdis_whole "is_whole" = true)
    (kf_is_whole : PySem.W.keepIn K (.ref f_is_whole) = true)
    (af_is_texts : PySem.W.nsIn K mainGlobals "is_texts" = some (some (.ref f_is_texts)))
    (lf_is_texts : K.lookup f_is_texts = some ⟨ocis_texts, odis_texts, .func (PySem.W.fnOf "is_texts" "is_texts" (defArgs s_is_texts) (defBody s_is_texts) (defScope s_is_texts) .none kVis_texts dcis_texts pmis_texts anis_texts cdis_texts ctis_texts), slis_texts⟩)
    (cf_is_texts : PySem.W.codeIn K cdis_texts "is_texts" = true)
    (kf_is_texts : PySem.W.keepIn K (.ref f_is_texts) = true)
    (af_never_falls : PySem.W.nsIn K mainGlobals "never_falls" = some (some (.ref f_never_falls)))
    (lf_never_falls : K.lookup f_never_falls = some ⟨ocnever_falls, odnever_falls, .func (PySem.W.fnOf "never_falls" "never_falls" (defArgs s_never_falls) (defBody s_never_falls) (defScope s_never_falls) .none kVnever_falls dcnever_falls pmnever_falls annever_falls cdnever_falls ctnever_falls), slnever_falls⟩)
    (cf_never_falls : PySem.W.codeIn K cdnever_falls "never_falls" = true)
    (kf_never_falls : PySem.W.keepIn K (.ref f_never_falls) = true)
    (af_always_rises : PySem.W.nsIn K mainGlobals "always_rises" = some (some (.ref f_always_rises)))
    (lf_always_rises : K.lookup f_always_rises = some ⟨ocalways_rises, odalways_rises, .func (PySem.W.fnOf "always_rises" "always_rises" (defArgs s_always_rises) (defBody s_always_rises) (defScope s_always_rises) .none kValways_rises dcalways_rises pmalways_rises analways_rises cdalways_rises ctalways_rises), slalways_rises⟩)
    (cf_always_rises : PySem.W.codeIn K cdalways_rises "always_rises" = true)
    (kf_always_rises : PySem.W.keepIn K (.ref f_always_rises) = true)
    (af_Sums___init__ : PySem.W.findIn K (.ref C_Sums) "__init__" = some (some (.ref f_Sums___init__)))
    (if_Sums___init__ : PySem.W.isFn K (.ref f_Sums___init__) = true)
    (lf_Sums___init__ : K.lookup f_Sums___init__ = some ⟨ocSums___init__, odSums___init__, .func (PySem.W.fnOf "__init__" "Sums.__init__" (defArgs s_Sums___init__) (defBody s_Sums___init__) (defScope s_Sums___init__) .none kVSums___init__ dcSums___init__ pmSums___init__ anSums___init__ cdSums___init__ ctSums___init__), slSums___init__⟩)
    (cf_Sums___init__ : PySem.W.codeIn K cdSums___init__ "Sums.__init__" = true)
    (kf_Sums___init__ : PySem.W.keepIn K (.ref f_Sums___init__) = true)
    (af_Sums_plus : PySem.W.findIn K (.ref C_Sums) "plus" = some (some (.ref f_Sums_plus)))
    (if_Sums_plus : PySem.W.isFn K (.ref f_Sums_plus) = true)
    (lf_Sums_plus : K.lookup f_Sums_plus = some ⟨ocSums_plus, odSums_plus, .func (PySem.W.fnOf "plus" "Sums.plus" (defArgs s_Sums_plus) (defBody s_Sums_plus) (defScope s_Sums_plus) .none kVSums_plus dcSums_plus pmSums_plus anSums_plus cdSums_plus ctSums_plus), slSums_plus⟩)
    (cf_Sums_plus : PySem.W.codeIn K cdSums_plus "Sums.plus" = true)
    (kf_Sums_plus : PySem.W.keepIn K (.ref f_Sums_plus) = true)
    (af_Sums_times : PySem.W.findIn K (.ref C_Sums) "times" = some (some (.ref f_Sums_times)))
    (if_Sums_times : PySem.W.isFn K (.ref f_Sums_times) = true)
    (lf_Sums_times : K.lookup f_Sums_times = some ⟨ocSums_times, odSums_times, .func (PySem.W.fnOf "times" "Sums.times" (defArgs s_Sums_times) (defBody s_Sums_times) (defScope s_Sums_times) .none kVSums_times dcSums_times pmSums_times anSums_times cdSums_times ctSums_times), slSums_times⟩)
    (cf_Sums_times : PySem.W.codeIn K cdSums_times "Sums.times" = true)
    (kf_Sums_times : PySem.W.keepIn K (.ref f_Sums_times) = true)
    (af_Sums_is_mark : PySem.W.findIn K (.ref C_Sums) "is_mark" = some (some (.ref f_Sums_is_mark)))
    (if_Sums_is_mark : PySem.W.isFn K (.ref f_Sums_is_mark) = true)
    (lf_Sums_is_mark : K.lookup f_Sums_is_mark = some ⟨ocSums_is_mark, odSums_is_mark, .func (PySem.W.fnOf "is_mark" "Sums.is_mark" (defArgs s_Sums_is_mark) (defBody s_Sums_is_mark) (defScope s_Sums_is_mark) .none kVSums_is_mark dcSums_is_mark pmSums_is_mark anSums_is_mark cdSums_is_mark ctSums_is_mark), slSums_is_mark⟩)
    (cf_Sums_is_mark : PySem.W.codeIn K cdSums_is_mark "Sums.is_mark" = true)
    (kf_Sums_is_mark : PySem.W.keepIn K (.ref f_Sums_is_mark) = true)
    (af_is_entry : PySem.W.nsIn K mainGlobals "is_entry" = some (some (.ref f_is_entry)))
    (lf_is_entry : K.lookup f_is_entry = some ⟨ocis_entry, odis_entry, .func (PySem.W.fnOf "is_entry" "is_entry" (defArgs s_is_entry) (defBody s_is_entry) (defScope s_is_entry) .none kVis_entry dcis_entry pmis_entry anis_entry cdis_entry ctis_entry), slis_entry⟩)
    (cf_is_entry : PySem.W.codeIn K cdis_entry "is_entry" = true)
    (kf_is_entry : PySem.W.keepIn K (.ref f_is_entry) = true)
    (af_law_at : PySem.W.nsIn K mainGlobals "_law_at" = some (some (.ref f_law_at)))
    (lf_law_at : K.lookup f_law_at = some ⟨oclaw_at, odlaw_at, .func (PySem.W.fnOf "_law_at" "_law_at" (defArgs s_law_at) (defBody s_law_at) (defScope s_law_at) .none kVlaw_at dclaw_at pmlaw_at anlaw_at cdlaw_at ctlaw_at), sllaw_at⟩)
    (cf_law_at : PySem.W.codeIn K cdlaw_at "_law_at" = true)
    (kf_law_at : PySem.W.keepIn K (.ref f_law_at) = true)
    (af_law_same : PySem.W.nsIn K mainGlobals "_law_same" = some (some (.ref f_law_same)))
    (lf_law_same : K.lookup f_law_same = some ⟨oclaw_same, odlaw_same, .func (PySem.W.fnOf "_law_same" "_law_same" (defArgs s_law_same) (defBody s_law_same) (defScope s_law_same) .none kVlaw_same dclaw_same pmlaw_same anlaw_same cdlaw_same ctlaw_same), sllaw_same⟩)
    (cf_law_same : PySem.W.codeIn K cdlaw_same "_law_same" = true)
    (kf_law_same : PySem.W.keepIn K (.ref f_law_same) = true)
    (af_law_mix : PySem.W.nsIn K mainGlobals "_law_mix" = some (some (.ref f_law_mix)))
    (lf_law_mix : K.lookup f_law_mix = some ⟨oclaw_mix, odlaw_mix, .func (PySem.W.fnOf "_law_mix" "_law_mix" (defArgs s_law_mix) (defBody s_law_mix) (defScope s_law_mix) .none kVlaw_mix dclaw_mix pmlaw_mix anlaw_mix cdlaw_mix ctlaw_mix), sllaw_mix⟩)
    (cf_law_mix : PySem.W.codeIn K cdlaw_mix "_law_mix" = true)
    (kf_law_mix : PySem.W.keepIn K (.ref f_law_mix) = true)
    (af_law_name : PySem.W.nsIn K mainGlobals "_law_name" = some (some (.ref f_law_name)))
    (lf_law_name : K.lookup f_law_name = some ⟨oclaw_name, odlaw_name, .func (PySem.W.fnOf "_law_name" "_law_name" (defArgs s_law_name) (defBody s_law_name) (defScope s_law_name) .none kVlaw_name dclaw_name pmlaw_name anlaw_name cdlaw_name ctlaw_name), sllaw_name⟩)
    (cf_law_name : PySem.W.codeIn K cdlaw_name "_law_name" = true)
    (kf_law_name : PySem.W.keepIn K (.ref f_law_name) = true)
    (af_law_sum : PySem.W.nsIn K mainGlobals "_law_sum" = some (some (.ref f_law_sum)))
    (lf_law_sum : K.lookup f_law_sum = some ⟨oclaw_sum, odlaw_sum, .func (PySem.W.fnOf "_law_sum" "_law_sum" (defArgs s_law_sum) (defBody s_law_sum) (defScope s_law_sum) .none kVlaw_sum dclaw_sum pmlaw_sum anlaw_sum cdlaw_sum ctlaw_sum), sllaw_sum⟩)
    (cf_law_sum : PySem.W.codeIn K cdlaw_sum "_law_sum" = true)
    (kf_law_sum : PySem.W.keepIn K (.ref f_law_sum) = true)
    (af_law_sorted : PySem.W.nsIn K mainGlobals "_law_sorted" = some (some (.ref f_law_sorted)))
    (lf_law_sorted : K.lookup f_law_sorted = some ⟨oclaw_sorted, odlaw_sorted, .func (PySem.W.fnOf "_law_sorted" "_law_sorted" (defArgs s_law_sorted) (defBody s_law_sorted) (defScope s_law_sorted) .none kVlaw_sorted dclaw_sorted pmlaw_sorted anlaw_sorted cdlaw_sorted ctlaw_sorted), sllaw_sorted⟩)
    (cf_law_sorted : PySem.W.codeIn K cdlaw_sorted "_law_sorted" = true)
    (kf_law_sorted : PySem.W.keepIn K (.ref f_law_sorted) = true)
    (af_law_plus : PySem.W.nsIn K mainGlobals "_law_plus" = some (some (.ref f_law_plus)))
    (lf_law_plus : K.lookup f_law_plus = some ⟨oclaw_plus, odlaw_plus, .func (PySem.W.fnOf "_law_plus" "_law_plus" (defArgs s_law_plus) (defBody s_law_plus) (defScope s_law_plus) .none kVlaw_plus dclaw_plus pmlaw_plus anlaw_plus cdlaw_plus ctlaw_plus), sllaw_plus⟩)
    (cf_law_plus : PySem.W.codeIn K cdlaw_plus "_law_plus" = true)
    (kf_law_plus : PySem.W.keepIn K (.ref f_law_plus) = true)
    (af_law_times : PySem.W.nsIn K mainGlobals "_law_times" = some (some (.ref f_law_times)))
    (lf_law_times : K.lookup f_law_times = some ⟨oclaw_times, odlaw_times, .func (PySem.W.fnOf "_law_times" "_law_times" (defArgs s_law_times) (defBody s_law_times) (defScope s_law_times) .none kVlaw_times dclaw_times pmlaw_times anlaw_times cdlaw_times ctlaw_times), sllaw_times⟩)
    (cf_law_times : PySem.W.codeIn K cdlaw_times "_law_times" = true)
    (kf_law_times : PySem.W.keepIn K (.ref f_law_times) = true)
    (af_law : PySem.W.nsIn K mainGlobals "law" = some (some (.ref f_law)))
    (lf_law : K.lookup f_law = some ⟨oclaw, odlaw, .func (PySem.W.fnOf "law" "law" (defArgs s_law) (defBody s_law) (defScope s_law) .none kVlaw dclaw pmlaw anlaw cdlaw ctlaw), sllaw⟩)
    (cf_law : PySem.W.codeIn K cdlaw "law" = true)
    (kf_law : PySem.W.keepIn K (.ref f_law) = true)
    (zall : PySem.W.nsIn K mainGlobals "all" = some none)
    (zbool : PySem.W.nsIn K mainGlobals "bool" = some none)
    (zdict : PySem.W.nsIn K mainGlobals "dict" = some none)
    (zint : PySem.W.nsIn K mainGlobals "int" = some none)
    (zisinstance : PySem.W.nsIn K mainGlobals "isinstance" = some none)
    (zlen : PySem.W.nsIn K mainGlobals "len" = some none)
    (zlist : PySem.W.nsIn K mainGlobals "list" = some none)
    (zrange : PySem.W.nsIn K mainGlobals "range" = some none)
    (zsorted : PySem.W.nsIn K mainGlobals "sorted" = some none)
    (zstr : PySem.W.nsIn K mainGlobals "str" = some none)
    (ztuple : PySem.W.nsIn K mainGlobals "tuple" = some none)
    (zzip : PySem.W.nsIn K mainGlobals "zip" = some none) : ∃ t, Txt K mg t := by
  refine ⟨{ C_Sums := C_Sums, f_is_whole := f_is_whole, f_is_texts := f_is_texts, f_never_falls := f_never_falls, f_always_rises := f_always_rises, f_Sums___init__ := f_Sums___init__, f_Sums_plus := f_Sums_plus, f_Sums_times := f_Sums_times, f_Sums_is_mark := f_Sums_is_mark, f_is_entry := f_is_entry, f_law_at := f_law_at, f_law_same := f_law_same, f_law_mix := f_law_mix, f_law_name := f_law_name, f_law_sum := f_law_sum, f_law_sorted := f_law_sorted, f_law_plus := f_law_plus, f_law_times := f_law_times, f_law := f_law }, ?_⟩
  exact {
    g_Sums := PySem.W.mg_of X G aC_Sums
    cl_Sums := ⟨pgC_Sums, hdC_Sums, poC_Sums, saC_Sums⟩
    mk_Sums := ⟨mkC_Sums, af_Sums___init__, if_Sums___init__, kcC_Sums⟩
    me_Sums_plus := ⟨af_Sums_plus, if_Sums_plus, kf_Sums_plus⟩
    me_Sums_times := ⟨af_Sums_times, if_Sums_times, kf_Sums_times⟩
    me_Sums_is_mark := ⟨af_Sums_is_mark, if_Sums_is_mark, kf_Sums_is_mark⟩
    nf_nought := fun C hC => by
      unfold cs at hC
      simp only [decide_eq_true_eq] at hC
      rcases hC with rfl
      · exact ⟨⟨pgC_Sums, hdC_Sums, poC_Sums, saC_Sums⟩, nC_Sumsnought⟩
    nf_one := fun C hC => by
      unfold cs at hC
      simp only [decide_eq_true_eq] at hC
      rcases hC with rfl
      · exact ⟨⟨pgC_Sums, hdC_Sums, poC_Sums, saC_Sums⟩, nC_Sumsone⟩
    F_is_whole := fm_is_whole lf_is_whole cf_is_whole kf_is_whole
    g_is_whole := PySem.W.mg_of X G af_is_whole
    F_is_texts := fm_is_texts lf_is_texts cf_is_texts kf_is_texts
    g_is_texts := PySem.W.mg_of X G af_is_texts
    F_never_falls := fm_never_falls lf_never_falls cf_never_falls kf_never_falls
    g_never_falls := PySem.W.mg_of X G af_never_falls
    F_always_rises := fm_always_rises lf_always_rises cf_always_rises kf_always_rises
    g_always_rises := PySem.W.mg_of X G af_always_rises
    F_Sums___init__ := fm_Sums___init__ lf_Sums___init__ cf_Sums___init__ kf_Sums___init__
    F_Sums_plus := fm_Sums_plus lf_Sums_plus cf_Sums_plus kf_Sums_plus
    F_Sums_times := fm_Sums_times lf_Sums_times cf_Sums_times kf_Sums_times
    F_Sums_is_mark := fm_Sums_is_mark lf_Sums_is_mark cf_Sums_is_mark kf_Sums_is_mark
    F_is_entry := fm_is_entry lf_is_entry cf_is_entry kf_is_entry
    g_is_entry := PySem.W.mg_of X G af_is_entry
    F_law_at := fm_law_at lf_law_at cf_law_at kf_law_at
    g_law_at := PySem.W.mg_of X G af_law_at
    F_law_same := fm_law_same lf_law_same cf_law_same kf_law_same
    g_law_same := PySem.W.mg_of X G af_law_same
    F_law_mix := fm_law_mix lf_law_mix cf_law_mix kf_law_mix
    g_law_mix := PySem.W.mg_of X G af_law_mix
    F_law_name := fm_law_name lf_law_name cf_law_name kf_law_name
    g_law_name := PySem.W.mg_of X G af_law_name
    F_law_sum := fm_law_sum lf_law_sum cf_law_sum kf_law_sum
    g_law_sum := PySem.W.mg_of X G af_law_sum
    F_law_sorted := fm_law_sorted lf_law_sorted cf_law_sorted kf_law_sorted
    g_law_sorted := PySem.W.mg_of X G af_law_sorted
    F_law_plus := fm_law_plus lf_law_plus cf_law_plus kf_law_plus
    g_law_plus := PySem.W.mg_of X G af_law_plus
    F_law_times := fm_law_times lf_law_times cf_law_times kf_law_times
    g_law_times := PySem.W.mg_of X G af_law_times
    F_law := fm_law lf_law cf_law kf_law
    g_law := PySem.W.mg_of X G af_law
    b_all := PySem.W.mg_none_of X G zall
    b_bool := PySem.W.mg_none_of X G zbool
    b_dict := PySem.W.mg_none_of X G zdict
    b_int := PySem.W.mg_none_of X G zint
    b_isinstance := PySem.W.mg_none_of X G zisinstance
    b_len := PySem.W.mg_none_of X G zlen
    b_list := PySem.W.mg_none_of X G zlist
    b_range := PySem.W.mg_none_of X G zrange
    b_sorted := PySem.W.mg_none_of X G zsorted
    b_str := PySem.W.mg_none_of X G zstr
    b_tuple := PySem.W.mg_none_of X G ztuple
    b_zip := PySem.W.mg_none_of X G zzip }
end K09

set_option Elab.async false
set_option linter.all false
set_option maxRecDepth 100000
set_option maxHeartbeats 4000000
namespace K09
open PySem PySem.Spec PyProof.Rows L2 L2.PU
theorem put_new {fs : List (Str × D)} {f : Str} {d : D} (h : (fs.map Prod.fst).all (fun p => p != f) = true) : putD f d fs = fs ++ [(f, d)] := by
  induction fs with
  | nil => rfl
  | cons p fs ih =>
    rw [List.map_cons, List.all_cons, Bool.and_eq_true] at h
    obtain ⟨x, v⟩ := p
    have hx : ¬ x = f := by simpa using h.1
    have := ih h.2
    simp [putD, hx, this]
theorem fldI_at {t : Adr} {C a dx : Addr} {f : Str} {fa : Rho → M D} {d : D} {fs : List (Str × D)} {rest : Rho} (hc : cs t C = true) (h : fa (some (.oin a C dx fs) :: rest) = ok d) (hd : d.imm = true) (xs : List Str) (hx : fs.map Prod.fst = xs) (hf : xs.all (fun p => p != f) = true) (hl : xs.length < 5) : sFldI (cs t) 0 f fa (some (.oin a C dx fs) :: rest) = some (.nx (some (.oin a C dx (fs ++ [(f, d)])) :: rest)) := by
  unfold sFldI
  rw [h]
  show (if d.imm = true then L2.PU.putAt (cs t) 0 f d (some (.oin a C dx fs) :: rest) else none) = _
  rw [if_pos hd]
  have hl' : fs.length < 5 := by rw [← hx, List.length_map] at hl; exact hl
  rw [← hx] at hf
  simp [L2.PU.putAt, hc, put_new hf]
  omega
theorem cs5 (t : Adr) : cs t t.C_Sums = true := by simp [cs]
noncomputable def oSums (t : Adr) : D := .obj t.C_Sums [("nought", sD []), ("one", sD [([], 1)])]
noncomputable def iSums : List D → M (List (Str × D)) := fun ds => if ds = [] then (ok [(("nought" : Str), sD []), (("one" : Str), sD [([], 1)])] : M (List (Str × D))) else none
theorem iSums_len : ∀ ds r, iSums ds = some r → ds.length + 1 = 1 := by
  intro ds r h
  unfold iSums at h
  split at h
  · rename_i e; subst e; rfl
  · cases h
theorem sums_ini (t : Adr) : ∀ ds r a dx, iSums ds = some r → ∃ fs, r = .ok fs ∧ iniRes a t.C_Sums dx (den_Sums___init__ t (rhoI N_Sums___init__ a t.C_Sums dx ds)) = ok fs := by
  intro ds r a dx h
  unfold iSums at h
  split at h
  · rename_i hx
    subst hx
    cases h
    refine ⟨_, rfl, ?_⟩
    have e0 : rhoI N_Sums___init__ a t.C_Sums dx [] = [some (.oin a t.C_Sums dx [])] := rfl
    rw [e0]
    unfold den_Sums___init__
    rw [sSeq_nx (fldI_at (d := sD []) (cs5 t) rfl rfl [] rfl (by decide +kernel) (by decide))]
    rw [sSeq_nx (fldI_at (d := sD [([], 1)]) (cs5 t) rfl rfl ["nought"] rfl (by decide +kernel) (by decide))]
    simp [sNil, iniRes]
  · cases h
section
variable (t : Adr)
/-! ### plus, times -/
noncomputable def fPlus : List D → M D := viaD 3 fun ds => fnRes (den_Sums_plus t (rho0 N_Sums_plus ds))
theorem plus_sp {o : D} {a b : Sm} (na : (kys a).Nodup) (ha : a.length ≤ 1000) (hb : b.length ≤ 1000) (hl : (accS b a).length < 64) : fPlus t [o, sD a, sD b] = ok (sD (plusF a b)) := by
  refine viaD_of rfl ?_
  have e0 : rho0 N_Sums_plus [o, sD a, sD b] = [some (.sh o), some (.sh (sD a)), some (.sh (sD b)), none, none, none] := rfl
  rw [e0]
  unfold den_Sums_plus
  rw [sSeq_nx (newD_ok (i := 3) (f := look 1) (l := a) rfl na ha)]
  show fnRes (sSeq _ _ [some (.sh o), some (.sh (sD a)), some (.sh (sD b)), some (.ow (.t (a.map kvD))), none, none]) = _
  obtain ⟨ρ', g1, g2, g3, g4⟩ := plus_loop (i := 3) (j := 4) (k := 5) (by decide) (by decide) (by decide) b a [some (.sh o), some (.sh (sD a)), some (.sh (sD b)), some (.ow (.t (a.map kvD))), none, none] (by simp) (by simp) (by simp) rfl (by omega)
  rw [sSeq_nx ((forN_sD (n := 2) (b := b) rfl).trans g1)]
  have d3 : dictAt ρ' 3 = some ((accS b a).map kvD) := by unfold dictAt; rw [g2]
  rw [sSeq_rt (sRet_ok (f1_ok (g := toT) (srtI_ok d3 hl) rfl))]
  rfl
noncomputable def fTimes : List D → M D := viaD 3 fun ds => fnRes (den_Sums_times t (rho0 N_Sums_times ds))
theorem times_sp {o : D} {a b : Sm} (hl : a.length * b.length < 64) (hm : ∀ p ∈ a, ∀ q ∈ b, p.1.length + q.1.length < 64 ∧ mulB p.2 q.2 = true) : fTimes t [o, sD a, sD b] = ok (sD (timesF a b)) := by
  refine viaD_of rfl ?_
  have e0 : rho0 N_Sums_times [o, sD a, sD b] = [some (.sh o), some (.sh (sD a)), some (.sh (sD b)), none, none, none, none, none, none] := rfl
  rw [e0]
  unfold den_Sums_times
  rw [sSeq_nx (show sNewT 3 _ = some (.nx [some (.sh o), some (.sh (sD a)), some (.sh (sD b)), some (.ow (.t [])), none, none, none, none, none]) from rfl)]
  obtain ⟨ρ', g1, g2, g3⟩ := times_loop (i := 3) (n := 2) (by decide) (b := b) a [] [some (.sh o), some (.sh (sD a)), some (.sh (sD b)), some (.ow (.t [])), none, none, none, none, none] (by simp) rfl rfl (by simp; omega) hm
  rw [sSeq_nx ((forN_sD (n := 1) (b := a) rfl).trans g1)]
  have d3 : dictAt ρ' 3 = some ((accS (prodC a b) []).map kvD) := by unfold dictAt; rw [g2]
  rw [sSeq_rt (sRet_ok (f1_ok (g := toT) (srtI_ok d3 (by simp at g3; omega)) rfl))]
  rfl
noncomputable def fSorted : List D → M D := viaD 1 fun ds => fnRes (den_law_sorted t (rho0 N_law_sorted ds))
theorem sorted_sp {l : Sm} (hl : l.length < 64) : fSorted t [.dt (l.map kvD)] = ok (sD (srtP l)) := by
  refine viaD_of rfl ?_
  have e0 : rho0 N_law_sorted [.dt (l.map kvD)] = [some (.sh (.dt (l.map kvD)))] := rfl
  rw [e0]
  unfold den_law_sorted
  rw [sSeq_rt (sRet_ok (f1_ok (g := toT) (srtI_ok (i := 0) (l := l) rfl hl) rfl))]
  rfl
noncomputable def fLPlus : List D → M D := viaD 2 fun ds => fnRes (den_law_plus t (fSorted t) (rho0 N_law_plus ds))
theorem look_ow {ρ : Rho} {j : Nat} {kvs : List (List Key × D)} (h : ρ[j]? = some (some (.ow (.t kvs)))) : look j ρ = ok (.dt kvs) := by unfold look; rw [h]; rfl
theorem lplus_sp {a b : Sm} (na : (kys a).Nodup) (ha : a.length ≤ 1000) (hb : b.length ≤ 1000) (hl : (accS b a).length < 64) : fLPlus t [sD a, sD b] = ok (sD (plusF a b)) := by
  refine viaD_of rfl ?_
  have e0 : rho0 N_law_plus [sD a, sD b] = [some (.sh (sD a)), some (.sh (sD b)), none, none, none] := rfl
  rw [e0]
  unfold den_law_plus
  rw [sSeq_nx (newD_ok (i := 2) (f := look 0) (l := a) rfl na ha)]
  show fnRes (sSeq _ _ [some (.sh (sD a)), some (.sh (sD b)), some (.ow (.t (a.map kvD))), none, none]) = _
  obtain ⟨ρ', g1, g2, g3, g4⟩ := plus_loop (i := 2) (j := 3) (k := 4) (by decide) (by decide) (by decide) b a [some (.sh (sD a)), some (.sh (sD b)), some (.ow (.t (a.map kvD))), none, none] (by simp) (by simp) (by simp) rfl (by omega)
  rw [sSeq_nx ((forN_sD (n := 1) (b := b) rfl).trans g1)]
  have e : app (fSorted t) (aCons (look 2) aNil) ρ' = ok (sD (plusF a b)) := (app_ok (aCons_ok (look_ow g2) aNil_ok)).trans (sorted_sp t hl)
  rw [sSeq_rt (sRet_ok e)]
  rfl
noncomputable def fLTimes : List D → M D := viaD 2 fun ds => fnRes (den_law_times t (fSorted t) (rho0 N_law_times ds))
theorem ltimes_sp {a b : Sm} (hl : a.length * b.length < 64) (hm : ∀ p ∈ a, ∀ q ∈ b, p.1.length + q.1.length < 64 ∧ mulB p.2 q.2 = true) : fLTimes t [sD a, sD b] = ok (sD (timesF a b)) := by
  refine viaD_of rfl ?_
  have e0 : rho0 N_law_times [sD a, sD b] = [some (.sh (sD a)), some (.sh (sD b)), none, none, none, none, none, none] := rfl
  rw [e0]
  unfold den_law_times
  rw [sSeq_nx (show sNewT 2 _ = some (.nx [some (.sh (sD a)), some (.sh (sD b)), some (.ow (.t [])), none, none, none, none, none]) from rfl)]
  obtain ⟨ρ', g1, g2, g3⟩ := times_loop (i := 2) (n := 1) (by decide) (b := b) a [] [some (.sh (sD a)), some (.sh (sD b)), some (.ow (.t [])), none, none, none, none, none] (by simp) rfl rfl (by simp; omega) hm
  rw [sSeq_nx ((forN_sD (n := 0) (b := a) rfl).trans g1)]
  have e : app (fSorted t) (aCons (look 2) aNil) ρ' = ok (sD (timesF a b)) := (app_ok (aCons_ok (look_ow g2) aNil_ok)).trans (sorted_sp t (by simp at g3; omega))
  rw [sSeq_rt (sRet_ok e)]
  rfl
/-! ### is_mark -/
noncomputable def fWhole : List D → M D := viaD 2 fun ds => fnRes (den_is_whole t (rho0 N_is_whole ds))
theorem whole_sp {n : Int} (h : 1 ≤ n) : fWhole t [.int n, .int 1] = ok (.bl true) := by
  refine viaD_of rfl ?_
  have e0 : rho0 N_is_whole [.int n, .int 1] = [some (.sh (.int n)), some (.sh (.int 1))] := rfl
  rw [e0]
  have hd : decide (n ≥ 1) = true := decide_eq_true h
  simp [den_is_whole, sSeq, sRet, andV, notV, isi, tyN, isB, look, SV.cur, bnd, ok, lft, blOf, b2, gGe, fnRes]
  exact h
noncomputable def fTexts : List D → M D := viaD 1 fun ds => fnRes (den_is_texts t (rho0 N_is_texts ds))
theorem texts_sp {xs : List Str} (hl : xs.length ≤ 1000) : fTexts t [tS xs] = ok (.bl true) := by
  refine viaD_of rfl ?_
  have e0 : rho0 N_is_texts [tS xs] = [some (.sh (tS xs))] := rfl
  rw [e0]
  unfold den_is_texts
  have c1 : cmp 1 (itE (look 0)) [1] h1 (fun _ => ok true) (isi "str" (look 1)) [some (.sh (tS xs))] = ok (.lst (xs.map fun _ => D.bl true)) := cmp_one (l := xs) (e := D.str) rfl hl (fun _ _ => ⟨rfl, rfl⟩)
  have c2 : f1 allD (cmp 1 (itE (look 0)) [1] h1 (fun _ => ok true) (isi "str" (look 1))) [some (.sh (tS xs))] = ok (.bl true) := f1_ok c1 (all_bl (fun _ => true) _ fun _ _ => rfl)
  rw [sSeq_rt (sRet_ok (andV_ok (a := true) rfl c2))]
  rfl
noncomputable def fFalls : List D → M D := viaD 1 fun ds => fnRes (den_never_falls t (rho0 N_never_falls ds))
theorem falls_sp {xs : List Str} (hl : xs.length ≤ 1000) (hs : xs.Pairwise (fun a b => leS a b = true)) : fFalls t [tS xs] = ok (.bl true) := by
  refine viaD_of rfl ?_
  have e0 : rho0 N_never_falls [tS xs] = [some (.sh (tS xs))] := rfl
  rw [e0]
  unfold den_never_falls
  have cu : cut3 (look 0) (oPart (con (.int 1))) oNone [some (.sh (tS xs))] = ok (.tup ((xs.drop 1).map D.str)) := by
    rw [← cut_1]
    rfl
  have c1 := cmp_two (e := D.str) (m := 2) (k := 1) (k2 := 2) (fe := b2 gLeS (look 1) (look 2)) (g := fun p => D.bl (!decide (p.2.cps.toList < p.1.cps.toList))) (by decide) (fun _ => rfl) (itZ_any (e := D.str) (f := look 0) (ρ := [some (.sh (tS xs))]) (x := tS xs) (xs := xs) (ys := xs.drop 1) rfl cu rfl rfl) (by rw [List.length_zip]; omega) (fun p _ => ⟨rfl, rfl⟩)
  have c2 := f1_ok c1 (all_bl (fun p : Str × Str => !decide (p.2.cps.toList < p.1.cps.toList)) _ fun p hp => by rw [ltc_iff, Bool.not_not]; exact zip_next hs p hp)
  rw [sSeq_rt (sRet_ok c2)]
  rfl
noncomputable def fRises : List D → M D := viaD 1 fun ds => fnRes (den_always_rises t (rho0 N_always_rises ds))
theorem rises_sp {ks : List (List Str)} (hl : ks.length ≤ 1000) (hs : ks.Pairwise (fun a b => lexS a b = true)) : fRises t [.lst (ks.map tS)] = ok (.bl true) := by
  refine viaD_of rfl ?_
  have e0 : rho0 N_always_rises [.lst (ks.map tS)] = [some (.sh (.lst (ks.map tS)))] := rfl
  rw [e0]
  unfold den_always_rises
  have cu : cut3 (look 0) (oPart (con (.int 1))) oNone [some (.sh (.lst (ks.map tS)))] = ok (.lst ((ks.drop 1).map tS)) := by
    have e : L2.PU.cutD (ks.map tS) (some 1) none = (ks.drop 1).map tS := by
      rw [List.map_drop]
      cases ks with
      | nil => simp [L2.PU.cutD]
      | cons x r => exact cut_from ((x :: r).map tS) (j := 1) (by simp)
    rw [← e]
    rfl
  have c1 := cmp_two (e := tS) (m := 2) (k := 1) (k2 := 2) (fe := b2 gLtU (look 1) (look 2)) (g := fun p => D.bl (lexS p.1 p.2)) (by decide) imm_tS (itZ_any (e := tS) (f := look 0) (ρ := [some (.sh (.lst (ks.map tS)))]) (x := .lst (ks.map tS)) (xs := ks) (ys := ks.drop 1) rfl cu rfl rfl) (by rw [List.length_zip]; omega) (fun p _ => ⟨by
      refine b2_ok (x := tS p.1) (y := tS p.2) rfl rfl ?_
      show (match txtsD (p.1.map D.str), txtsD (p.2.map D.str) with | some xs, some ys => ok (D.bl (lexS xs ys)) | _, _ => none) = _
      rw [txtsD_map, txtsD_map], rfl⟩)
  have c2 := f1_ok c1 (all_bl (fun p : List Str × List Str => lexS p.1 p.2) _ fun p hp => zip_next hs p hp)
  rw [sSeq_rt (sRet_ok c2)]
  rfl
end
end K09

set_option Elab.async false
set_option linter.all false
set_option maxRecDepth 100000
set_option maxHeartbeats 4000000
namespace K09
open PySem PySem.Spec PyProof.Rows L2 L2.PU
section
variable (t : Adr)
theorem fst_pD {f : Rho → M D} {ρ : Rho} {p : List Str × Int} (h : f ρ = ok (pD p)) : b2 gIx f (con (.int 0)) ρ = ok (tS p.1) := b2_ok h (y := .int ((0 : Nat) : Int)) rfl (ix_tup rfl)
theorem snd_pD {f : Rho → M D} {ρ : Rho} {p : List Str × Int} (h : f ρ = ok (pD p)) : b2 gIx f (con (.int 1)) ρ = ok (.int p.2) := b2_ok h (y := .int ((1 : Nat) : Int)) rfl (ix_tup rfl)
noncomputable def fEntry : List D → M D := viaD 1 fun ds => fnRes (den_is_entry t (fTexts t) (fWhole t) (fFalls t) (rho0 N_is_entry ds))
theorem entry_sp {p : List Str × Int} (hl : p.1.length ≤ 1000) (hs : p.1.Pairwise (fun a b => leS a b = true)) (hp : 1 ≤ p.2) : fEntry t [pD p] = ok (.bl true) := by
  refine viaD_of rfl ?_
  have e0 : rho0 N_is_entry [pD p] = [some (.sh (pD p))] := rfl
  rw [e0]
  unfold den_is_entry
  have l0 : look 0 [some (.sh (pD p))] = ok (pD p) := rfl
  have i1 : sIf (orB (notB (test (isi "tuple" (look 0)))) (testB (b2 gNe (f1 lenD (look 0)) (con (.int 2))))) (sSeq (sRet (con (.bl false))) sNil) sNil [some (.sh (pD p))] = some (.nx [some (.sh (pD p))]) := by
    refine (sIf_f ?_).trans rfl
    rfl
  rw [sSeq_nx i1]
  have a1 : app (fTexts t) (aCons (b2 gIx (look 0) (con (.int 0))) aNil) [some (.sh (pD p))] = ok (.bl true) := (app_ok (aCons_ok (fst_pD l0) aNil_ok)).trans (texts_sp t hl)
  have a2 : app (fFalls t) (aCons (b2 gIx (look 0) (con (.int 0))) aNil) [some (.sh (pD p))] = ok (.bl true) := (app_ok (aCons_ok (fst_pD l0) aNil_ok)).trans (falls_sp t hl hs)
  have a3 : app (fWhole t) (aCons (b2 gIx (look 0) (con (.int 1))) (aCons (con (.int 1)) aNil)) [some (.sh (pD p))] = ok (.bl true) := (app_ok (aCons_ok (snd_pD l0) (aCons_ok (d := .int 1) rfl aNil_ok))).trans (whole_sp t hp)
  rw [sSeq_rt (sRet_ok (andV_ok a1 (andV_ok a2 a3)))]
  rfl
noncomputable def fMark : List D → M D := viaD 2 fun ds => fnRes (den_Sums_is_mark t (fRises t) (fEntry t) (rho0 N_Sums_is_mark ds))
theorem mark_sp {o : D} {l : Sm} (hl : l.length ≤ 1000) (hk : ∀ p ∈ l, p.1.length ≤ 1000) (hm : MarkS l) : fMark t [o, sD l] = ok (.bl true) := by
  refine viaD_of rfl ?_
  have e0 : rho0 N_Sums_is_mark [o, sD l] = [some (.sh o), some (.sh (sD l))] := rfl
  rw [e0]
  unfold den_Sums_is_mark
  have c1 : cmp 1 (itE (look 1)) [2] h1 (fun _ => ok true) (app (fEntry t) (aCons (look 2) aNil)) [some (.sh o), some (.sh (sD l))] = ok (.lst (l.map fun _ => D.bl true)) :=
    cmp_one (l := l) (e := pD) rfl hl fun p hp => ⟨(app_ok (aCons_ok (d := pD p) rfl aNil_ok)).trans (entry_sp t (hk p hp) (hm.fa p hp) (hm.po p hp)), rfl⟩
  have c2 : f1 allD (cmp 1 (itE (look 1)) [2] h1 (fun _ => ok true) (app (fEntry t) (aCons (look 2) aNil))) [some (.sh o), some (.sh (sD l))] = ok (.bl true) := f1_ok c1 (all_bl (fun _ => true) _ fun _ _ => rfl)
  have i1 : sIf (orB (notB (test (isi "tuple" (look 1)))) (notB (test (f1 allD (cmp 1 (itE (look 1)) [2] h1 (fun _ => ok true) (app (fEntry t) (aCons (look 2) aNil))))))) (sSeq (sRet (con (.bl false))) sNil) sNil [some (.sh o), some (.sh (sD l))] = some (.nx [some (.sh o), some (.sh (sD l))]) := by
    refine (sIf_f (orB_ok (a := false) rfl (notB_ok (test_ok c2 rfl)))).trans rfl
  rw [sSeq_nx i1]
  have c3 : cmp 1 (itE (look 1)) [2] h1 (fun _ => ok true) (b2 gIx (look 2) (con (.int 0))) [some (.sh o), some (.sh (sD l))] = ok (.lst ((kys l).map tS)) := by
    have := cmp_one (m := 1) (k := 2) (it := itE (look 1)) (fe := b2 gIx (look 2) (con (.int 0))) (ρ := [some (.sh o), some (.sh (sD l))]) (l := l) (e := pD) (g := fun p => tS p.1) rfl hl fun p hp => ⟨fst_pD rfl, imm_tS _⟩
    rw [this, List.map_map]
    rfl
  have a3 : app (fRises t) (aCons (cmp 1 (itE (look 1)) [2] h1 (fun _ => ok true) (b2 gIx (look 2) (con (.int 0)))) aNil) [some (.sh o), some (.sh (sD l))] = ok (.bl true) :=
    (app_ok (aCons_ok c3 aNil_ok)).trans (rises_sp t (by rw [List.length_map]; exact hl) hm.ks)
  rw [sSeq_rt (sRet_ok a3)]
  rfl
/-! ### mix, a drawn sum -/
theorem q9 : (10 : Int) ^ (9 : Int).toNat = 1000000000 := by decide
theorem q24 : (10 : Int) ^ (24 : Int).toNat = 1000000000000000000000000 := by decide
theorem q40 : (10 : Int) ^ (40 : Int).toNat = 10000000000000000000000000000000000000000 := by decide
noncomputable def fMix : List D → M D := viaD 1 fun ds => fnRes (den_law_mix t (rho0 N_law_mix ds))
theorem mix_sp (c : Int) : ∃ b : Int, 0 ≤ b ∧ fMix t [.int c] = ok (.int b) := by
  refine ⟨(c % 1000000000 + 1) * 2862933555777941757 % (1000000000000000000000000 + 7), by omega, viaD_of rfl ?_⟩
  have e0 : rho0 N_law_mix [.int c] = [some (.sh (.int c))] := rfl
  rw [e0]
  unfold den_law_mix
  have pw9 : b2 gPow (con (.int 10)) (con (.int 9)) [some (.sh (.int c))] = ok (.int 1000000000) := by simp [b2, con, bnd, ok, gPow, q9]
  have pw24 : b2 gPow (con (.int 10)) (con (.int 24)) [some (.sh (.int c))] = ok (.int 1000000000000000000000000) := by simp [b2, con, bnd, ok, gPow, q24]
  have m1 := mul_ok (add_ok (mod_ok (f := look 0) (ρ := [some (.sh (.int c))]) (i := c) rfl pw9 (by decide)) (g := con (.int 1)) (j := 1) rfl) (g := con (.int 2862933555777941757)) (j := 2862933555777941757) rfl (mulB_int (by omega) (by omega) (by decide) (by decide))
  have m2 := mod_ok m1 (add_ok pw24 (g := con (.int 7)) (j := 7) rfl) (by decide)
  rw [sSeq_rt (sRet_ok m2)]
  rfl
end
noncomputable abbrev Rs (P : List Str) (s1 s2 s3 s4 s5 s6 s7 s8 s9 s10 : Option SV) : Rho := [some (.sh (.lst (P.map D.str))), s1, s2, s3, s4, s5, s6, s7, s8, s9, s10]
noncomputable def bodyJ : Rho → Option Out := (sSeq (sOwn lApp 6 (aCons (b2 gIx (look 0) (b2 gMod (look 2) (f1 lenD (look 0)))) aNil))
    (sSeq (sSet 2 (b2 gFdiv (look 2) (f1 lenD (look 0))))
    sNil))
theorem len_P {P : List Str} {ρ : Rho} (h : look 0 ρ = ok (.lst (P.map D.str))) : f1 lenD (look 0) ρ = ok (.int (P.length : Int)) := by
  refine f1_ok h ?_
  show ok (D.int ((P.map D.str).length : Int)) = _
  rw [List.length_map]
theorem body_j {P : List Str} (hP : 0 < P.length) (hP2 : P.length ≤ 100) {s1 s3 s4 s5 s7 s9 s10 : Option SV} {acc : List Str} (hl : acc.length ≤ 1000) (b j : Int) : ∃ (x : Str) (b' : Int), x ∈ P ∧
    bodyJ (Rs P s1 (some (.sh (.int b))) s3 s4 s5 (some (.own (acc.map D.str))) s7 (some (.sh (.int j))) s9 s10) = some (.nx (Rs P s1 (some (.sh (.int b'))) s3 s4 s5 (some (.own ((acc ++ [x]).map D.str))) s7 (some (.sh (.int j))) s9 s10)) := by
  obtain ⟨i, hi⟩ : ∃ i : Nat, b % (P.length : Int) = (i : Int) := ⟨(b % (P.length : Int)).toNat, by have := Int.emod_nonneg b (b := (P.length : Int)) (by omega); omega⟩
  have hi2 : i < P.length := by have := Int.emod_lt_of_pos b (b := (P.length : Int)) (by omega); omega
  refine ⟨P[i], b / (P.length : Int), List.getElem_mem hi2, ?_⟩
  generalize hρ : Rs P s1 (some (.sh (.int b))) s3 s4 s5 (some (.own (acc.map D.str))) s7 (some (.sh (.int j))) s9 s10 = ρ
  have l0 : look 0 ρ = ok (.lst (P.map D.str)) := by rw [← hρ]; rfl
  have l2 : look 2 ρ = ok (.int b) := by rw [← hρ]; rfl
  have m := mod_ok l2 (len_P l0) (by omega)
  rw [hi] at m
  have ix : b2 gIx (look 0) (b2 gMod (look 2) (f1 lenD (look 0))) ρ = ok (.str P[i]) := b2_ok l0 m (ix_lst (by rw [List.getElem?_map, List.getElem?_eq_getElem hi2]; rfl))
  have o1 : sOwn lApp 6 (aCons (b2 gIx (look 0) (b2 gMod (look 2) (f1 lenD (look 0)))) aNil) ρ = some (.nx (Rs P s1 (some (.sh (.int b))) s3 s4 s5 (some (.own ((acc ++ [P[i]]).map D.str))) s7 (some (.sh (.int j))) s9 s10)) := by
    unfold sOwn
    have g6 : ρ[6]? = some (some (.own (acc.map D.str))) := by rw [← hρ]; rfl
    rw [g6]
    show lft _ _ _ = _
    rw [aCons_ok ix aNil_ok]
    show (if immL [D.str P[i]] = true ∧ (acc.map D.str).length < 100000 then (match lApp (acc.map D.str) [D.str P[i]] with | some ds' => some (Out.nx (ρ.set 6 (some (.own ds')))) | none => none) else none) = _
    rw [if_pos ⟨rfl, by rw [List.length_map]; omega⟩, List.map_append, ← hρ]
    rfl
  unfold bodyJ
  rw [sSeq_nx o1]
  have l0' : look 0 (Rs P s1 (some (.sh (.int b))) s3 s4 s5 (some (.own ((acc ++ [P[i]]).map D.str))) s7 (some (.sh (.int j))) s9 s10) = ok (.lst (P.map D.str)) := rfl
  rw [sSeq_nx (sSet_imm (fdiv_ok (f := look 2) (i := b) rfl (len_P l0') (by omega) (by omega)) rfl)]
  rfl
theorem loop_j {P : List Str} (hP : 0 < P.length) (hP2 : P.length ≤ 100) {s1 s3 s4 s5 s7 s9 s10 : Option SV} : ∀ (js : List Nat) (acc : List Str) (b : Int) (o : Option SV), acc.length + js.length ≤ 1000 → ∃ (xs : List Str) (b' : Int) (o' : Option SV), xs.length = js.length ∧ (∀ x ∈ xs, x ∈ P) ∧
    loop (gN 8) bodyJ (js.map fun (j : Nat) => D.int (0 + (j : Int))) (Rs P s1 (some (.sh (.int b))) s3 s4 s5 (some (.own (acc.map D.str))) s7 o s9 s10) = some (.nx (Rs P s1 (some (.sh (.int b'))) s3 s4 s5 (some (.own ((acc ++ xs).map D.str))) s7 o' s9 s10))
  | [], acc, b, o, _ => ⟨[], b, o, rfl, (fun _ h => by cases h), by rw [List.append_nil]; rfl⟩
  | j :: js, acc, b, o, hl => by
    rw [List.length_cons] at hl
    obtain ⟨x, b1, hx, e1⟩ := body_j hP hP2 (s1 := s1) (s3 := s3) (s4 := s4) (s5 := s5) (s7 := s7) (s9 := s9) (s10 := s10) (acc := acc) (by omega) b (0 + (j : Int))
    obtain ⟨xs, b2', o', h1, h2, h3⟩ := loop_j hP hP2 (s1 := s1) (s3 := s3) (s4 := s4) (s5 := s5) (s7 := s7) (s9 := s9) (s10 := s10) js (acc ++ [x]) b1 (some (.sh (.int (0 + (j : Int))))) (by rw [List.length_append, List.length_singleton]; omega)
    refine ⟨x :: xs, b2', o', by rw [List.length_cons, List.length_cons, h1], fun y hy => ?_, ?_⟩
    · rcases List.mem_cons.mp hy with rfl | hy
      · exact hx
      · exact h2 y hy
    · rw [List.map_cons, loop_cons (ρ1 := Rs P s1 (some (.sh (.int b))) s3 s4 s5 (some (.own (acc.map D.str))) s7 (some (.sh (.int (0 + (j : Int))))) s9 s10) rfl e1, h3, List.append_assoc]
      rfl
theorem forR1_ok {f : Rho → M D} {G : D → Rho → Option Rho} {F : Rho → Option Out} {ρ : Rho} {n : Nat} (h : f ρ = ok (.int (n : Int))) (hn : n ≤ 1000000) : sForR1 f G F ρ = loop G F ((List.range n).map fun (j : Nat) => D.int (0 + (j : Int))) ρ := by
  unfold sForR1
  rw [h, lft_ok]
  dsimp only
  rw [if_pos ⟨by omega, by omega⟩, Int.toNat_natCast]
  rfl
/-- what is drawn so far -/
structure KInv (P : List Str) (n : Nat) (l : Sm) : Prop where
  nd : (kys l).Nodup
  le : l.length ≤ n
  fi : ∀ p ∈ l, FinK P p.1
  po : ∀ p ∈ l, 1 ≤ p.2
  hi : ∀ p ∈ l, p.2 ≤ (n : Int) * 20000000000000000000000000000000000000000
theorem FinK.pair {P k : List Str} (h : FinK P k) : k.Pairwise fun a b => leS a b = true := by
  obtain ⟨xs, rfl, _⟩ := h
  exact srtS_pair xs
theorem FinK.len {P k : List Str} (h : FinK P k) : k.length ≤ 3 := by
  obtain ⟨xs, rfl, hl, _⟩ := h
  rw [(srtS_perm xs).length_eq]
  exact hl
theorem KInv.add {P : List Str} {n : Nat} {l : Sm} (h : KInv P n l) {k : List Str} (hk : FinK P k) {m : Int} (h1 : 1 ≤ m) (h2 : m ≤ 20000000000000000000000000000000000000000) : KInv P (n + 1) (addP l (k, m)) := by
  have nd := add_nodup h.nd (k, m)
  have e : ∀ p ∈ addP l (k, m), (p.1 ∈ kys l ∨ p.1 = k) ∧ p.2 = valS l p.1 + (if k = p.1 then m else 0) := fun p hp => by
    obtain ⟨a, b⟩ := (mem_val nd (k := p.1) (v := p.2)).mp hp
    rw [add_keys] at a
    rw [add_val] at b
    exact ⟨a, b.symm⟩
  have v : ∀ x : List Str, 0 ≤ valS l x ∧ valS l x ≤ (n : Int) * 20000000000000000000000000000000000000000 ∧ (x ∈ kys l → 1 ≤ valS l x) := fun x => by
    by_cases hx : x ∈ kys l
    · obtain ⟨p, hp, ep⟩ := List.mem_map.mp hx
      have q := val_mem h.nd hp
      rw [ep] at q
      rw [q]
      have a := h.po p hp
      have b := h.hi p hp
      exact ⟨by omega, b, fun _ => a⟩
    · rw [val_none hx]
      exact ⟨Int.le_refl _, by omega, fun z => absurd z hx⟩
  refine ⟨nd, Nat.le_trans (addP_len l (k, m)) (Nat.succ_le_succ h.le), fun p hp => ?_, fun p hp => ?_, fun p hp => ?_⟩
  · rcases (e p hp).1 with z | z
    · obtain ⟨q, hq, eq⟩ := List.mem_map.mp z
      rw [← eq]
      exact h.fi q hq
    · rw [z]; exact hk
  · obtain ⟨z, w⟩ := e p hp
    obtain ⟨v1, v2, v3⟩ := v p.1
    rw [w]
    rcases z with z | z
    · have := v3 z
      split <;> omega
    · rw [if_pos z.symm]; omega
  · obtain ⟨z, w⟩ := e p hp
    obtain ⟨v1, v2, v3⟩ := v p.1
    rw [w]
    split <;> omega
noncomputable def bodyK : Rho → Option Out := (sSeq (sNew 6 aNil)
    (sSeq (sSet 7 (b2 gMod (look 2) (con (.int 4))))
    (sSeq (sSet 2 (b2 gFdiv (look 2) (con (.int 4))))
    (sSeq (sForR1 (look 7) (gN 8) (sSeq (sOwn lApp 6 (aCons (b2 gIx (look 0) (b2 gMod (look 2) (f1 lenD (look 0)))) aNil))
    (sSeq (sSet 2 (b2 gFdiv (look 2) (f1 lenD (look 0))))
    sNil)))
    (sSeq (sSet 9 (b2 gPlus (con (.int 1)) (b2 gMod (look 2) (con (.int 5)))))
    (sSeq (sSet 2 (b2 gFdiv (look 2) (con (.int 5))))
    (sSeq (sIf (testB (b2 gEq (look 9) (con (.int 5)))) (sSeq (sSet 9 (b2 gPlus (b2 gPow (con (.int 10)) (con (.int 40))) (look 5)))
    sNil) sNil)
    (sSeq (sSet 10 (f1 toT (f1 srtL (look 6))))
    (sSeq (sPutT 3 10 (b2 gPlus (dGet2 3 10 (con (.int 0))) (look 9)))
    sNil)))))))))
end K09

set_option Elab.async false
set_option linter.all false
set_option maxRecDepth 100000
set_option maxHeartbeats 4000000
namespace K09
open PySem PySem.Spec PyProof.Rows L2 L2.PU
noncomputable abbrev ow (l : Sm) : Option SV := some (.ow (.t (l.map kvD)))
theorem body_k {P : List Str} (hP : 0 < P.length) (hP2 : P.length ≤ 100) {s1 s4 s6 s7 s8 s9 s10 : Option SV} {n : Nat} (hn : n ≤ 1000) {l : Sm} (hk : KInv P n l) (b : Int) {k : Int} (k0 : 0 ≤ k) (k1 : k ≤ 1000) : ∃ (b' : Int) (l' : Sm) (o6 o7 o8 o9 o10 : Option SV), KInv P (n + 1) l' ∧
    bodyK (Rs P s1 (some (.sh (.int b))) (ow l) s4 (some (.sh (.int k))) s6 s7 s8 s9 s10) = some (.nx (Rs P s1 (some (.sh (.int b'))) (ow l') s4 (some (.sh (.int k))) o6 o7 o8 o9 o10)) := by
  obtain ⟨i, hi⟩ : ∃ i : Nat, b % 4 = (i : Int) := ⟨(b % 4).toNat, by omega⟩
  have hi4 : i ≤ 3 := by omega
  obtain ⟨xs, b1, o8, hxl, hxP, hlp⟩ := loop_j hP hP2 (s1 := s1) (s3 := ow l) (s4 := s4) (s5 := some (.sh (.int k))) (s7 := some (.sh (.int (i : Int)))) (s9 := s9) (s10 := s10) (List.range i) [] (b / 4) s8 (by rw [List.length_range]; simp; omega)
  rw [List.length_range] at hxl
  have hF : FinK P (srtS xs) := ⟨xs, rfl, by omega, hxP⟩
  have c9 : ∃ nn' : Int, 1 ≤ nn' ∧ nn' ≤ 20000000000000000000000000000000000000000 ∧ sIf (testB (b2 gEq (look 9) (con (.int 5)))) (sSeq (sSet 9 (b2 gPlus (b2 gPow (con (.int 10)) (con (.int 40))) (look 5))) sNil) sNil (Rs P s1 (some (.sh (.int (b1 / 5)))) (ow l) s4 (some (.sh (.int k))) (some (.own (xs.map D.str))) (some (.sh (.int (i : Int)))) o8 (some (.sh (.int (1 + b1 % 5)))) s10) = some (.nx (Rs P s1 (some (.sh (.int (b1 / 5)))) (ow l) s4 (some (.sh (.int k))) (some (.own (xs.map D.str))) (some (.sh (.int (i : Int)))) o8 (some (.sh (.int nn'))) s10)) := by
    have nn1 : 1 ≤ 1 + b1 % 5 ∧ 1 + b1 % 5 ≤ 5 := by omega
    generalize 1 + b1 % 5 = nn at nn1 ⊢
    generalize b1 / 5 = b2'
    have tb := testB_ok (eqi_ok (f := look 9) (g := con (.int 5)) (ρ := Rs P s1 (some (.sh (.int b2'))) (ow l) s4 (some (.sh (.int k))) (some (.own (xs.map D.str))) (some (.sh (.int (i : Int)))) o8 (some (.sh (.int nn))) s10) (i := nn) (j := 5) rfl rfl)
    by_cases h5 : nn = 5
    · rw [decide_eq_true h5] at tb
      have pw : ∀ ρ, b2 gPow (con (.int 10)) (con (.int 40)) ρ = ok (.int 10000000000000000000000000000000000000000) := fun ρ => by simp [b2, con, bnd, ok, gPow, q40]
      exact ⟨_, by omega, by omega, (sIf_t tb).trans (sSeq_nx (sSet_imm (add_ok (pw _) (g := look 5) (j := k) rfl) rfl))⟩
    · rw [decide_eq_false h5] at tb
      exact ⟨nn, by omega, by omega, (sIf_f tb).trans rfl⟩
  obtain ⟨nn', hn1, hn2, c9⟩ := c9
  refine ⟨b1 / 5, addP l (srtS xs, nn'), some (.own (xs.map D.str)), some (.sh (.int (i : Int))), o8, some (.sh (.int nn')), some (.sh (tS (srtS xs))), hk.add hF hn1 hn2, ?_⟩
  unfold bodyK
  have s6e : sNew 6 aNil (Rs P s1 (some (.sh (.int b))) (ow l) s4 (some (.sh (.int k))) s6 s7 s8 s9 s10) = some (.nx (Rs P s1 (some (.sh (.int b))) (ow l) s4 (some (.sh (.int k))) (some (.own [])) s7 s8 s9 s10)) := by simp [sNew, aNil, ok, lft, immL]
  rw [sSeq_nx s6e]
  have m7 : b2 gMod (look 2) (con (.int 4)) (Rs P s1 (some (.sh (.int b))) (ow l) s4 (some (.sh (.int k))) (some (.own [])) s7 s8 s9 s10) = ok (.int (i : Int)) := by rw [← hi]; exact mod_ok (i := b) rfl rfl (by decide)
  rw [sSeq_nx (sSet_imm m7 rfl)]
  show sSeq _ _ (Rs P s1 (some (.sh (.int b))) (ow l) s4 (some (.sh (.int k))) (some (.own [])) (some (.sh (.int (i : Int)))) s8 s9 s10) = _
  rw [sSeq_nx (sSet_imm (fdiv_ok (i := b) rfl rfl (by decide) (by decide)) rfl)]
  show sSeq _ _ (Rs P s1 (some (.sh (.int (b / 4)))) (ow l) s4 (some (.sh (.int k))) (some (.own [])) (some (.sh (.int (i : Int)))) s8 s9 s10) = _
  have f8 : sForR1 (look 7) (gN 8) bodyJ (Rs P s1 (some (.sh (.int (b / 4)))) (ow l) s4 (some (.sh (.int k))) (some (.own [])) (some (.sh (.int (i : Int)))) s8 s9 s10) = some (.nx (Rs P s1 (some (.sh (.int b1))) (ow l) s4 (some (.sh (.int k))) (some (.own (xs.map D.str))) (some (.sh (.int (i : Int)))) o8 s9 s10)) := by
    rw [forR1_ok rfl (by omega)]
    exact hlp
  show sSeq (sForR1 (look 7) (gN 8) bodyJ) _ _ = _
  rw [sSeq_nx f8]
  have m9 := add_ok (f := con (.int 1)) (ρ := Rs P s1 (some (.sh (.int b1))) (ow l) s4 (some (.sh (.int k))) (some (.own (xs.map D.str))) (some (.sh (.int (i : Int)))) o8 s9 s10) (i := 1) rfl (mod_ok (f := look 2) (g := con (.int 5)) (i := b1) rfl rfl (by decide))
  rw [sSeq_nx (sSet_imm m9 rfl)]
  show sSeq _ _ (Rs P s1 (some (.sh (.int b1))) (ow l) s4 (some (.sh (.int k))) (some (.own (xs.map D.str))) (some (.sh (.int (i : Int)))) o8 (some (.sh (.int (1 + b1 % 5)))) s10) = _
  rw [sSeq_nx (sSet_imm (fdiv_ok (i := b1) rfl rfl (by decide) (by decide)) rfl)]
  show sSeq _ _ (Rs P s1 (some (.sh (.int (b1 / 5)))) (ow l) s4 (some (.sh (.int k))) (some (.own (xs.map D.str))) (some (.sh (.int (i : Int)))) o8 (some (.sh (.int (1 + b1 % 5)))) s10) = _
  rw [sSeq_nx c9]
  have e10 : f1 toT (f1 srtL (look 6)) (Rs P s1 (some (.sh (.int (b1 / 5)))) (ow l) s4 (some (.sh (.int k))) (some (.own (xs.map D.str))) (some (.sh (.int (i : Int)))) o8 (some (.sh (.int nn'))) s10) = ok (tS (srtS xs)) := f1_ok (g := toT) (f1_ok (d := .lst (xs.map D.str)) rfl (srtL_lS (by omega))) rfl
  rw [sSeq_nx (sSet_imm e10 (imm_tS _))]
  show sSeq _ _ (Rs P s1 (some (.sh (.int (b1 / 5)))) (ow l) s4 (some (.sh (.int k))) (some (.own (xs.map D.str))) (some (.sh (.int (i : Int)))) o8 (some (.sh (.int nn'))) (some (.sh (tS (srtS xs))))) = _
  exact addk_ok (i := 3) (j := 10) (l := l) (k := srtS xs) rfl (key_tS rfl) (n := nn') rfl (by have := hk.le; omega)
theorem loop_k {P : List Str} (hP : 0 < P.length) (hP2 : P.length ≤ 100) {s1 s4 : Option SV} : ∀ (js : List Nat) (n : Nat) (l : Sm) (b : Int) (s5 s6 s7 s8 s9 s10 : Option SV), n + js.length ≤ 1000 → (∀ j ∈ js, j ≤ 1000) → KInv P n l → ∃ (b' : Int) (l' : Sm) (o5 o6 o7 o8 o9 o10 : Option SV), KInv P (n + js.length) l' ∧
    loop (gN 5) bodyK (js.map fun (j : Nat) => D.int (0 + (j : Int))) (Rs P s1 (some (.sh (.int b))) (ow l) s4 s5 s6 s7 s8 s9 s10) = some (.nx (Rs P s1 (some (.sh (.int b'))) (ow l') s4 o5 o6 o7 o8 o9 o10))
  | [], n, l, b, s5, s6, s7, s8, s9, s10, _, _, hk => ⟨b, l, s5, s6, s7, s8, s9, s10, hk, rfl⟩
  | j :: js, n, l, b, s5, s6, s7, s8, s9, s10, hl, hj, hk => by
    rw [List.length_cons] at hl
    have j1 := hj j List.mem_cons_self
    obtain ⟨b1, l1, o6, o7, o8, o9, o10, hk1, e1⟩ := body_k hP hP2 (s1 := s1) (s4 := s4) (s6 := s6) (s7 := s7) (s8 := s8) (s9 := s9) (s10 := s10) (n := n) (by omega) hk b (k := 0 + (j : Int)) (by omega) (by omega)
    obtain ⟨b2', l2, p5, p6, p7, p8, p9, p10, hk2, e2⟩ := loop_k hP hP2 (s1 := s1) (s4 := s4) js (n + 1) l1 b1 (some (.sh (.int (0 + (j : Int))))) o6 o7 o8 o9 o10 (by omega) (fun j' h' => hj j' (List.mem_cons_of_mem _ h')) hk1
    refine ⟨b2', l2, p5, p6, p7, p8, p9, p10, ?_, ?_⟩
    · rw [List.length_cons]
      have e : n + (js.length + 1) = n + 1 + js.length := by omega
      rw [e]
      exact hk2
    · rw [List.map_cons, loop_cons (ρ1 := Rs P s1 (some (.sh (.int b))) (ow l) s4 (some (.sh (.int (0 + (j : Int))))) s6 s7 s8 s9 s10) rfl e1, e2]
/-- a drawn sum -/
structure Drwn (P : List Str) (l : Sm) : Prop where
  ma : MarkS l
  le : l.length ≤ 3
  fi : ∀ p ∈ l, FinK P p.1
  hi : ∀ p ∈ l, p.2 ≤ 60000000000000000000000000000000000000000
noncomputable def fSum (t : Adr) : List D → M D := viaD 2 fun ds => fnRes (den_law_sum t (fMix t) (rho0 N_law_sum ds))
theorem sum_sp (t : Adr) {P : List Str} (hP : 0 < P.length) (hP2 : P.length ≤ 100) (c : Int) : ∃ l : Sm, Drwn P l ∧ fSum t [.lst (P.map D.str), .int c] = ok (sD l) := by
  obtain ⟨b, hb, eb⟩ := mix_sp t c
  obtain ⟨i, hi⟩ : ∃ i : Nat, b % 4 = (i : Int) := ⟨(b % 4).toNat, by omega⟩
  have hi4 : i ≤ 3 := by omega
  obtain ⟨b', l, o5, o6, o7, o8, o9, o10, hk, hlp⟩ := loop_k hP hP2 (s1 := some (.sh (.int c))) (s4 := some (.sh (.int (i : Int)))) (List.range i) 0 [] (b / 4) none none none none none none (by rw [List.length_range]; omega) (fun j hj => by have := List.mem_range.mp hj; omega) ⟨.nil, Nat.le_refl _, (fun q hq => nomatch hq), (fun q hq => nomatch hq), (fun q hq => nomatch hq)⟩
  rw [List.length_range, Nat.zero_add] at hk
  have ll : l.length ≤ 3 := Nat.le_trans hk.le hi4
  have mem : ∀ p ∈ srtP l, p ∈ l := fun p hp => (srtP_perm l).mem_iff.mp hp
  refine ⟨srtP l, ⟨⟨srtP_keys hk.nd, fun p hp => FinK.pair (hk.fi p (mem p hp)), fun p hp => hk.po p (mem p hp)⟩, by rw [srtP_len]; exact ll, fun p hp => hk.fi p (mem p hp), fun p hp => ?_⟩, viaD_of rfl ?_⟩
  · have := hk.hi p (mem p hp)
    have : (i : Int) ≤ 3 := by omega
    omega
  have e0 : rho0 N_law_sum [.lst (P.map D.str), .int c] = Rs P (some (.sh (.int c))) none none none none none none none none none := rfl
  rw [e0]
  unfold den_law_sum
  have a2 : app (fMix t) (aCons (look 1) aNil) (Rs P (some (.sh (.int c))) none none none none none none none none none) = ok (.int b) := (app_ok (aCons_ok (d := .int c) rfl aNil_ok)).trans eb
  rw [sSeq_nx (sSet_imm a2 rfl)]
  have n3 : sNewT 3 (Rs P (some (.sh (.int c))) (some (.sh (.int b))) none none none none none none none none) = some (.nx (Rs P (some (.sh (.int c))) (some (.sh (.int b))) (ow []) none none none none none none none)) := rfl
  show fnRes (sSeq _ _ (Rs P (some (.sh (.int c))) (some (.sh (.int b))) none none none none none none none none)) = _
  rw [sSeq_nx n3]
  have m4 : b2 gMod (look 2) (con (.int 4)) (Rs P (some (.sh (.int c))) (some (.sh (.int b))) (ow []) none none none none none none none) = ok (.int (i : Int)) := by rw [← hi]; exact mod_ok (i := b) rfl rfl (by decide)
  rw [sSeq_nx (sSet_imm m4 rfl)]
  show fnRes (sSeq _ _ (Rs P (some (.sh (.int c))) (some (.sh (.int b))) (ow []) (some (.sh (.int (i : Int)))) none none none none none none)) = _
  rw [sSeq_nx (sSet_imm (fdiv_ok (i := b) rfl rfl (by decide) (by decide)) rfl)]
  have f5 : sForR1 (look 4) (gN 5) bodyK (Rs P (some (.sh (.int c))) (some (.sh (.int (b / 4)))) (ow []) (some (.sh (.int (i : Int)))) none none none none none none) = some (.nx (Rs P (some (.sh (.int c))) (some (.sh (.int b'))) (ow l) (some (.sh (.int (i : Int)))) o5 o6 o7 o8 o9 o10)) := by
    rw [forR1_ok rfl (by omega)]
    exact hlp
  show fnRes (sSeq (sForR1 (look 4) (gN 5) bodyK) _ (Rs P (some (.sh (.int c))) (some (.sh (.int (b / 4)))) (ow []) (some (.sh (.int (i : Int)))) none none none none none none)) = _
  rw [sSeq_nx f5]
  rw [sSeq_rt (sRet_ok (f1_ok (g := toT) (srtI_ok (i := 3) (l := l) rfl (by omega)) rfl))]
  rfl
end K09

set_option Elab.async false
set_option linter.all false
set_option maxRecDepth 100000
set_option maxHeartbeats 4000000
namespace K09
open PySem PySem.Spec PyProof.Rows L2 L2.PU
noncomputable def mP (t : Adr) : Addr → Option (List D → M D) := fun C => if C = t.C_Sums then some (fPlus t) else none
noncomputable def mT (t : Adr) : Addr → Option (List D → M D) := fun C => if C = t.C_Sums then some (fTimes t) else none
noncomputable def mI (t : Adr) : Addr → Option (List D → M D) := fun C => if C = t.C_Sums then some (fMark t) else none
section
variable {P : Program} {w : World} {K : PySem.W.Frag} {mg : Str → Option Value} {base : Heap} {t : Adr}
theorem mP_ok (X : Txt K mg t) (n : Nat) : ∀ C F, mP t C = some F → Mth P w K mg base (n + 1) C "plus" F := fun C F h => by
  unfold mP at h
  split at h
  · rename_i e; cases h; rw [e]; exact ok_Sums_plus X viaD_len viaD_q
  · cases h
theorem mT_ok (X : Txt K mg t) (n : Nat) : ∀ C F, mT t C = some F → Mth P w K mg base (n + 1) C "times" F := fun C F h => by
  unfold mT at h
  split at h
  · rename_i e; cases h; rw [e]; exact ok_Sums_times X viaD_len viaD_q
  · cases h
theorem mI_ok (X : Txt K mg t) (n : Nat) : ∀ C F, mI t C = some F → Mth P w K mg base (n + 3) C "is_mark" F := fun C F h => by
  unfold mI at h
  split at h
  · rename_i e; cases h; rw [e]
    exact ok_Sums_is_mark X (k := n + 2) (ok_always_rises X (k := n + 1) viaD_len viaD_q) (ok_is_entry X (k := n + 1) (ok_is_texts X (k := n) viaD_len viaD_q) (ok_is_whole X (k := n) viaD_len viaD_q) (ok_never_falls X (k := n) viaD_len viaD_q) viaD_len viaD_q) viaD_len viaD_q
  · cases h
end
theorem acc_len : ∀ (c l : Sm), (accS c l).length ≤ l.length + c.length
  | [], l => Nat.le_refl _
  | p :: c, l => by
    have := acc_len c (addP l p)
    have := addP_len l p
    rw [List.length_cons]
    show (accS c (addP l p)).length ≤ _
    omega
theorem same_two {k : Nat} {x : D} (hp : x.pl = true) (hd : x.dep + 1 < k) : fSame k [.tup [x, x], .tup [x, x]] = ok (.bl true) :=
  fSame_self (by simp [D.pl, plL, hp]) (by show max x.dep (max x.dep 0) + 1 < k; omega)
theorem mulB_big {i j : Int} (h1 : 1 ≤ i) (h2 : i ≤ 60000000000000000000000000000000000000000) (h3 : 1 ≤ j) (h4 : j ≤ 60000000000000000000000000000000000000000) : mulB i j = true := by
  have q : ∀ z : Int, 1 ≤ z → z ≤ 60000000000000000000000000000000000000000 → z.natAbs < 2 ^ 1048576 := fun z a b => pow_line (m := 200) (by omega) (by decide)
  exact mulB_of (q i h1 h2) (q j h3 h4)
noncomputable def sLawS : List D → Prop := fun ds => ∃ ns : List Int, ds = [.lst (ns.map D.int)] ∧ ns.length ≤ 63
noncomputable abbrev Rl (ns : List Int) (s1 s2 s3 s4 s5 s6 s7 s8 s9 : Option SV) : Rho := [some (.sh (.lst (ns.map D.int))), s1, s2, s3, s4, s5, s6, s7, s8, s9]
theorem cut24 {ns : List Int} : ∃ cs : List Int, L2.PU.cutD (ns.map D.int) none (some ((24 : Nat) : Int)) = cs.map D.int := by
  unfold L2.PU.cutD
  rw [HT.sIx_none, HT.sIx_nat, ← List.map_drop, ← List.map_take]
  exact ⟨_, rfl⟩
section
variable {t : Adr} {a b : Sm} {f : Rho → M D} {g : Rho → M (List D)} {ρ : Rho}
theorem w_plus (na : (kys a).Nodup) (ha : a.length ≤ 1000) (hb : b.length ≤ 1000) (hl : (accS b a).length < 64) (h1 : f ρ = ok (oSums t)) (h2 : g ρ = ok [sD a, sD b]) : appM "plus" (mP t) f g ρ = ok (sD (plusF a b)) :=
  (appM_ok (C := t.C_Sums) h1 (if_pos rfl) rfl h2).trans (plus_sp t na ha hb hl)
theorem w_times (hl : a.length * b.length < 64) (hm : ∀ p ∈ a, ∀ q ∈ b, p.1.length + q.1.length < 64 ∧ mulB p.2 q.2 = true) (h1 : f ρ = ok (oSums t)) (h2 : g ρ = ok [sD a, sD b]) : appM "times" (mT t) f g ρ = ok (sD (timesF a b)) :=
  (appM_ok (C := t.C_Sums) h1 (if_pos rfl) rfl h2).trans (times_sp t hl hm)
theorem w_mark (hl : a.length ≤ 1000) (hk : ∀ p ∈ a, p.1.length ≤ 1000) (hm : MarkS a) (h1 : f ρ = ok (oSums t)) (h2 : g ρ = ok [sD a]) : appM "is_mark" (mI t) f g ρ = ok (.bl true) :=
  (appM_ok (C := t.C_Sums) h1 (if_pos rfl) rfl h2).trans (mark_sp t hl hk hm)
end
theorem Drwn.len {P : List Str} {l : Sm} (h : Drwn P l) : ∀ p ∈ l, p.1.length ≤ 3 := fun p hp => FinK.len (h.fi p hp)
theorem Drwn.mul {P : List Str} {a b : Sm} (ha : Drwn P a) (hb : Drwn P b) : ∀ p ∈ a, ∀ q ∈ b, p.1.length + q.1.length < 64 ∧ mulB p.2 q.2 = true := fun p hp q hq =>
  ⟨by have := ha.len p hp; have := hb.len q hq; omega, mulB_big (ha.ma.po p hp) (ha.hi p hp) (hb.ma.po q hq) (hb.hi q hq)⟩
noncomputable def bodyL (t : Adr) : Rho → Option Out := (sSeq (sSet 7 (app (fSum t) (aCons (look 2) (aCons (look 6) aNil))))
    (sSeq (sSet 8 (app (fLPlus t) (aCons (look 3) (aCons (look 7) aNil))))
    (sSeq (sSet 9 (app (fLTimes t) (aCons (look 3) (aCons (look 7) aNil))))
    (sSeq (sIf (notB (test (app (fSame 8) (aCons (mkT (aCons (appM "plus" (mP t) (look 1) (aCons (look 3) (aCons (look 7) aNil))) (aCons (appM "plus" (mP t) (look 1) (aCons (look 7) (aCons (look 3) aNil))) aNil))) (aCons (mkT (aCons (look 8) (aCons (look 8) aNil))) aNil))))) (sSeq (sRet (con (.bl false)))
    sNil) sNil)
    (sSeq (sIf (notB (test (app (fSame 8) (aCons (mkT (aCons (appM "times" (mT t) (look 1) (aCons (look 3) (aCons (look 7) aNil))) (aCons (appM "times" (mT t) (look 1) (aCons (look 7) (aCons (look 3) aNil))) aNil))) (aCons (mkT (aCons (look 9) (aCons (look 9) aNil))) aNil))))) (sSeq (sRet (con (.bl false)))
    sNil) sNil)
    (sSeq (sIf (orB (notB (test (appM "is_mark" (mI t) (look 1) (aCons (look 8) aNil)))) (orB (notB (test (appM "is_mark" (mI t) (look 1) (aCons (look 9) aNil)))) (notB (test (appM "is_mark" (mI t) (look 1) (aCons (look 7) aNil)))))) (sSeq (sRet (con (.bl false)))
    sNil) sNil)
    (sSeq (sSet 4 (appM "plus" (mP t) (look 1) (aCons (look 4) (aCons (look 7) aNil))))
    (sSeq (sSet 5 (app (fLPlus t) (aCons (look 5) (aCons (look 7) aNil))))
    (sSeq (sSet 3 (look 7))
    sNil)))))))))
/-- all put together so far -/
structure Acc (P : List Str) (l : Sm) : Prop where
  ma : MarkS l
  fi : ∀ p ∈ l, FinK P p.1
theorem Acc.plus {P : List Str} {a b : Sm} (ha : Acc P a) (hb : Drwn P b) : Acc P (plusF a b) := ⟨plus_mark ha.ma hb.ma, fun p hp => by
  rcases (plus_mem ha.ma.nd hp).1 with h | h
  · obtain ⟨q, hq, e⟩ := List.mem_map.mp h; rw [← e]; exact ha.fi q hq
  · obtain ⟨q, hq, e⟩ := List.mem_map.mp h; rw [← e]; exact hb.fi q hq⟩
theorem body_ok (t : Adr) {ns : List Int} {P : List Str} (hP : P.length = 4) {a l : Sm} (ha : Drwn P a) (hl : Acc P l) (c : Int) (s7 s8 s9 : Option SV) : ∃ (a' l' : Sm) (u v w : D), Drwn P a' ∧ Acc P l' ∧
    bodyL t (Rl ns (some (.sh (oSums t))) (some (.sh (.lst (P.map D.str)))) (some (.sh (sD a))) (some (.sh (sD l))) (some (.sh (sD l))) (some (.sh (.int c))) s7 s8 s9) = some (.nx (Rl ns (some (.sh (oSums t))) (some (.sh (.lst (P.map D.str)))) (some (.sh (sD a'))) (some (.sh (sD l'))) (some (.sh (sD l'))) (some (.sh (.int c))) (some (.sh u)) (some (.sh v)) (some (.sh w)))) := by
  obtain ⟨b, hb, es⟩ := sum_sp t (P := P) (by omega) (by omega) c
  have hpl := hl.plus hb
  have a3 := ha.le
  have b3 := hb.le
  have l35 := fin_bound hP hl.ma.nd hl.fi
  have p35 := fin_bound hP hpl.ma.nd hpl.fi
  have ac1 := acc_len b a
  have ac2 := acc_len a b
  have acl : (accS b l).length < 64 := by
    have : (plusF l b).length = (accS b l).length := srtP_len _
    omega
  have ab : a.length * b.length < 64 := Nat.lt_of_le_of_lt (Nat.mul_le_mul a3 b3) (by decide)
  have ba : b.length * a.length < 64 := Nat.lt_of_le_of_lt (Nat.mul_le_mul b3 a3) (by decide)
  have mp := plus_mark ha.ma hb.ma
  have mt := times_mark ha.ma.po hb.ma.po
  have lp : ∀ p ∈ plusF a b, p.1.length ≤ 1000 := fun p hp => by
    rcases (plus_mem ha.ma.nd hp).1 with h | h
    · obtain ⟨q, hq, e⟩ := List.mem_map.mp h; rw [← e]; have := ha.len q hq; omega
    · obtain ⟨q, hq, e⟩ := List.mem_map.mp h; rw [← e]; have := hb.len q hq; omega
  have lt' : ∀ p ∈ timesF a b, p.1.length ≤ 1000 := fun p hp => by
    obtain ⟨x, hx, y, hy, e⟩ := times_key hp
    rw [e, (srtS_perm _).length_eq, List.length_append]
    have := ha.len x hx
    have := hb.len y hy
    omega
  have np : (plusF a b).length ≤ 1000 := by
    have : (plusF a b).length = (accS b a).length := srtP_len _
    omega
  have nt : (timesF a b).length ≤ 1000 := by
    have e : (timesF a b).length = (accS (prodC a b) []).length := srtP_len _
    have e2 := acc_len (prodC a b) []
    have e3 : (prodC a b).length = a.length * b.length := by
      unfold prodC
      rw [List.length_flatMap]
      have : (a.map fun p => (b.map fun q => (srtS (p.1 ++ q.1), p.2 * q.2)).length) = a.map fun _ => b.length := List.map_congr_left fun p _ => List.length_map _
      rw [this, List.map_const', List.sum_replicate_nat]
    rw [List.length_nil] at e2
    omega
  refine ⟨b, plusF l b, sD b, sD (plusF a b), sD (timesF a b), hb, hpl, ?_⟩
  unfold bodyL
  have e7 : app (fSum t) (aCons (look 2) (aCons (look 6) aNil)) (Rl ns (some (.sh (oSums t))) (some (.sh (.lst (P.map D.str)))) (some (.sh (sD a))) (some (.sh (sD l))) (some (.sh (sD l))) (some (.sh (.int c))) s7 s8 s9) = ok (sD b) :=
    (app_ok (aCons_ok (d := .lst (P.map D.str)) rfl (aCons_ok (d := .int c) rfl aNil_ok))).trans es
  rw [sSeq_nx (sSet_imm e7 (sD_imm b))]
  show sSeq _ _ (Rl ns (some (.sh (oSums t))) (some (.sh (.lst (P.map D.str)))) (some (.sh (sD a))) (some (.sh (sD l))) (some (.sh (sD l))) (some (.sh (.int c))) (some (.sh (sD b))) s8 s9) = _
  have e8 : app (fLPlus t) (aCons (look 3) (aCons (look 7) aNil)) (Rl ns (some (.sh (oSums t))) (some (.sh (.lst (P.map D.str)))) (some (.sh (sD a))) (some (.sh (sD l))) (some (.sh (sD l))) (some (.sh (.int c))) (some (.sh (sD b))) s8 s9) = ok (sD (plusF a b)) :=
    (app_ok (aCons_ok (d := sD a) rfl (aCons_ok (d := sD b) rfl aNil_ok))).trans (lplus_sp t ha.ma.nd (by omega) (by omega) (by omega))
  rw [sSeq_nx (sSet_imm e8 (sD_imm _))]
  show sSeq _ _ (Rl ns (some (.sh (oSums t))) (some (.sh (.lst (P.map D.str)))) (some (.sh (sD a))) (some (.sh (sD l))) (some (.sh (sD l))) (some (.sh (.int c))) (some (.sh (sD b))) (some (.sh (sD (plusF a b)))) s9) = _
  have e9 : app (fLTimes t) (aCons (look 3) (aCons (look 7) aNil)) (Rl ns (some (.sh (oSums t))) (some (.sh (.lst (P.map D.str)))) (some (.sh (sD a))) (some (.sh (sD l))) (some (.sh (sD l))) (some (.sh (.int c))) (some (.sh (sD b))) (some (.sh (sD (plusF a b)))) s9) = ok (sD (timesF a b)) :=
    (app_ok (aCons_ok (d := sD a) rfl (aCons_ok (d := sD b) rfl aNil_ok))).trans (ltimes_sp t ab (ha.mul hb))
  rw [sSeq_nx (sSet_imm e9 (sD_imm _))]
  show sSeq _ _ (Rl ns (some (.sh (oSums t))) (some (.sh (.lst (P.map D.str)))) (some (.sh (sD a))) (some (.sh (sD l))) (some (.sh (sD l))) (some (.sh (.int c))) (some (.sh (sD b))) (some (.sh (sD (plusF a b)))) (some (.sh (sD (timesF a b))))) = _
  generalize hρ : Rl ns (some (.sh (oSums t))) (some (.sh (.lst (P.map D.str)))) (some (.sh (sD a))) (some (.sh (sD l))) (some (.sh (sD l))) (some (.sh (.int c))) (some (.sh (sD b))) (some (.sh (sD (plusF a b)))) (some (.sh (sD (timesF a b)))) = ρ
  have l1 : look 1 ρ = ok (oSums t) := by rw [← hρ]; rfl
  have l3 : look 3 ρ = ok (sD a) := by rw [← hρ]; rfl
  have l4 : look 4 ρ = ok (sD l) := by rw [← hρ]; rfl
  have l7 : look 7 ρ = ok (sD b) := by rw [← hρ]; rfl
  have l8 : look 8 ρ = ok (sD (plusF a b)) := by rw [← hρ]; rfl
  have l9 : look 9 ρ = ok (sD (timesF a b)) := by rw [← hρ]; rfl
  have p1 := w_plus ha.ma.nd (by omega) (by omega) (by omega) l1 (aCons_ok l3 (aCons_ok l7 aNil_ok))
  have p2 := w_plus hb.ma.nd (by omega) (by omega) (by omega) l1 (aCons_ok l7 (aCons_ok l3 aNil_ok))
  rw [plus_comm hb.ma.nd ha.ma.nd] at p2
  have q1 := w_times ab (ha.mul hb) l1 (aCons_ok l3 (aCons_ok l7 aNil_ok))
  have q2 := w_times ba (hb.mul ha) l1 (aCons_ok l7 (aCons_ok l3 aNil_ok))
  rw [times_comm b a] at q2
  have k1 : app (fSame 8) (aCons (mkT (aCons (appM "plus" (mP t) (look 1) (aCons (look 3) (aCons (look 7) aNil))) (aCons (appM "plus" (mP t) (look 1) (aCons (look 7) (aCons (look 3) aNil))) aNil))) (aCons (mkT (aCons (look 8) (aCons (look 8) aNil))) aNil)) ρ = ok (.bl true) := by
    rw [app_ok (aCons_ok (mkT_ok (aCons_ok p1 (aCons_ok p2 aNil_ok))) (aCons_ok (mkT_ok (aCons_ok l8 (aCons_ok l8 aNil_ok))) aNil_ok))]
    exact same_two (sD_pl lp np) (by have := sD_dep (plusF a b); omega)
  have k2 : app (fSame 8) (aCons (mkT (aCons (appM "times" (mT t) (look 1) (aCons (look 3) (aCons (look 7) aNil))) (aCons (appM "times" (mT t) (look 1) (aCons (look 7) (aCons (look 3) aNil))) aNil))) (aCons (mkT (aCons (look 9) (aCons (look 9) aNil))) aNil)) ρ = ok (.bl true) := by
    rw [app_ok (aCons_ok (mkT_ok (aCons_ok q1 (aCons_ok q2 aNil_ok))) (aCons_ok (mkT_ok (aCons_ok l9 (aCons_ok l9 aNil_ok))) aNil_ok))]
    exact same_two (sD_pl lt' nt) (by have := sD_dep (timesF a b); omega)
  have m1 := w_mark np lp mp l1 (aCons_ok l8 aNil_ok)
  have m2 := w_mark nt lt' mt l1 (aCons_ok l9 aNil_ok)
  have m3 := w_mark (a := b) (by omega) (fun p hp => by have := hb.len p hp; omega) hb.ma l1 (aCons_ok l7 aNil_ok)
  rw [sSeq_nx (pass_not k1), sSeq_nx (pass_not k2)]
  rw [sSeq_nx ((sIf_f (orB_ok (notB_ok (test_ok m1 rfl)) (orB_ok (notB_ok (test_ok m2 rfl)) (notB_ok (test_ok m3 rfl))))).trans rfl)]
  have p4 := w_plus (t := t) hl.ma.nd (by omega) (by omega) acl l1 (aCons_ok l4 (aCons_ok l7 aNil_ok))
  rw [sSeq_nx (sSet_imm p4 (sD_imm _)), ← hρ]
  show sSeq _ _ (Rl ns (some (.sh (oSums t))) (some (.sh (.lst (P.map D.str)))) (some (.sh (sD a))) (some (.sh (sD (plusF l b)))) (some (.sh (sD l))) (some (.sh (.int c))) (some (.sh (sD b))) (some (.sh (sD (plusF a b)))) (some (.sh (sD (timesF a b))))) = _
  have e5 : app (fLPlus t) (aCons (look 5) (aCons (look 7) aNil)) (Rl ns (some (.sh (oSums t))) (some (.sh (.lst (P.map D.str)))) (some (.sh (sD a))) (some (.sh (sD (plusF l b)))) (some (.sh (sD l))) (some (.sh (.int c))) (some (.sh (sD b))) (some (.sh (sD (plusF a b)))) (some (.sh (sD (timesF a b))))) = ok (sD (plusF l b)) :=
    (app_ok (aCons_ok (d := sD l) rfl (aCons_ok (d := sD b) rfl aNil_ok))).trans (lplus_sp t hl.ma.nd (by omega) (by omega) acl)
  rw [sSeq_nx (sSet_imm e5 (sD_imm _))]
  rw [sSeq_nx (sSet_imm (d := sD b) rfl (sD_imm _))]
  rfl
theorem law_den {K : PySem.W.Frag} {mg : Str → Option Value} {t : Adr} (X : Txt K mg t) : ∀ ds r, tt sLawS ds = some r → ∃ d, r = .ok d ∧ fnRes (den_law t fAt fName (fLPlus t) (fSame 8) (fSum t) (fLTimes t) iSums (mI t) (mP t) (mT t) (rho0 N_law ds)) = ok d := by
  intro ds r hr
  obtain ⟨hS, e⟩ := tt_inv hr
  clear hr
  subst e
  obtain ⟨ns, rfl, hns⟩ := hS
  refine ⟨_, rfl, ?_⟩
  have e0 : rho0 N_law [.lst (ns.map D.int)] = Rl ns none none none none none none none none none := rfl
  rw [e0]
  unfold den_law
  have o1 : mkO t.C_Sums iSums [] = ok (oSums t) := by unfold mkO iSums; rw [if_pos rfl]; rfl
  rw [sSeq_nx (sSet_any (f := fun _ => mkO t.C_Sums iSums []) o1 rfl)]
  show fnRes (sSeq _ _ (Rl ns (some (.sh (oSums t))) none none none none none none none none)) = _
  have f0 : fld (cs t) "nought" (look 1) (Rl ns (some (.sh (oSums t))) none none none none none none none none) = ok (sD []) := fld_ok (C := t.C_Sums) rfl (cs5 t) rfl
  have f1' : fld (cs t) "one" (look 1) (Rl ns (some (.sh (oSums t))) none none none none none none none none) = ok (sD [([], 1)]) := fld_ok (C := t.C_Sums) rfl (cs5 t) rfl
  have k1 : app (fSame 8) (aCons (mkT (aCons (fld (cs t) "nought" (look 1)) (aCons (fld (cs t) "one" (look 1)) aNil))) (aCons (mkT (aCons (mkT aNil) (aCons (mkT (aCons (mkT (aCons (mkT aNil) (aCons (con (.int 1)) aNil))) aNil)) aNil))) aNil)) (Rl ns (some (.sh (oSums t))) none none none none none none none none) = ok (.bl true) := by
    have b1 : mkT (aCons (mkT aNil) (aCons (mkT (aCons (mkT (aCons (mkT aNil) (aCons (con (.int 1)) aNil))) aNil)) aNil)) (Rl ns (some (.sh (oSums t))) none none none none none none none none) = ok (.tup [sD [], sD [([], 1)]]) := rfl
    rw [app_ok (aCons_ok (mkT_ok (aCons_ok f0 (aCons_ok f1' aNil_ok))) (aCons_ok b1 aNil_ok))]
    exact fSame_self rfl (by decide)
  rw [sSeq_nx (pass_not k1)]
  have hst : 0 ≤ atZ ns 0 % 2000 ∧ atZ ns 0 % 2000 < 2000 := by omega
  have n1 := names_ok (m := 1) (k := 10) (n := 4) (f := con (.int 4)) (ρ := Rl ns (some (.sh (oSums t))) none none none none none none none none) (fs := b2 gMod (app fAt (aCons (look 0) (aCons (con (.int 0)) aNil))) (con (.int 2000))) (st := atZ ns 0 % 2000) rfl (by omega) hst (fun v => mod_ok (at_app 0) rfl (by decide)) (Nat.lt_succ_self 10)
  rw [sSeq_nx (sSet_any n1 rfl)]
  have hP : (nms 4 (atZ ns 0 % 2000)).length = 4 := nms_len _ _
  generalize nms 4 (atZ ns 0 % 2000) = P at hP ⊢
  show fnRes (sSeq _ _ (Rl ns (some (.sh (oSums t))) (some (.sh (.lst (P.map D.str)))) none none none none none none none)) = _
  obtain ⟨a, ha, ea⟩ := sum_sp t (P := P) (by omega) (by omega) (atZ ns 1)
  have e3 : app (fSum t) (aCons (look 2) (aCons (app fAt (aCons (look 0) (aCons (con (.int 1)) aNil))) aNil)) (Rl ns (some (.sh (oSums t))) (some (.sh (.lst (P.map D.str)))) none none none none none none none) = ok (sD a) :=
    (app_ok (aCons_ok (d := .lst (P.map D.str)) rfl (aCons_ok (at_app 1) aNil_ok))).trans ea
  rw [sSeq_nx (sSet_imm e3 (sD_imm _))]
  show fnRes (sSeq _ _ (Rl ns (some (.sh (oSums t))) (some (.sh (.lst (P.map D.str)))) (some (.sh (sD a))) none none none none none none)) = _
  have f4 : fld (cs t) "nought" (look 1) (Rl ns (some (.sh (oSums t))) (some (.sh (.lst (P.map D.str)))) (some (.sh (sD a))) none none none none none none) = ok (sD []) := fld_ok (C := t.C_Sums) rfl (cs5 t) rfl
  rw [sSeq_nx (sSet_imm f4 (sD_imm _))]
  rw [sSeq_nx (sSet_imm (d := sD []) rfl (sD_imm _))]
  show fnRes (sSeq (sForE (cut3 (look 0) oNone (oPart (con (.int 24)))) (gN 6) (bodyL t)) _ (Rl ns (some (.sh (oSums t))) (some (.sh (.lst (P.map D.str)))) (some (.sh (sD a))) (some (.sh (sD []))) (some (.sh (sD []))) none none none none)) = _
  obtain ⟨cs', hcs⟩ := cut24 (ns := ns)
  have c1 : cut3 (look 0) oNone (oPart (con (.int 24))) (Rl ns (some (.sh (oSums t))) (some (.sh (.lst (P.map D.str)))) (some (.sh (sD a))) (some (.sh (sD []))) (some (.sh (sD []))) none none none none) = ok (.lst (cs'.map D.int)) := by
    rw [← hcs]
    rfl
  obtain ⟨ρ', lp, a', l', o6, o7, o8, o9, rfl, ha', hl'⟩ := loop_inv0 (G := gN 6) (F := bodyL t) (fun _ ρ => ∃ (a l : Sm) (o6 o7 o8 o9 : Option SV), ρ = Rl ns (some (.sh (oSums t))) (some (.sh (.lst (P.map D.str)))) (some (.sh (sD a))) (some (.sh (sD l))) (some (.sh (sD l))) o6 o7 o8 o9 ∧ Drwn P a ∧ Acc P l) (cs'.map D.int)
    (Rl ns (some (.sh (oSums t))) (some (.sh (.lst (P.map D.str)))) (some (.sh (sD a))) (some (.sh (sD []))) (some (.sh (sD []))) none none none none) ⟨a, [], none, none, none, none, rfl, ha, ⟨.nil, (fun _ h => nomatch h), (fun _ h => nomatch h)⟩, (fun _ h => nomatch h)⟩ (fun p d p' ρ e hI => by
      obtain ⟨a, l, o6, o7, o8, o9, rfl, ha, hl⟩ := hI
      have hdm : d ∈ cs'.map D.int := by rw [e]; exact List.mem_append_right _ List.mem_cons_self
      obtain ⟨c, _, rfl⟩ := List.mem_map.mp hdm
      obtain ⟨a', l', u, v, w, ha', hl', hb⟩ := body_ok t (ns := ns) hP ha hl c o7 o8 o9
      exact ⟨_, _, rfl, .inl hb, a', l', _, _, _, _, rfl, ha', hl'⟩)
  have s9 : sForE (cut3 (look 0) oNone (oPart (con (.int 24)))) (gN 6) (bodyL t) (Rl ns (some (.sh (oSums t))) (some (.sh (.lst (P.map D.str)))) (some (.sh (sD a))) (some (.sh (sD []))) (some (.sh (sD []))) none none none none) = some (.nx (Rl ns (some (.sh (oSums t))) (some (.sh (.lst (P.map D.str)))) (some (.sh (sD a'))) (some (.sh (sD l'))) (some (.sh (sD l'))) o6 o7 o8 o9)) := by
    rw [sForE_ok c1 rfl]
    exact lp
  rw [sSeq_nx s9]
  have l35 := fin_bound hP hl'.ma.nd hl'.fi
  have k9 : app (fSame 8) (aCons (look 4) (aCons (look 5) aNil)) (Rl ns (some (.sh (oSums t))) (some (.sh (.lst (P.map D.str)))) (some (.sh (sD a'))) (some (.sh (sD l'))) (some (.sh (sD l'))) o6 o7 o8 o9) = ok (.bl true) := by
    rw [app_ok (aCons_ok (d := sD l') rfl (aCons_ok (d := sD l') rfl aNil_ok))]
    exact fSame_self (sD_pl (fun p hp => by have := FinK.len (hl'.fi p hp); omega) (by omega)) (by have := sD_dep l'; omega)
  rw [sSeq_rt (sRet_ok k9)]
  rfl
section
variable {P : Program} {w : World} {K : PySem.W.Frag} {mg : Str → Option Value} {base : Heap} {t : Adr}
theorem same_ok (X : Txt K mg t) : ∀ k, Def P w K mg base k "_law_same" (fSame k)
  | 0 => by
    obtain ⟨fd, Fu, bi⟩ := X.F_law_same
    exact ⟨_, _, _, X.g_law_same, Fu.kp, bi, fSame_len 0, fn_none fSame_zero⟩
  | k + 1 => ok_law_same X (same_ok X k) (fSame_len _) (same_den N_law_same rfl)
theorem law_fn (X : Txt K mg t) {fd : FuncData} (Fu : Fun K "law" "law" s_law t.f_law fd) : FnD P w K mg base 9 t.f_law fd ["_law_script"] (tt sLawS) :=
  fnd_law X Fu (k := 8) (k' := 5) (by decide) (ok_law_at X (k := 7) fAt_len (at_den N_law_at rfl)) (ok_law_name X (k := 7) fName_len (name_den N_law_name rfl)) (ok_law_plus X (k := 7) (ok_law_sorted X (k := 6) viaD_len viaD_q) viaD_len viaD_q) (same_ok X 8) (ok_law_sum X (k := 7) (ok_law_mix X (k := 6) viaD_len viaD_q) viaD_len viaD_q)
    (ok_law_times X (k := 7) (ok_law_sorted X (k := 6) viaD_len viaD_q) viaD_len viaD_q) (ok_Sums___init__ X (k := 4) iSums_len (sums_ini t)) (mI_ok X 5) (mP_ok X 7) (mT_ok X 7)
    (by intro ds r h; obtain ⟨ns, rfl, _⟩ := (tt_inv h).1; rfl) (law_den X)
end
end K09

set_option Elab.async false
set_option linter.all false
set_option maxRecDepth 100000
set_option maxHeartbeats 4000000
namespace K09
open PySem PySem.W L2 L2.HD
/-- what the top leaves -/
noncomputable def frag : Params → Frag := fun P =>
  (nat_lit 2, ⟨.none, none, .dict #[] 0, #[]⟩) ::
  (nat_lit 3, od 24 [de P "__name__" 165 (vs "law_whence_k09_sums" 286),
   de P "__doc__" 166 .none,
   de P "__package__" 167 .none,
   de P "__loader__" 168 (.builtin "__main__.__loader__#opaque"),
   de P "__spec__" 169 .none,
   de P "__annotations__" 170 (.ref 6),
   de P "__builtins__" 171 (.ref 4),
   de P "__file__" 173 (vs "/claim/cut.py" 172),
   de P "__cached__" 174 .none,
   de P "is_whole" 196 (.ref 21),
   de P "is_texts" 202 (.ref 26),
   de P "never_falls" 208 (.ref 31),
   de P "always_rises" 214 (.ref 36),
   de P "Sums" 278 (.ref 72),
   de P "is_entry" 285 (.ref 83),
   de P "_law_at" 295 (.ref 90),
   de P "_law_same" 304 (.ref 97),
   de P "_law_mix" 311 (.ref 104),
   de P "_law_name" 320 (.ref 111),
   de P "_law_sum" 337 (.ref 118),
   de P "_law_sorted" 344 (.ref 125),
   de P "_law_plus" 355 (.ref 132),
   de P "_law_times" 369 (.ref 139),
   de P "law" 375 (.ref 144)]) ::
  (nat_lit 20, oc "is_whole" 189 "is_whole" 190 191 2 2 3 [(.ref 15), (.bool true), (vi 181), (.ref 16), .none, (.ref 17), (.ref 18), (.ref 19)] 194 2 195) ::
  (nat_lit 21, of "is_whole" "is_whole" (top 1) "whence.plain" 187 20) ::
  (nat_lit 25, oc "is_texts" 197 "is_texts" 198 199 4 1 3 [(.ref 22), (.bool true), (vi 181), (.ref 23), .none, .none, .none, (.ref 24)] 200 4 201) ::
  (nat_lit 26, of "is_texts" "is_texts" (top 2) "whence.plain" 187 25) ::
  (nat_lit 30, oc "never_falls" 203 "never_falls" 204 205 6 1 3 [(.ref 27), (.bool true), (vi 181), (.ref 28), .none, .none, .none, (.ref 29)] 206 6 207) ::
  (nat_lit 31, of "never_falls" "never_falls" (top 3) "whence.plain" 187 30) ::
  (nat_lit 35, oc "always_rises" 209 "always_rises" 210 211 8 1 3 [(.ref 32), (.bool true), (vi 181), (.ref 33), .none, .none, .none, (.ref 34)] 212 8 213) ::
  (nat_lit 36, of "always_rises" "always_rises" (top 4) "whence.plain" 187 35) ::
  (nat_lit 49, oc "__init__" 229 "Sums.__init__" 230 231 13 1 3 [(.ref 44), (.bool true), (vi 181), (.ref 45), .none, (.ref 46), (.ref 47), (.ref 48)] 233 13 234) ::
  (nat_lit 50, of "__init__" "Sums.__init__" (inClass (top 6) 0) "whence.sums" 215 49) ::
  (nat_lit 56, oc "plus" 236 "Sums.plus" 237 238 17 3 3 [(.ref 51), (.bool true), (vi 181), (.ref 52), .none, (.ref 53), (.ref 54), (.ref 55)] 245 17 246) ::
  (nat_lit 57, of "plus" "Sums.plus" (inClass (top 6) 1) "whence.sums" 215 56) ::
  (nat_lit 63, oc "times" 248 "Sums.times" 249 250 23 3 3 [(.ref 58), (.bool true), (vi 181), (.ref 59), .none, (.ref 60), (.ref 61), (.ref 62)] 260 23 261) ::
  (nat_lit 64, of "times" "Sums.times" (inClass (top 6) 2) "whence.sums" 215 63) ::
  (nat_lit 68, oc "is_mark" 263 "Sums.is_mark" 264 265 31 2 3 [(.ref 65), (.bool true), (vi 181), (.ref 66), .none, .none, .none, (.ref 67)] 266 31 267) ::
  (nat_lit 69, of "is_mark" "Sums.is_mark" (inClass (top 6) 3) "whence.sums" 215 68) ::
  (nat_lit 71, od 4 [de P "__module__" 224 (vs "whence.sums" 215),
   de P "__firstlineno__" 228 (.int 11 227),
   de P "__init__" 235 (.ref 50),
   de P "plus" 247 (.ref 57),
   de P "times" 262 (.ref 64),
   de P "is_mark" 268 (.ref 69),
   de P "__static_attributes__" 271 (.ref 70),
   de P "__dict__" 273 (.ref 73),
   de P "__weakref__" 275 (.ref 74),
   de P "__doc__" 276 .none]) ::
  (nat_lit 72, ⟨(.type "type"), none, .cls ⟨"Sums", [(.type "object")], [(.ref 72), (.type "object")], 71, "Sums", true, [], [], false, none, false⟩, #[none, none, some (vs "Sums" 217), some (vs "Sums" 225), some (.builtin "object.__new__"), some (.bool true)]⟩) ::
  (nat_lit 73, ofd "getset_descriptor" [(vs "__dict__" 272), (.ref 72), (.builtin "function.__dict__"), (.builtin "function.__dict__#set")]) ::
  (nat_lit 74, ofd "getset_descriptor" [(vs "__weakref__" 274), (.ref 72), (.builtin "ExceptionGroup.__weakref__"), .none]) ::
  (nat_lit 82, oc "is_entry" 279 "is_entry" 280 281 35 1 3 [(.ref 77), (.bool true), (vi 181), (.ref 78), .none, (.ref 79), (.ref 80), (.ref 81)] 283 35 284) ::
  (nat_lit 83, of "is_entry" "is_entry" (top 7) "whence.sums" 215 82) ::
  (nat_lit 89, oc "_law_at" 288 "_law_at" 289 290 40 2 3 [(.ref 84), (.bool true), (vi 181), (.ref 85), .none, (.ref 86), (.ref 87), (.ref 88)] 293 40 294) ::
  (nat_lit 90, of "_law_at" "_law_at" (top 9) "law_whence_k09_sums" 286 89) ::
  (nat_lit 96, oc "_law_same" 296 "_law_same" 297 298 44 2 3 [(.ref 91), (.bool true), (vi 181), (.ref 92), .none, (.ref 93), (.ref 94), (.ref 95)] 302 44 303) ::
  (nat_lit 97, of "_law_same" "_law_same" (top 10) "law_whence_k09_sums" 286 96) ::
  (nat_lit 103, oc "_law_mix" 305 "_law_mix" 306 307 59 1 3 [(.ref 98), (.bool true), (vi 181), (.ref 99), .none, (.ref 100), (.ref 101), (.ref 102)] 309 59 310) ::
  (nat_lit 104, of "_law_mix" "_law_mix" (top 11) "law_whence_k09_sums" 286 103) ::
  (nat_lit 110, oc "_law_name" 312 "_law_name" 313 314 61 2 3 [(.ref 105), (.bool true), (vi 181), (.ref 106), .none, (.ref 107), (.ref 108), (.ref 109)] 318 61 319) ::
  (nat_lit 111, of "_law_name" "_law_name" (top 12) "law_whence_k09_sums" 286 110) ::
  (nat_lit 117, oc "_law_sum" 321 "_law_sum" 322 323 66 2 3 [(.ref 112), (.bool true), (vi 181), (.ref 113), .none, (.ref 114), (.ref 115), (.ref 116)] 335 66 336) ::
  (nat_lit 118, of "_law_sum" "_law_sum" (top 13) "law_whence_k09_sums" 286 117) ::
  (nat_lit 124, oc "_law_sorted" 338 "_law_sorted" 339 340 85 1 3 [(.ref 119), (.bool true), (vi 181), (.ref 120), .none, (.ref 121), (.ref 122), (.ref 123)] 342 85 343) ::
  (nat_lit 125, of "_law_sorted" "_law_sorted" (top 14) "law_whence_k09_sums" 286 124) ::
  (nat_lit 131, oc "_law_plus" 345 "_law_plus" 346 347 87 2 3 [(.ref 126), (.bool true), (vi 181), (.ref 127), .none, (.ref 128), (.ref 129), (.ref 130)] 353 87 354) ::
  (nat_lit 132, of "_law_plus" "_law_plus" (top 15) "law_whence_k09_sums" 286 131) ::
  (nat_lit 138, oc "_law_times" 356 "_law_times" 357 358 92 2 3 [(.ref 133), (.bool true), (vi 181), (.ref 134), .none, (.ref 135), (.ref 136), (.ref 137)] 367 92 368) ::
  (nat_lit 139, of "_law_times" "_law_times" (top 16) "law_whence_k09_sums" 286 138) ::
  (nat_lit 143, oc "law" 370 "law" 371 372 99 1 3 [(.ref 140), (.bool true), (vi 181), (.ref 141), .none, .none, .none, (.ref 142)] 373 99 374) ::
  (nat_lit 144, of "law" "law" (top 17) "law_whence_k09_sums" 286 143) :: []
noncomputable def fas : List Addr := [2, 3, 20, 21, 25, 26, 30, 31, 35, 36, 49, 50, 56, 57, 63, 64, 68, 69, 71, 72, 73, 74, 82, 83, 89, 90, 96, 97, 103, 104, 110, 111, 117, 118, 124, 125, 131, 132, 138, 139, 143, 144]
theorem fas_ok : ∀ P, fas = (frag P).map (·.1) := fun P => by kernel_rfl
noncomputable def vw : Program := view PySem.Challenge.pw_whence_k09_sums [1, 2, 3, 4, 6, 7, 9, 10, 11, 12, 13, 14, 15, 16, 17]
noncomputable abbrev hook : Hook := kHook frag fas fas_ok
set_option maxHeartbeats 0 in
theorem left : LeftO PySem.Challenge.pw_whence_k09_sums vw [] (fun s => xlAt vw [] s && recOk (RowW.records PySem.Challenge.rw_whence_k09_sums.row.toRowW) s) (Hook.obs hook) (Hook.val hook) 1672 := by
  refine left_of (boot_open (by kernel_rfl) (by decide +kernel) (fun s => by kernel_rfl)) fun w => ?_
  rw [Fast.te5923862056798008813, Fast.te4187177175401517315, Fast.te6613529449190102663, Fast.te10156331382660048174, Fast.te11892475500146522536, Fast.te14364793385576792824]
  kernel_rfl
end K09

set_option Elab.async false
set_option linter.all false
set_option maxRecDepth 100000
set_option maxHeartbeats 4000000
namespace K09
open PySem PySem.Spec PyProof.Rows L2 L2.PU
noncomputable def spLaw (K : PySem.W.Frag) : Sp := fun vs H Q _ => ∃ (a : Addr) (ns : List Int), vs = [.ref a] ∧ SqL K H a (ns.map V.int) ∧ ns.length ≤ 63 ∧ ∀ H', Q (.bl true) H'
theorem walk {l : PySem.W.OpenLaw} {q : Program} {loose : List Str} {XP : (Str → Option Value) → Heap → Prop} {YP : World → Heap → Prop} {d : DefRec} {K : Params → PySem.W.Frag} (hn : l.most = some 63) (hdf : d.params.defaults = []) (hnm : d.name = "law")
    (hY : ∀ (w : World) (h : Heap), YP w h → (K w.params).In h)
    (T : ∀ (w : World) (mg : Str → Option Value) (h : Heap), (K w.params).In h → h.Ns mainGlobals mg → ∃ t, Txt (K w.params) mg t) :
    PySem.W.WalkO q loose XP YP l.row.toRowW d [] (fun f vs => PySem.call f vs) := by
  refine L2.walk_of (n := 63) (k := 9) (x := "_law_script") (CX := fun w => CXD l.prog w) (sp := fun w => spLaw (K w.params)) hn (by decide) hdf ⟨rfl, by decide, by decide⟩ hY (fun w mg fa h KX G hmg => ?_) (fun _ _ a ns hl _ hS => ⟨a, ns, rfl, hS, hl, fun _ => rfl⟩) (fun w H s e s' ⟨_, _, _, _, _, _, _, _, z⟩ => z)
  obtain ⟨t, T⟩ := T w mg h KX G
  have e := hmg.symm.trans ((congrArg mg hnm).trans T.g_law)
  cases e
  obtain ⟨fd, Fu, bi⟩ := T.F_law
  refine ⟨fd, fun s v => ?_, fun base _ _ => ?_⟩
  · obtain ⟨oc, od, kV, doc, pm, an, cdv, ct, osl, rfl, lk, hcd⟩ := Fu.ex
    exact .of_eq rfl
  · refine (law_fn (P := l.prog) (w := w) (base := base) T Fu).imp fun vs H Q E ⟨a, ns, e1, hS, hl, q⟩ => ?_
    subst e1
    refine ⟨[.lst (ns.map D.int)], .cons (.lst hS (isL_ints ns)) .nil, rfl, ?_⟩
    rw [tt_ok (show sLawS _ from ⟨ns, rfl, hl⟩)]
    intro v H' s' i'
    cases i'
    exact q H'
end K09
open PySem PySem.W PyProof.Rows
set_option maxRecDepth 100000 in
set_option maxHeartbeats 0 in
theorem PySem.Challenge.cw_whence_k09_sums_holds : PySem.Challenge.rw_whence_k09_sums.Holds := by
  w_on; o_law
  refine L2.HD.holds_of (l := PySem.Challenge.rw_whence_k09_sums) (q := K09.vw) K09.left (by first | assumption | decide +kernel) (by rfl) (by rfl) (by rfl) (by rfl) (by decide +kernel) ⟨rfl, rfl, rfl, rfl, rfl, by decide +kernel⟩ ?hw ?hc
  (case hw => w_witness2)
  k_fill
  refine K09.walk (l := PySem.Challenge.rw_whence_k09_sums) rfl rfl rfl (fun w h Y => PySem.W.kIn_of Y) ?T
  case T =>
    intro w mg h KX G
    refine' K09.txt_mk KX G ?aC_Sums ?pgC_Sums ?hdC_Sums ?poC_Sums ?saC_Sums ?mkC_Sums ?kcC_Sums ?nC_Sumsnought ?nC_Sumsone ?af_is_whole ?lf_is_whole ?cf_is_whole ?kf_is_whole ?af_is_texts ?lf_is_texts ?cf_is_texts ?kf_is_texts ?af_never_falls ?lf_never_falls ?cf_never_falls ?kf_never_falls ?af_always_rises ?lf_always_rises ?cf_always_rises ?kf_always_rises ?af_Sums___init__ ?if_Sums___init__ ?lf_Sums___init__ ?cf_Sums___init__ ?kf_Sums___init__ ?af_Sums_plus ?if_Sums_plus ?lf_Sums_plus ?cf_Sums_plus ?kf_Sums_plus ?af_Sums_times ?if_Sums_times ?lf_Sums_times ?cf_Sums_times ?kf_Sums_times ?af_Sums_is_mark ?if_Sums_is_mark ?lf_Sums_is_mark ?cf_Sums_is_mark ?kf_Sums_is_mark ?af_is_entry ?lf_is_entry ?cf_is_entry ?kf_is_entry ?af_law_at ?lf_law_at ?cf_law_at ?kf_law_at ?af_law_same ?lf_law_same ?cf_law_same ?kf_law_same ?af_law_mix ?lf_law_mix ?cf_law_mix ?kf_law_mix ?af_law_name ?lf_law_name ?cf_law_name ?kf_law_name ?af_law_sum ?lf_law_sum ?cf_law_sum ?kf_law_sum ?af_law_sorted ?lf_law_sorted ?cf_law_sorted ?kf_law_sorted ?af_law_plus ?lf_law_plus ?cf_law_plus ?kf_law_plus ?af_law_times ?lf_law_times ?cf_law_times ?kf_law_times ?af_law ?lf_law ?cf_law ?kf_law ?zall ?zbool ?zdict ?zint ?zisinstance ?zlen ?zlist ?zrange ?zsorted ?zstr ?ztuple ?zzip
    (case aC_Sums => k_is)
    (case pgC_Sums => k_is)
    (case hdC_Sums => k_is)
    (case poC_Sums => k_is)
    (case saC_Sums => k_is)
    (case mkC_Sums => k_is)
    (case kcC_Sums => k_is)
    (case nC_Sumsnought => k_is)
    (case nC_Sumsone => k_is)
    (case af_is_whole => k_is)
    (case lf_is_whole => k_is)
    (case cf_is_whole => k_is)
    (case kf_is_whole => k_is)
    (case af_is_texts => k_is)
    (case lf_is_texts => k_is)
    (case cf_is_texts => k_is)
    (case kf_is_texts => k_is)
    (case af_never_falls => k_is)
    (case lf_never_falls => k_is)
    (case cf_never_falls => k_is)
    (case kf_never_falls => k_is)
    (case af_always_rises => k_is)
    (case lf_always_rises => k_is)
    (case cf_always_rises => k_is)
    (case kf_always_rises => k_is)
    (case af_Sums___init__ => k_is)
    (case if_Sums___init__ => k_is)
    (case lf_Sums___init__ => k_is)
    (case cf_Sums___init__ => k_is)
    (case kf_Sums___init__ => k_is)
    (case af_Sums_plus => k_is)
    (case if_Sums_plus => k_is)
    (case lf_Sums_plus => k_is)
    (case cf_Sums_plus => k_is)
    (case kf_Sums_plus => k_is)
    (case af_Sums_times => k_is)
    (case if_Sums_times => k_is)
    (case lf_Sums_times => k_is)
    (case cf_Sums_times => k_is)
    (case kf_Sums_times => k_is)
    (case af_Sums_is_mark => k_is)
    (case if_Sums_is_mark => k_is)
    (case lf_Sums_is_mark => k_is)
    (case cf_Sums_is_mark => k_is)
    (case kf_Sums_is_mark => k_is)
    (case af_is_entry => k_is)
    (case lf_is_entry => k_is)
    (case cf_is_entry => k_is)
    (case kf_is_entry => k_is)
    (case af_law_at => k_is)
    (case lf_law_at => k_is)
    (case cf_law_at => k_is)
    (case kf_law_at => k_is)
    (case af_law_same => k_is)
    (case lf_law_same => k_is)
    (case cf_law_same => k_is)
    (case kf_law_same => k_is)
    (case af_law_mix => k_is)
    (case lf_law_mix => k_is)
    (case cf_law_mix => k_is)
    (case kf_law_mix => k_is)
    (case af_law_name => k_is)
    (case lf_law_name => k_is)
    (case cf_law_name => k_is)
    (case kf_law_name => k_is)
    (case af_law_sum => k_is)
    (case lf_law_sum => k_is)
    (case cf_law_sum => k_is)
    (case kf_law_sum => k_is)
    (case af_law_sorted => k_is)
    (case lf_law_sorted => k_is)
    (case cf_law_sorted => k_is)
    (case kf_law_sorted => k_is)
    (case af_law_plus => k_is)
    (case lf_law_plus => k_is)
    (case cf_law_plus => k_is)
    (case kf_law_plus => k_is)
    (case af_law_times => k_is)
    (case lf_law_times => k_is)
    (case cf_law_times => k_is)
    (case kf_law_times => k_is)
    (case af_law => k_is)
    (case lf_law => k_is)
    (case cf_law => k_is)
    (case kf_law => k_is)
    (case zall => k_is)
    (case zbool => k_is)
    (case zdict => k_is)
    (case zint => k_is)
    (case zisinstance => k_is)
    (case zlen => k_is)
    (case zlist => k_is)
    (case zrange => k_is)
    (case zsorted => k_is)
    (case zstr => k_is)
    (case ztuple => k_is)
    (case zzip => k_is)
